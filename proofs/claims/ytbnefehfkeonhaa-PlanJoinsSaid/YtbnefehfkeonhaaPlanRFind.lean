/- The document's own Find of layer 9. Conditions: at most two million routes; routes of at most two million stops. -/
import Derived.Test.YtbnefehfkeonhaaPlanMem
namespace Go.Proofs
open Go.RowKit Go.Plans
attribute [local go_sem] Oper.semAt_some
/-- What Find answers. -/
def findV (o : Option (Nat × Nat)) : Value := match o with
  | some (i, j) => .tuple #[.int .i64 (i : Int), .int .i64 (j : Int), .bool true]
  | none => .tuple #[.int .i64 0, .int .i64 0, .bool false]
theorem place_at {s : Int} : ∀ {l : List Int} {q : Nat}, l[q]? = some s → place s (l.take q) = none → place s l = some q
  | [], q, h, _ => by simp at h
  | a :: l, 0, h, _ => by
    have : a = s := by simpa using h
    unfold place; rw [if_pos this]
  | a :: l, q + 1, h, h2 => by
    have h1 : l[q]? = some s := by simpa using h
    rw [List.take_succ_cons] at h2
    unfold place at h2 ⊢
    by_cases e : a = s
    · rw [if_pos e] at h2; simp at h2
    · rw [if_neg e] at h2 ⊢
      rw [Option.map_eq_none_iff] at h2
      rw [place_at h1 h2]; rfl
theorem place_more {s x : Int} {l : List Int} {q : Nat} (hx : l[q]? = some x) (hne : x ≠ s) (h : place s (l.take q) = none) : place s (l.take (q + 1)) = none := by
  rw [place_none] at h ⊢
  rw [List.take_add_one, hx]
  simp only [Option.toList_some, List.mem_append, List.mem_singleton, not_or]
  exact ⟨h, fun e => hne e.symm⟩
theorem findR_at {s : Int} : ∀ {rr : Rts} {k q : Nat} {l : List Int}, rr[k]? = some l → findR s (rr.take k) = none → place s l = some q → findR s rr = some (k, q)
  | [], k, q, l, h, _, _ => by simp at h
  | r :: rr, 0, q, l, h, _, hp => by
    have : r = l := by simpa using h
    rw [findR_cons, this, hp]
  | r :: rr, k + 1, q, l, h, h2, hp => by
    have h1 : rr[k]? = some l := by simpa using h
    rw [List.take_succ_cons, findR_cons] at h2
    rw [findR_cons]
    cases e : place s r with
    | some j => rw [e] at h2; simp at h2
    | none =>
      rw [e] at h2
      have h3 : findR s (rr.take k) = none := by simpa using h2
      simp only [findR_at h1 h3 hp, Option.map_some]
theorem findR_more {s : Int} {rr : Rts} {k : Nat} {l : List Int} (hx : rr[k]? = some l) (h : findR s (rr.take k) = none) (hp : place s l = none) : findR s (rr.take (k + 1)) = none := by
  rw [findR_none] at h ⊢
  rw [place_none] at hp
  rw [List.take_add_one, hx]
  simp only [Option.toList_some, List.flatten_append, List.flatten_cons, List.flatten_nil, List.append_nil, List.mem_append, not_or]
  exact ⟨h, hp⟩
set_option maxRecDepth 100000 in
set_option maxHeartbeats 1000000 in
theorem Try.RFind_calls (v : Value) (rr : Rts) (s : Int) (w : World) (hl : rr.length ≤ 2000000) (hls : ∀ l ∈ rr, l.length ≤ 2000000) (hv : HasRts w v rr) :
    Calls Try.prog 20 #[planV v, .int .i64 s] w fun e w' => e = .returned (findV (findR s rr)) ∧ Below w.heap.size w w' := by
  have HV := Lib.hid hv
  obtain ⟨ao, cap, rfl⟩ := hv.len
  obtain ⟨n, hn⟩ : ∃ n, rr.length = n := ⟨_, rfl⟩
  rw [hn] at hl HV ⊢
  have HM := Lib.hid hls
  have HN := Lib.hid hn
  have hb0 := (Below.refl _ w).alloc (Nat.le_refl _) (.cells #[.slice ao n cap] 30)
  have B0 := BoxAt.new w (.slice ao n cap) 30
  clear hv hn hls
  unfold planV
  go_enter Try.func20, Try.ntmps20
  go_wp2
  go_loopw [7, 8] (fun i j wr => ∃ k : Nat, k ≤ n ∧ i = .int .i64 (k : Int) ∧ Hid (findR s (rr.take k) = none) ∧ BoxAt wr w.heap.size (.slice ao n cap) ∧ Below w.heap.size w wr) (fun i _ _ => n - (intOf i).toNat)
  case atStart => exact ⟨0, Nat.zero_le _, rfl, rfl, B0, hb0⟩
  case round =>
    obtain ⟨k, hk, rfl, HF, hB, hW⟩ := hrel
    have HB := Lib.hid hB
    have HW := Lib.hid hW
    have b0 := hB.1
    have b1 := hB.2
    clear B0 hb0 hB hW
    by_cases hlt : k < n
    · obtain ⟨l, hp⟩ : ∃ l, rr[k]? = some l := ⟨_, List.getElem?_eq_getElem (by have := HN.out; omega)⟩
      have hll := HM.out l (List.mem_of_getElem? hp)
      have HP := Lib.hid hp
      have hki : (k : Int) < (n : Int) := by omega
      clear hp
      go_wp2
      go_loopw [8] (fun j w2 => ∃ q : Nat, q ≤ l.length ∧ j = .int .i64 (q : Int) ∧ Hid (place s (l.take q) = none) ∧ BoxAt w2 w.heap.size (.slice ao n cap) ∧ Below w.heap.size w w2) (fun j _ => l.length - (intOf j).toNat)
      case atStart => exact ⟨0, Nat.zero_le _, rfl, rfl, HB.out, HW.out⟩
      case round =>
        obtain ⟨q, hq, rfl, HQ, hB2, hW2⟩ := hrel
        have HB2 := Lib.hid hB2
        have HW2 := Lib.hid hW2
        obtain ⟨b, off, cap', u, hv, hbB, hbw, hc, hu⟩ := HV.out.get HP.out (Nat.le_refl _) hW2
        have c0 := hB2.1
        have c1 := hB2.2
        clear b0 b1 hB2 hW2 HB HW
        by_cases hlt2 : q < l.length
        · obtain ⟨x, hx⟩ : ∃ x, l[q]? = some x := ⟨_, List.getElem?_eq_getElem hlt2⟩
          rcases hu with ⟨rfl, _⟩ | ⟨b2, off2, cap2, rfl, _, hcm, hu⟩
          · simp at hlt2
          injection hv with h1 h2 h3
          subst h1
          have y0 := hu.2 q x hx
          have hb2 := hu.1
          obtain ⟨L, hL⟩ : ∃ L, l.length = L := ⟨_, rfl⟩
          have HX := Lib.hid hx
          rw [hL] at hc hlt2 hll
          have hqi : (q : Int) < (L : Int) := by omega
          clear hx hu h2 h3
          by_cases hxs : x = s
          · subst hxs
            have d : (x == x) = true := beq_self_eq_true x
            have HA : Hid (findR x rr = some (k, q)) := findR_at HP.out HF.out (place_at HX.out HQ.out)
            clear hL
            go_wp2
            refine bodyPost_ret (v := .tuple #[.int .i64 (k : Int), .int .i64 (q : Int), .bool true]) (by simp [results, Try.results20, go_sem]) rfl ⟨by rw [HA.out]; rfl, HW2.out⟩
          · have d : (x == s) = false := beq_eq_false_iff_ne.2 hxs
            have HQ2 := Lib.hid (place_more HX.out hxs HQ.out)
            have HL := Lib.hid hL
            clear hL
            go_wp2
            exact ⟨⟨q + 1, by have := HL.out; omega, by go_num, HQ2, HB2.out, HW2.out⟩, by have := HL.out; simp [intOf]; omega⟩
        · obtain rfl : q = l.length := by omega
          injection hv with h1 h2 h3
          subst h1
          have hL := hu.len
          obtain ⟨ao2, cap2, rfl⟩ := hu.len
          have HK : Hid (findR s (rr.take (k + 1)) = none) := findR_more HP.out HF.out (by have := HQ.out; rwa [List.take_of_length_le (Nat.le_refl _)] at this)
          clear hu hL h2 h3
          go_wp2
          exact ⟨⟨k + 1, by omega, by go_num, HK, HB2.out, HW2.out⟩, by simp [intOf]; omega⟩
    · obtain rfl : k = n := by omega
      have HT : Hid (findR s rr = none) := by
        have h := HF.out
        rwa [List.take_of_length_le (by have := HN.out; omega)] at h
      go_wp2
      refine bodyPost_ret (v := .tuple #[.int .i64 0, .int .i64 0, .bool false]) (by simp [results, Try.results20, go_sem]) rfl ⟨by rw [HT.out]; rfl, HW.out⟩
end Go.Proofs
