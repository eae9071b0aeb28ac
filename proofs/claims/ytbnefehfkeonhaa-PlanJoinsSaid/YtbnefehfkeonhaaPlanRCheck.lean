/- The document's own Check of layer 9. Conditions: at most two million routes; routes of at most two million stops; fewer than 2^62 stops. -/
import Derived.Test.YtbnefehfkeonhaaPlanRMany
namespace Go.Proofs
open Go.RowKit Go.Plans
attribute [local go_sem] Oper.semAt_some
def stopsL (l : List Int) : Bool := l.all fun s => decide (0 ≤ s) && decide (s ≤ 399)
theorem stopsIn_eq (rr : Rts) : stopsIn rr = rr.all stopsL := rfl
theorem stopsL_more {l : List Int} {q : Nat} {x : Int} (hx : l[q]? = some x) (h : stopsL (l.take q) = true) (h0 : 0 ≤ x) (h1 : x ≤ 399) : stopsL (l.take (q + 1)) = true := by
  unfold stopsL at h ⊢
  rw [List.take_add_one, hx, List.all_append, h]
  simp [h0, h1]
theorem stopsL_not {l : List Int} {q : Nat} {x : Int} (hx : l[q]? = some x) (h : ¬ (0 ≤ x ∧ x ≤ 399)) : stopsL l = false := by
  cases e : stopsL l with
  | false => rfl
  | true =>
    have := List.all_eq_true.1 e x (List.mem_of_getElem? hx)
    simp at this
    exact absurd this h
theorem stopsIn_more {rr : Rts} {k : Nat} {l : List Int} (hx : rr[k]? = some l) (h : stopsIn (rr.take k) = true) (h1 : stopsL l = true) : stopsIn (rr.take (k + 1)) = true := by
  rw [stopsIn_eq] at h ⊢
  rw [List.take_add_one, hx, List.all_append, h]
  simp [h1]
theorem stopsIn_not {rr : Rts} {k : Nat} {l : List Int} (hx : rr[k]? = some l) (h : stopsL l = false) : stopsIn rr = false := by
  cases e : stopsIn rr with
  | false => rfl
  | true =>
    rw [stopsIn_eq] at e
    have := List.all_eq_true.1 e l (List.mem_of_getElem? hx)
    rw [h] at this; exact absurd this (by simp)
set_option maxRecDepth 100000 in
set_option maxHeartbeats 2000000 in
theorem Try.RPlanCheck_calls (v : Value) (rr : Rts) (w : World) (hl : rr.length ≤ 2000000) (hls : ∀ l ∈ rr, l.length ≤ 2000000) (hm : many rr ≤ 4611686018427387904) (hv : HasRts w v rr) :
    Calls Try.prog 11 #[planV v] w fun e w' => e = .returned (.int .i64 (checkE rr)) ∧ Below w.heap.size w w' := by
  have HV := Lib.hid hv
  obtain ⟨ao, cap, rfl⟩ := hv.len
  have HC : Hid (∀ W, Below w.heap.size w W → Calls Try.prog 17 #[.agg #[.slice ao rr.length cap]] W fun e w' => e = .returned (.int .i64 (many rr : Int)) ∧ Below W.heap.size W w') := fun W hb => Try.RMany_calls _ rr W hl hm (HV.out.next hb)
  obtain ⟨n, hn⟩ : ∃ n, rr.length = n := ⟨_, rfl⟩
  rw [hn] at hl HV HC ⊢
  have HM := Lib.hid hls
  have HN := Lib.hid hn
  have hb0 := (Below.refl _ w).alloc (Nat.le_refl _) (.cells #[.slice ao n cap] 30)
  have B0 := BoxAt.new w (.slice ao n cap) 30
  have HZ : Hid (checkE rr = if 400 < rr.length ∨ 2000 < many rr then 2 else if stopsIn rr = true then 0 else 1) := rfl
  clear hv hn hls
  unfold planV
  by_cases h400 : 400 < n
  · have d : (400 : Int) < (n : Int) := by omega
    have HE : Hid (checkE rr = 2) := by
      rw [HN.out] at HZ
      exact HZ.out.trans (if_pos (Or.inl h400))
    clear HC HM HZ hm
    go_enter Try.func11, Try.ntmps11
    go_wp2
    go_ret
    exact ⟨by rw [HE.out]; rfl, hb0⟩
  · have d : ¬ (400 : Int) < (n : Int) := by omega
    obtain ⟨M, hM⟩ : ∃ M, many rr = M := ⟨_, rfl⟩
    rw [hM] at hm HC HZ
    by_cases h2000 : 2000 < M
    · have d2 : (2000 : Int) < (M : Int) := by omega
      have HE : Hid (checkE rr = 2) := HZ.out.trans (if_pos (Or.inr h2000))
      clear HM HZ hM
      go_enter Try.func11, Try.ntmps11
      go_wp2_with (go_at_call 17; (with_reducible refine Calls.mono (HC.out _ hb0) ?_); rintro e w2 ⟨rfl, hb2⟩)
      go_ret
      exact ⟨by rw [HE.out]; rfl, hb0.trans (hb2.mono (by simp))⟩
    · have d2 : ¬ (2000 : Int) < (M : Int) := by omega
      have HE : Hid (checkE rr = if stopsIn rr = true then 0 else 1) := HZ.out.trans (if_neg (by rw [HN.out]; omega))
      clear HZ hM
      go_enter Try.func11, Try.ntmps11
      go_wp2_with (go_at_call 17; (with_reducible refine Calls.mono (HC.out _ hb0) ?_); rintro e w2 ⟨rfl, hb2⟩; have B1 := B0.next hb2; have hb3 := hb0.trans (hb2.mono (show w.heap.size ≤ _ by simp)); clear B0 hb0 hb2)
      go_loopw [3, 4] (fun i j wr => ∃ k : Nat, k ≤ n ∧ i = .int .i64 (k : Int) ∧ Hid (stopsIn (rr.take k) = true) ∧ BoxAt wr w.heap.size (.slice ao n cap) ∧ Below w.heap.size w wr) (fun i _ _ => n - (intOf i).toNat)
      case atStart => exact ⟨0, Nat.zero_le _, rfl, rfl, B1, hb3⟩
      case round =>
        obtain ⟨k, hk, rfl, HF, hB, hW⟩ := hrel
        have HB := Lib.hid hB
        have HW := Lib.hid hW
        have b0 := hB.1
        have b1 := hB.2
        clear B1 hb3 hB hW
        by_cases hlt : k < n
        · obtain ⟨l, hp⟩ : ∃ l, rr[k]? = some l := ⟨_, List.getElem?_eq_getElem (by have := HN.out; omega)⟩
          have hll := HM.out l (List.mem_of_getElem? hp)
          have HP := Lib.hid hp
          have hki : (k : Int) < (n : Int) := by omega
          clear hp
          go_wp2
          go_loopw [4] (fun j w2 => ∃ q : Nat, q ≤ l.length ∧ j = .int .i64 (q : Int) ∧ Hid (stopsL (l.take q) = true) ∧ BoxAt w2 w.heap.size (.slice ao n cap) ∧ Below w.heap.size w w2) (fun j _ => l.length - (intOf j).toNat)
          case atStart => exact ⟨0, Nat.zero_le _, rfl, rfl, HB.out, HW.out⟩
          case round =>
            obtain ⟨q, hq, rfl, HQ, hB2, hW2⟩ := hrel
            have HB2 := Lib.hid hB2
            have HW2 := Lib.hid hW2
            obtain ⟨b, off, cap', u, hv, hbB, hbw, hc, hu⟩ := HV.out.get HP.out (Nat.le_refl _) hW2
            have c0 := hB2.1
            have c1 := hB2.2
            clear b0 b1 hB2 hW2 HB HW
            by_cases hlt2 : q < l.length
            · obtain ⟨x, hx⟩ : ∃ x, l[q]? = some x := ⟨_, List.getElem?_eq_getElem hlt2⟩
              rcases hu with ⟨rfl, _⟩ | ⟨b2, off2, cap2, rfl, _, hcm, hu⟩
              · simp at hlt2
              injection hv with h1 h2 h3
              subst h1
              have y0 := hu.2 q x hx
              have hb2 := hu.1
              obtain ⟨L, hL⟩ : ∃ L, l.length = L := ⟨_, rfl⟩
              have HX := Lib.hid hx
              rw [hL] at hc hlt2 hll
              have hqi : (q : Int) < (L : Int) := by omega
              have HL := Lib.hid hL
              clear hx hu h2 h3 hL
              by_cases hneg : x < 0
              · have HA : Hid (checkE rr = 1) := by
                  have h := HE.out
                  rwa [stopsIn_not HP.out (stopsL_not HX.out (by omega))] at h
                have d1 : decide (x < 0) = true := decide_eq_true hneg
                go_wp2
                first | (go_quiet (fail); go_wp2) | skip
                go_ret
                first | exact ⟨by rw [HA.out]; rfl, lbelow_drewN HW2.out _⟩ | exact ⟨by rw [HA.out]; rfl, HW2.out⟩
              · have d1 : decide (x < 0) = false := decide_eq_false hneg
                by_cases hbig : 399 < x
                · have HA : Hid (checkE rr = 1) := by
                    have h := HE.out
                    rwa [stopsIn_not HP.out (stopsL_not HX.out (by omega))] at h
                  have d3 : decide (399 < x) = true := decide_eq_true hbig
                  go_wp2
                  first | (go_quiet (fail); go_wp2) | skip
                  go_ret
                  first | exact ⟨by rw [HA.out]; rfl, lbelow_drewN HW2.out _⟩ | exact ⟨by rw [HA.out]; rfl, HW2.out⟩
                · have d3 : decide (399 < x) = false := decide_eq_false hbig
                  have HQ2 := Lib.hid (stopsL_more HX.out HQ.out (by omega) (by omega))
                  go_wp2
                  exact ⟨⟨q + 1, by have := HL.out; omega, by go_num, HQ2, HB2.out, HW2.out⟩, by have := HL.out; simp [intOf]; omega⟩
            · obtain rfl : q = l.length := by omega
              injection hv with h1 h2 h3
              subst h1
              obtain ⟨ao2, cap2, rfl⟩ := hu.len
              have HK : Hid (stopsIn (rr.take (k + 1)) = true) := stopsIn_more HP.out HF.out (by have := HQ.out; rwa [List.take_of_length_le (Nat.le_refl _)] at this)
              clear hu h2 h3
              go_wp2
              exact ⟨⟨k + 1, by omega, by go_num, HK, HB2.out, HW2.out⟩, by simp [intOf]; omega⟩
        · obtain rfl : k = n := by omega
          have HT : Hid (checkE rr = 0) := by
            have h := HF.out
            rw [List.take_of_length_le (by have := HN.out; omega)] at h
            have h2 := HE.out
            rwa [h] at h2
          go_wp2
          go_ret
          exact ⟨by rw [HT.out]; rfl, HW.out⟩
end Go.Proofs
