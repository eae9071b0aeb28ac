/- The document's own comparison of faults, and the law's faults. Conditions: two thousand at most. -/
import Derived.Test.YtogpnkahgkidpaaCanonRows
import Derived.Test.YtogpnkahgkidpaaCanonMatrix
namespace Go.Proofs
open Go.RowKit Go.Shelf Go.Canon
attribute [local go_sem] Oper.semAt_some

theorem Try.info55 : (Try.prog.info? 55).map (fun i => (i.zero, i.size, i.bytes)) = some (some (.agg #[.int .i64 0, .int .i64 0]), 2, 16) := by kernel_rfl
theorem ctake_same {α : Type} {l r : List α} {k : Nat} {x : α} (hl : l[k]? = some x) (hr : r[k]? = some x) (h : l.take k = r.take k) : l.take (k + 1) = r.take (k + 1) := by
  rw [ctake_get hl, ctake_get hr, h]
theorem cne_at {α : Type} {l r : List α} {k : Nat} {x y : α} (hl : l[k]? = some x) (hr : r[k]? = some y) (h : x ≠ y) : l ≠ r := fun e => h (by rw [e, hr] at hl; exact (Option.some.inj hl).symm)
theorem cne_len {α : Type} {l r : List α} (h : l.length ≠ r.length) : l ≠ r := fun e => h (by rw [e])
theorem cells_pair (W : World) (a b : Value) (t : TypeId) : ∀ (j : Nat) (u : Value), [a, b][j]? = some u → (W.alloc (.cells #[a, b] t)).cell? ((⟨W.heap.size, 0, none⟩ : Addr).add j) = some u := by
  intro j u h
  rw [Addr.add_lit, Nat.zero_add]
  have hh := World.alloc_heap_new W (.cells #[a, b] t)
  rcases j with _ | _ | j
  · have e : a = u := by simpa using h
    subst e; unfold World.cell?; simp only [hh]; rfl
  · have e : b = u := by simpa using h
    subst e; unfold World.cell?; simp only [hh]; rfl
  · simp at h
set_option maxRecDepth 100000 in
set_option maxHeartbeats 1000000 in
theorem Try.rfaults_calls (v u : Value) (l r : List (Nat × Nat)) (w : World) (hl : l.length ≤ 1000000) (hr : r.length ≤ 1000000) (hv : HasFts w v l) (hu : HasFts w u r) :
    Calls Try.prog 12 #[v, u] w fun e w' => e = .returned (.bool (decide (l = r))) ∧ Below w.heap.size w w' := by
  obtain ⟨ao, cap, rfl, hv1⟩ := hv.dat
  obtain ⟨ao', cap', rfl, hu1⟩ := hu.dat
  clear hv hu
  by_cases he : l.length = r.length
  · have hn := nat_bne false (decide_eq_true he)
    rcases hv1 with h0 | ⟨b, off, rfl, hd⟩
    · have h1 : r = [] := List.length_eq_zero_iff.1 (by rw [← he, h0]; rfl)
      subst h0; subst h1
      go_enter Try.func12, Try.ntmps12
      go_wp2
      go_loopw [5] (fun i wr => i = .int .i64 0 ∧ Below w.heap.size w wr) (fun _ _ => 0)
      case atStart => exact ⟨rfl, Below.refl _ w⟩
      case round =>
        obtain ⟨rfl, hB⟩ := hrel
        go_wp2
        go_ret
        exact ⟨rfl, hB⟩
    · rcases hu1 with h0 | ⟨b', off', rfl, hd'⟩
      · have h1 : l = [] := List.length_eq_zero_iff.1 (by rw [he, h0]; rfl)
        subst h0; subst h1
        go_enter Try.func12, Try.ntmps12
        go_wp2
        go_loopw [5] (fun i wr => i = .int .i64 0 ∧ Below w.heap.size w wr) (fun _ _ => 0)
        case atStart => exact ⟨rfl, Below.refl _ w⟩
        case round =>
          obtain ⟨rfl, hB⟩ := hrel
          go_wp2
          go_ret
          exact ⟨rfl, hB⟩
      · have HV := Lib.hid hd
        have HU := Lib.hid hd'
        rw [← he]
        obtain ⟨n, hn⟩ : ∃ n, l.length = n := ⟨_, rfl⟩
        rw [hn] at hl he ⊢
        have HN := Lib.hid hn
        have HE := Lib.hid he
        clear hn he hd hd'
        go_enter Try.func12, Try.ntmps12
        go_wp2
        go_loopw [5] (fun i wr => ∃ k : Nat, k ≤ n ∧ i = .int .i64 (k : Int) ∧ Hid (l.take k = r.take k) ∧ Below w.heap.size w wr) (fun i _ => n - (intOf i).toNat)
        case atStart => exact ⟨0, Nat.zero_le _, rfl, rfl, Below.refl _ _⟩
        case round =>
          obtain ⟨k, hk, rfl, hT, hB⟩ := hrel
          by_cases hlt : k < n
          · obtain ⟨x, hx⟩ : ∃ x, l[k]? = some x := ⟨_, List.getElem?_eq_getElem (by have := HN.out; omega)⟩
            obtain ⟨y, hy⟩ : ∃ y, r[k]? = some y := ⟨_, List.getElem?_eq_getElem (by have := HE.out; omega)⟩
            have x0 := (hB.cell (p := ⟨b, off + k * 2, none⟩) HV.out.1).trans (HV.out.2 k x hx).1
            have x1 := (hB.cell (p := ⟨b, off + k * 2 + 1, none⟩) HV.out.1).trans (HV.out.2 k x hx).2
            have y0 := (hB.cell (p := ⟨b', off' + k * 2, none⟩) HU.out.1).trans (HU.out.2 k y hy).1
            have y1 := (hB.cell (p := ⟨b', off' + k * 2 + 1, none⟩) HU.out.1).trans (HU.out.2 k y hy).2
            have hki : (k : Int) < (n : Int) := by omega
            have hxy : (x = y ∧ ((x.1 : Int) == (y.1 : Int)) = true ∧ ((x.2 : Int) == (y.2 : Int)) = true) ∨ (x ≠ y ∧ ((x.1 : Int) == (y.1 : Int)) = false) ∨ (x ≠ y ∧ ((x.1 : Int) == (y.1 : Int)) = true ∧ ((x.2 : Int) == (y.2 : Int)) = false) := by
              by_cases h1 : x.1 = y.1
              · by_cases h2 : x.2 = y.2
                · exact .inl ⟨Prod.ext h1 h2, nat_beq _ (decide_eq_true h1), nat_beq _ (decide_eq_true h2)⟩
                · exact .inr (.inr ⟨fun e => h2 (by rw [e]), nat_beq _ (decide_eq_true h1), nat_beq _ (decide_eq_false h2)⟩)
              · exact .inr (.inl ⟨fun e => h1 (by rw [e]), nat_beq _ (decide_eq_false h1)⟩)
            rcases hxy with ⟨hxy, d0, d1⟩ | ⟨hxy, d0⟩ | ⟨hxy, d0, d1⟩
            · have HT := Lib.hid (ctake_same hx (by rw [hxy]; exact hy) hT.out)
              clear hx hy hT hxy
              go_wp2
              go_quiet (fail)
              go_wp2
              go_roundw
              case rel => exact ⟨k + 1, by omega, by go_num, HT, cbelow_drewN hB _⟩
              case measure => simp [intOf]; omega
            · have HF := Lib.hid (decide_eq_false (cne_at hx hy hxy))
              clear hx hy hT hxy
              go_wp2
              go_quiet (fail)
              go_wp2
              go_ret
              exact ⟨cret_is HF.out.symm, cbelow_drewN hB _⟩
            · have HF := Lib.hid (decide_eq_false (cne_at hx hy hxy))
              clear hx hy hT hxy
              go_wp2
              go_quiet (fail)
              go_wp2
              go_ret
              exact ⟨cret_is HF.out.symm, cbelow_drewN hB _⟩
          · obtain rfl : k = n := by omega
            have HF : Hid (decide (l = r) = true) := by
              unfold Hid
              have h := hT.out
              rw [List.take_of_length_le (by have := HN.out; omega), List.take_of_length_le (by have := HE.out; omega)] at h
              exact decide_eq_true h
            go_wp2
            go_ret
            exact ⟨cret_is HF.out.symm, hB⟩
  · have hn := nat_bne true (decide_eq_false he)
    rw [decide_eq_false (cne_len he)]
    generalize l.length = n at *
    generalize r.length = m at *
    clear hv1 hu1 he
    go_enter Try.func12, Try.ntmps12
    go_wp2
    go_ret
    exact ⟨rfl, Below.refl _ _⟩
set_option maxRecDepth 100000 in
set_option maxHeartbeats 1000000 in
theorem Try.lfaults_calls (v : Value) (l : List (Nat × Nat)) (w : World) (hlen : l.length ≤ 1000000) (hv : HasFts w v l) :
    Calls Try.prog 13 #[v] w fun e w' => ∃ v', e = .returned v' ∧ w'.ownsRow w.heap.size 55 2 v' l.length (l.flatMap ftC) ∧ Below w.heap.size w w' := by
  obtain ⟨i0, hi, hz0, hz1, hz2⟩ := info_parts Try.info55
  rcases hv with ⟨rfl, ao, cap, rfl⟩ | ⟨b, off, cap, rfl, hlc, hcm, hd⟩
  · clear hlen
    go_enter Try.func13, Try.ntmps13
    go_wp2
    go_loopw [3, 4] (fun v' i wr => i = .int .i64 0 ∧ wr.ownsRow w.heap.size 55 2 v' 0 [] ∧ Below w.heap.size w wr) (fun _ _ _ => 0)
    case atStart => exact ⟨rfl, cowns_empty w 55 2, below_box _ _⟩
    case round =>
      obtain ⟨rfl, hown, hB⟩ := hrel
      have HO := Lib.hid hown
      clear hown
      go_wp2
      go_ret
      exact ⟨_, rfl, HO.out, hB⟩
  · have HD := Lib.hid hd
    have HI := Lib.hid hi
    have hbl := hd.1
    clear hd hi
    go_enter Try.func13, Try.ntmps13
    go_wp2
    go_loopw [3, 4] (fun v' i wr => ∃ k : Nat, k ≤ l.length ∧ i = .int .i64 (k : Int) ∧ wr.ownsRow w.heap.size 55 2 v' k ((l.take k).flatMap ftC) ∧ Below w.heap.size w wr) (fun _ i _ => l.length - (intOf i).toNat)
    case atStart => exact ⟨0, Nat.zero_le _, rfl, cowns_empty w 55 2, below_box _ _⟩
    case round =>
      obtain ⟨k, hk, rfl, hown, hB⟩ := hrel
      have hB1 : w.heap.size ≤ wr.heap.size := hB.size
      have hml : k + 1 ≤ maxLen := by unfold maxLen; omega
      have hml2 : (k + 1) * 16 ≤ 140737488355328 := by omega
      by_cases hlt : k < l.length
      · obtain ⟨p, hp⟩ : ∃ p, l[k]? = some p := ⟨_, List.getElem?_eq_getElem hlt⟩
        obtain ⟨x0, x1⟩ := HD.out.2 k p hp
        replace x0 := (hB.cell (p := ⟨b, off + k * 2, none⟩) hbl).trans x0
        replace x1 := (hB.cell (p := ⟨b, off + k * 2 + 1, none⟩) hbl).trans x1
        have HT := Lib.hid (ctake_get hp)
        clear hp
        go_wp2_with (at_builtin; refine wpList_append_own _ rfl _ _ 31 rfl w.heap.size 55 i0 (.agg #[.int .i64 0, .int .i64 0]) 2 16 Try.underlying31 HI.out hz0 hz1 hz2 rfl (by decide) _ _ _ rfl (hown.alloc _) ⟨wr.heap.size, 0, none⟩ 1 1 (ftC p) rfl rfl (cells_pair wr _ _ 55) (by simp [Value.oneCell', ftC]) hml hml2 (by simp; omega) ?_; intro v' w1 hown' hgrow _)
        go_roundw
        case rel => exact ⟨k + 1, by omega, by go_num, by rw [HT.out, flat_snoc]; exact hown', cgrown_below hB hB1 hown hgrow⟩
        case measure => simp [intOf]; omega
      · have hkk : k = l.length := by omega
        subst hkk
        rw [List.take_length] at hown
        have HO := Lib.hid hown
        clear hown
        go_wp2
        go_ret
        exact ⟨_, rfl, HO.out, hB⟩
end Go.Proofs
