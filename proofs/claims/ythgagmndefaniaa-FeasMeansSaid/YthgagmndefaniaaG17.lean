/- The document's own comparison of what is wrong, and the law's theirs. Conditions: a million at most. -/
import Derived.Test.YthgagmndefaniaaG07
namespace Go.Proofs
open Go.RowKit Go.Shelf Go.Canon Go.Feas
attribute [local go_sem] Oper.semAt_some

theorem Try.info66 : (Try.prog.info? 66).map (fun i => (i.zero, i.size, i.bytes)) = some (some (.agg #[.int .i64 0, .int .i64 0, .int .i64 0]), 3, 24) := by kernel_rfl
set_option maxRecDepth 100000 in
set_option maxHeartbeats 1000000 in
theorem Try.rsameW_calls (v u : Value) (l r : List Wr) (w : World) (hl : l.length ≤ 1000000) (hr : r.length ≤ 1000000) (hv : HasWrs w v l) (hu : HasWrs w u r) :
    Calls Try.prog 15 #[v, u] w fun e w' => e = .returned (.bool (decide (l = r))) ∧ Below w.heap.size w w' := by
  obtain ⟨ao, cap, rfl, hv1⟩ := hv.dat
  obtain ⟨ao', cap', rfl, hu1⟩ := hu.dat
  clear hv hu
  by_cases he : l.length = r.length
  · have hn := nat_bne false (decide_eq_true he)
    rcases hv1 with h0 | ⟨b, off, rfl, hd⟩
    · have h1 : r = [] := List.length_eq_zero_iff.1 (by rw [← he, h0]; rfl)
      subst h0; subst h1
      go_enter Try.func15, Try.ntmps15
      go_wp2
      go_loopw [5] (fun i wr => i = .int .i64 0 ∧ Below w.heap.size w wr) (fun _ _ => 0)
      case atStart => exact ⟨rfl, Below.refl _ w⟩
      case round =>
        obtain ⟨rfl, hB⟩ := hrel
        go_wp2
        go_ret
        exact ⟨rfl, hB⟩
    · rcases hu1 with h0 | ⟨b', off', rfl, hd'⟩
      · have h1 : l = [] := List.length_eq_zero_iff.1 (by rw [he, h0]; rfl)
        subst h0; subst h1
        go_enter Try.func15, Try.ntmps15
        go_wp2
        go_loopw [5] (fun i wr => i = .int .i64 0 ∧ Below w.heap.size w wr) (fun _ _ => 0)
        case atStart => exact ⟨rfl, Below.refl _ w⟩
        case round =>
          obtain ⟨rfl, hB⟩ := hrel
          go_wp2
          go_ret
          exact ⟨rfl, hB⟩
      · have HV := Lib.hid hd
        have HU := Lib.hid hd'
        rw [← he]
        obtain ⟨n, hn⟩ : ∃ n, l.length = n := ⟨_, rfl⟩
        rw [hn] at hl he ⊢
        have HN := Lib.hid hn
        have HE := Lib.hid he
        clear hn he hd hd'
        go_enter Try.func15, Try.ntmps15
        go_wp2
        go_loopw [5] (fun i wr => ∃ k : Nat, k ≤ n ∧ i = .int .i64 (k : Int) ∧ Hid (l.take k = r.take k) ∧ Below w.heap.size w wr) (fun i _ => n - (intOf i).toNat)
        case atStart => exact ⟨0, Nat.zero_le _, rfl, rfl, Below.refl _ _⟩
        case round =>
          obtain ⟨k, hk, rfl, hT, hB⟩ := hrel
          by_cases hlt : k < n
          · obtain ⟨x, hx⟩ : ∃ x, l[k]? = some x := ⟨_, List.getElem?_eq_getElem (by have := HN.out; omega)⟩
            obtain ⟨y, hy⟩ : ∃ y, r[k]? = some y := ⟨_, List.getElem?_eq_getElem (by have := HE.out; omega)⟩
            have x0 := (hB.cell (p := ⟨b, off + k * 3, none⟩) HV.out.1).trans (HV.out.2 k x hx).1
            have x1 := (hB.cell (p := ⟨b, off + k * 3 + 1, none⟩) HV.out.1).trans (HV.out.2 k x hx).2.1
            have y0 := (hB.cell (p := ⟨b', off' + k * 3, none⟩) HU.out.1).trans (HU.out.2 k y hy).1
            have y1 := (hB.cell (p := ⟨b', off' + k * 3 + 1, none⟩) HU.out.1).trans (HU.out.2 k y hy).2.1
            have x2 := (hB.cell (p := ⟨b, off + k * 3 + 2, none⟩) HV.out.1).trans (HV.out.2 k x hx).2.2
            have y2 := (hB.cell (p := ⟨b', off' + k * 3 + 2, none⟩) HU.out.1).trans (HU.out.2 k y hy).2.2
            have hki : (k : Int) < (n : Int) := by omega
            have hxy : (x = y ∧ (x.1 == y.1) = true ∧ (x.2.1 == y.2.1) = true ∧ (x.2.2 == y.2.2) = true) ∨ (x ≠ y ∧ (x.1 == y.1) = false) ∨ (x ≠ y ∧ (x.1 == y.1) = true ∧ (x.2.1 == y.2.1) = false) ∨ (x ≠ y ∧ (x.1 == y.1) = true ∧ (x.2.1 == y.2.1) = true ∧ (x.2.2 == y.2.2) = false) := by
              by_cases h1 : x.1 = y.1
              · by_cases h2 : x.2.1 = y.2.1
                · by_cases h3 : x.2.2 = y.2.2
                  · exact .inl ⟨Prod.ext h1 (Prod.ext h2 h3), beq_iff_eq.2 h1, beq_iff_eq.2 h2, beq_iff_eq.2 h3⟩
                  · exact .inr (.inr (.inr ⟨fun e => h3 (by rw [e]), beq_iff_eq.2 h1, beq_iff_eq.2 h2, beq_eq_false_iff_ne.2 h3⟩))
                · exact .inr (.inr (.inl ⟨fun e => h2 (by rw [e]), beq_iff_eq.2 h1, beq_eq_false_iff_ne.2 h2⟩))
              · exact .inr (.inl ⟨fun e => h1 (by rw [e]), beq_eq_false_iff_ne.2 h1⟩)
            rcases hxy with ⟨hxy, d0, d1, d2⟩ | ⟨hxy, d0⟩ | ⟨hxy, d0, d1⟩ | ⟨hxy, d0, d1, d2⟩
            · have HT := Lib.hid (ctake_same hx (by rw [hxy]; exact hy) hT.out)
              clear hx hy hT hxy
              go_wp2
              go_quiet (fail)
              go_wp2
              go_roundw
              case rel => exact ⟨k + 1, by omega, by go_num, HT, cbelow_drewN hB _⟩
              case measure => simp [intOf]; omega
            · have HF := Lib.hid (decide_eq_false (cne_at hx hy hxy))
              clear hx hy hT hxy
              go_wp2
              go_quiet (fail)
              go_wp2
              go_ret
              exact ⟨cret_is HF.out.symm, cbelow_drewN hB _⟩
            · have HF := Lib.hid (decide_eq_false (cne_at hx hy hxy))
              clear hx hy hT hxy
              go_wp2
              go_quiet (fail)
              go_wp2
              go_ret
              exact ⟨cret_is HF.out.symm, cbelow_drewN hB _⟩
            · have HF := Lib.hid (decide_eq_false (cne_at hx hy hxy))
              clear hx hy hT hxy
              go_wp2
              go_quiet (fail)
              go_wp2
              go_ret
              exact ⟨cret_is HF.out.symm, cbelow_drewN hB _⟩
          · obtain rfl : k = n := by omega
            have HF : Hid (decide (l = r) = true) := by
              unfold Hid
              have h := hT.out
              rw [List.take_of_length_le (by have := HN.out; omega), List.take_of_length_le (by have := HE.out; omega)] at h
              exact decide_eq_true h
            go_wp2
            go_ret
            exact ⟨cret_is HF.out.symm, hB⟩
  · have hn := nat_bne true (decide_eq_false he)
    rw [decide_eq_false (cne_len he)]
    generalize l.length = n at *
    generalize r.length = m at *
    clear hv1 hu1 he
    go_enter Try.func15, Try.ntmps15
    go_wp2
    go_ret
    exact ⟨rfl, Below.refl _ _⟩
set_option maxRecDepth 100000 in
set_option maxHeartbeats 1000000 in
theorem Try.theirs_calls (v : Value) (l : List Wr) (w : World) (hlen : l.length ≤ 1000000) (hv : HasWrs w v l) :
    Calls Try.prog 16 #[v] w fun e w' => ∃ v', e = .returned v' ∧ w'.ownsRow w.heap.size 66 3 v' l.length (l.flatMap wrC) ∧ Below w.heap.size w w' := by
  obtain ⟨i0, hi, hz0, hz1, hz2⟩ := info_parts Try.info66
  rcases hv with ⟨rfl, ao, cap, rfl⟩ | ⟨b, off, cap, rfl, hlc, hcm, hd⟩
  · clear hlen
    go_enter Try.func16, Try.ntmps16
    go_wp2
    go_loopw [3, 4] (fun v' i wr => i = .int .i64 0 ∧ wr.ownsRow w.heap.size 66 3 v' 0 [] ∧ Below w.heap.size w wr) (fun _ _ _ => 0)
    case atStart => exact ⟨rfl, cowns_empty w 66 3, below_box _ _⟩
    case round =>
      obtain ⟨rfl, hown, hB⟩ := hrel
      have HO := Lib.hid hown
      clear hown
      go_wp2
      go_ret
      exact ⟨_, rfl, HO.out, hB⟩
  · have HD := Lib.hid hd
    have HI := Lib.hid hi
    have hbl := hd.1
    clear hd hi
    go_enter Try.func16, Try.ntmps16
    go_wp2
    go_loopw [3, 4] (fun v' i wr => ∃ k : Nat, k ≤ l.length ∧ i = .int .i64 (k : Int) ∧ wr.ownsRow w.heap.size 66 3 v' k ((l.take k).flatMap wrC) ∧ Below w.heap.size w wr) (fun _ i _ => l.length - (intOf i).toNat)
    case atStart => exact ⟨0, Nat.zero_le _, rfl, cowns_empty w 66 3, below_box _ _⟩
    case round =>
      obtain ⟨k, hk, rfl, hown, hB⟩ := hrel
      have hB1 : w.heap.size ≤ wr.heap.size := hB.size
      have hml : k + 1 ≤ maxLen := by unfold maxLen; omega
      have hml2 : (k + 1) * 24 ≤ 140737488355328 := by omega
      by_cases hlt : k < l.length
      · obtain ⟨p, hp⟩ : ∃ p, l[k]? = some p := ⟨_, List.getElem?_eq_getElem hlt⟩
        obtain ⟨x0, x1, x2⟩ := HD.out.2 k p hp
        replace x0 := (hB.cell (p := ⟨b, off + k * 3, none⟩) hbl).trans x0
        replace x1 := (hB.cell (p := ⟨b, off + k * 3 + 1, none⟩) hbl).trans x1
        replace x2 := (hB.cell (p := ⟨b, off + k * 3 + 2, none⟩) hbl).trans x2
        have HT := Lib.hid (ctake_get hp)
        clear hp
        go_wp2_with (at_builtin; refine wpList_append_own _ rfl _ _ 35 rfl w.heap.size 66 i0 (.agg #[.int .i64 0, .int .i64 0, .int .i64 0]) 3 24 Try.underlying35 HI.out hz0 hz1 hz2 rfl (by decide) _ _ _ rfl (hown.alloc _) ⟨wr.heap.size, 0, none⟩ 1 1 (wrC p) rfl rfl (cells_wr wr _ _ _ 66) (by simp [Value.oneCell', wrC]) hml hml2 (by simp; omega) ?_; intro v' w1 hown' hgrow _)
        go_roundw
        case rel => exact ⟨k + 1, by omega, by go_num, by rw [HT.out, flat_snoc]; exact hown', cgrown_below hB hB1 hown hgrow⟩
        case measure => simp [intOf]; omega
      · have hkk : k = l.length := by omega
        subst hkk
        rw [List.take_length] at hown
        have HO := Lib.hid hown
        clear hown
        go_wp2
        go_ret
        exact ⟨_, rfl, HO.out, hB⟩
end Go.Proofs
