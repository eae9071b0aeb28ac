/- The laws LayoutUnpacks and LayoutPacks of layer 7, as contracts: they answer true at every input. Conditions: the array of keywords holds what the card lays. -/
import Derived.Test.YtipajbcamdcnkaaDoorLayoutShown
import Derived.Test.YtipajbcamdcnkaaDoorLayoutRPack
namespace Go.Layout
theorem count_most {k n : Nat} (hk : 1 ≤ k) (hk7 : k ≤ 7) (hn4 : n ≤ 400) : count k n ≤ 160000 := by
  rw [← rowsUp_count hk hk7]
  have h1 := rowsUp_le k n n
  have h2 : n * n ≤ 400 * 400 := Nat.mul_le_mul hn4 hn4
  omega
theorem unpackE_most (k n : Int) (l : List Int) : (unpackE k n l).1.length ≤ 2000000 := by
  unfold unpackE
  split
  · simp
  · rename_i h
    have hb := mayB_true (by simpa using h)
    split
    · simp only [unpack, grid_length]
      have : n.toNat * n.toNat ≤ 400 * 400 := Nat.mul_le_mul (by omega) (by omega)
      omega
    · simp
theorem packE_most (k n : Int) (m : List Int) : (packE k n m).1.length ≤ 2000000 := by
  unfold packE
  split
  · simp
  · rename_i h
    have hb := mayB_true (by simpa using h)
    split
    · simp only [pack_length]
      rw [places_length (by omega) (by omega)]
      have := count_most (k := k.toNat) (n := n.toNat) (by omega) (by omega) (by omega)
      omega
    · simp
end Go.Layout
namespace Go.Proofs
open Go.RowKit Go.Shelf Go.Layout Go.TextTab
attribute [local go_sem] Oper.semAt_some

theorem Tryd.RInts_same (v u : Value) (l : List Int) (w : World) (hl : l.length ≤ 2000000) (hv : HasInts w v l) (hu : HasInts w u l) :
    Calls Tryd.prog 20 #[v, u] w fun e w' => e = .returned (.bool true) ∧ Below w.heap.size w w' :=
  (Tryd.RInts_calls v u l l w hl hv hu).mono fun e w' ⟨x, y⟩ => ⟨by rw [x, decide_eq_true rfl], y⟩

set_option maxRecDepth 100000 in
set_option maxHeartbeats 1000000 in
theorem Tryd.LayoutUnpacks_out (k n : Int) (v : Value) (l : List Int) (w : World) (hT : LayTab w) (hv : HasInts w v l) (h : decide ((400 : Int) < (l.length : Int)) = true ∨ (decide ((400 : Int) < (l.length : Int)) = false ∧ decide (20 < n) = true ∧ decide (n ≤ 400) = true)) :
    Calls Tryd.prog 4 #[.int .i64 k, .int .i64 n, v] w fun e w' => e = .returned (.bool true) ∧ Below w.heap.size w w' := by
  have S := Tryd.shown_calls w hT
  clear hT
  obtain ⟨ao, cap, rfl, _⟩ := hv.dat
  clear hv
  generalize l.length = L at h
  rcases h with c1 | ⟨c1, c2, c3⟩
  all_goals
    go_enter Tryd.func4, Tryd.ntmps4
    go_wp2_with (go_at_call 9; (with_reducible refine S.mono ?_); rintro e w3 ⟨rfl, hb⟩)
    go_ret
    exact ⟨rfl, hb⟩
set_option maxRecDepth 100000 in
set_option maxHeartbeats 1000000 in
theorem Tryd.LayoutUnpacks_in (k n : Int) (v : Value) (l : List Int) (w : World) (hT : LayTab w) (hv : HasInts w v l) (c1 : decide ((400 : Int) < (l.length : Int)) = false) (h : decide (20 < n) = false ∨ (decide (20 < n) = true ∧ decide (n ≤ 400) = false)) :
    Calls Tryd.prog 4 #[.int .i64 k, .int .i64 n, v] w fun e w' => e = .returned (.bool true) ∧ Below w.heap.size w w' := by
  have S := Tryd.shown_calls w hT
  have C := fun (W : World) (h : HasInts W v l) => Tryd.Unpack_calls k n v l W h
  have R := fun (W : World) (h : HasInts W v l) => Tryd.RUnpack_calls k n v l W h
  have hm := unpackE_most k n l
  obtain ⟨⟨m1, e1⟩, hU⟩ : ∃ U, unpackE k n l = U := ⟨_, rfl⟩
  rw [hU] at C R hm
  have I := fun (a b : Value) (W : World) (h1 : HasInts W a m1) (h2 : HasInts W b m1) => Tryd.RInts_same a b m1 W hm h1 h2
  obtain ⟨ao, cap, hvs, _⟩ := hv.dat
  have HV := Lib.hid hv
  have HC := Lib.hid C
  have HR := Lib.hid R
  have HI := Lib.hid I
  subst hvs
  generalize l.length = L at c1 HV HC HR ⊢
  clear hT hv C R I hm hU
  rcases h with c2 | ⟨c2, c3⟩
  all_goals
    go_enter Tryd.func4, Tryd.ntmps4
    go_wp2_with (go_at_call 9; (with_reducible refine S.mono ?_); rintro e w1 ⟨rfl, hb1⟩; clear S)
    refine (HC.out _ (HV.out.next hb1)).mono ?_
    rintro e w2 ⟨v2, rfl, h2, hb2⟩
    have H2 := Lib.hid h2
    obtain ⟨ao2, cap2, rfl, _⟩ := h2.dat
    clear h2
    go_wp2_with (fail)
    refine (HR.out _ ((HV.out.next hb1).next hb2)).mono ?_
    rintro e w3 ⟨v3, rfl, h3, hb3⟩
    have H3 := Lib.hid h3
    obtain ⟨ao3, cap3, rfl, _⟩ := h3.dat
    clear h3
    go_wp2_with (fail)
    refine (HI.out _ _ _ (H2.out.next hb3) H3.out).mono ?_
    rintro e w4 ⟨rfl, hb4⟩
    have hB := (hb1.trans (hb2.mono hb1.size)).trans ((hb3.trans (hb4.mono hb3.size)).mono (Nat.le_trans hb1.size hb2.size))
    go_wp2
    go_ret
    exact ⟨rfl, hB⟩
theorem Tryd.LayoutUnpacks_calls (k n : Int) (v : Value) (l : List Int) (w : World) (hT : LayTab w) (hv : HasInts w v l) :
    Calls Tryd.prog 4 #[.int .i64 k, .int .i64 n, v] w fun e w' => e = .returned (.bool true) ∧ Below w.heap.size w w' := by
  by_cases h1 : (400 : Int) < (l.length : Int)
  · exact Tryd.LayoutUnpacks_out k n v l w hT hv (.inl (decide_eq_true h1))
  · by_cases h2 : 20 < n
    · by_cases h3 : n ≤ 400
      · exact Tryd.LayoutUnpacks_out k n v l w hT hv (.inr ⟨decide_eq_false h1, decide_eq_true h2, decide_eq_true h3⟩)
      · exact Tryd.LayoutUnpacks_in k n v l w hT hv (decide_eq_false h1) (.inr ⟨decide_eq_true h2, decide_eq_false h3⟩)
    · exact Tryd.LayoutUnpacks_in k n v l w hT hv (decide_eq_false h1) (.inl (decide_eq_false h2))
#print axioms Tryd.LayoutUnpacks_calls
set_option maxRecDepth 100000 in
set_option maxHeartbeats 1000000 in
theorem Tryd.LayoutPacks_out (k n : Int) (v : Value) (l : List Int) (w : World) (hT : LayTab w) (hv : HasInts w v l) (h : decide ((400 : Int) < (l.length : Int)) = true ∨ (decide ((400 : Int) < (l.length : Int)) = false ∧ decide (20 < n) = true ∧ decide (n ≤ 400) = true)) :
    Calls Tryd.prog 5 #[.int .i64 k, .int .i64 n, v] w fun e w' => e = .returned (.bool true) ∧ Below w.heap.size w w' := by
  have S := Tryd.shown_calls w hT
  clear hT
  obtain ⟨ao, cap, rfl, _⟩ := hv.dat
  clear hv
  generalize l.length = L at h
  rcases h with c1 | ⟨c1, c2, c3⟩
  all_goals
    go_enter Tryd.func5, Tryd.ntmps5
    go_wp2_with (go_at_call 9; (with_reducible refine S.mono ?_); rintro e w3 ⟨rfl, hb⟩)
    go_ret
    exact ⟨rfl, hb⟩
set_option maxRecDepth 100000 in
set_option maxHeartbeats 1000000 in
theorem Tryd.LayoutPacks_in (k n : Int) (v : Value) (l : List Int) (w : World) (hT : LayTab w) (hv : HasInts w v l) (c1 : decide ((400 : Int) < (l.length : Int)) = false) (h : decide (20 < n) = false ∨ (decide (20 < n) = true ∧ decide (n ≤ 400) = false)) :
    Calls Tryd.prog 5 #[.int .i64 k, .int .i64 n, v] w fun e w' => e = .returned (.bool true) ∧ Below w.heap.size w w' := by
  have S := Tryd.shown_calls w hT
  have C := fun (W : World) (h : HasInts W v l) => Tryd.Pack_calls k n v l W h
  have R := fun (W : World) (h : HasInts W v l) => Tryd.RPack_calls k n v l W h
  have hm := packE_most k n l
  obtain ⟨⟨m1, e1⟩, hU⟩ : ∃ U, packE k n l = U := ⟨_, rfl⟩
  rw [hU] at C R hm
  have I := fun (a b : Value) (W : World) (h1 : HasInts W a m1) (h2 : HasInts W b m1) => Tryd.RInts_same a b m1 W hm h1 h2
  obtain ⟨ao, cap, hvs, _⟩ := hv.dat
  have HV := Lib.hid hv
  have HC := Lib.hid C
  have HR := Lib.hid R
  have HI := Lib.hid I
  subst hvs
  generalize l.length = L at c1 HV HC HR ⊢
  clear hT hv C R I hm hU
  rcases h with c2 | ⟨c2, c3⟩
  all_goals
    go_enter Tryd.func5, Tryd.ntmps5
    go_wp2_with (go_at_call 9; (with_reducible refine S.mono ?_); rintro e w1 ⟨rfl, hb1⟩; clear S)
    refine (HC.out _ (HV.out.next hb1)).mono ?_
    rintro e w2 ⟨v2, rfl, h2, hb2⟩
    have H2 := Lib.hid h2
    obtain ⟨ao2, cap2, rfl, _⟩ := h2.dat
    clear h2
    go_wp2_with (fail)
    refine (HR.out _ ((HV.out.next hb1).next hb2)).mono ?_
    rintro e w3 ⟨v3, rfl, h3, hb3⟩
    have H3 := Lib.hid h3
    obtain ⟨ao3, cap3, rfl, _⟩ := h3.dat
    clear h3
    go_wp2_with (fail)
    refine (HI.out _ _ _ (H2.out.next hb3) H3.out).mono ?_
    rintro e w4 ⟨rfl, hb4⟩
    have hB := (hb1.trans (hb2.mono hb1.size)).trans ((hb3.trans (hb4.mono hb3.size)).mono (Nat.le_trans hb1.size hb2.size))
    go_wp2
    go_ret
    exact ⟨rfl, hB⟩
theorem Tryd.LayoutPacks_calls (k n : Int) (v : Value) (l : List Int) (w : World) (hT : LayTab w) (hv : HasInts w v l) :
    Calls Tryd.prog 5 #[.int .i64 k, .int .i64 n, v] w fun e w' => e = .returned (.bool true) ∧ Below w.heap.size w w' := by
  by_cases h1 : (400 : Int) < (l.length : Int)
  · exact Tryd.LayoutPacks_out k n v l w hT hv (.inl (decide_eq_true h1))
  · by_cases h2 : 20 < n
    · by_cases h3 : n ≤ 400
      · exact Tryd.LayoutPacks_out k n v l w hT hv (.inr ⟨decide_eq_false h1, decide_eq_true h2, decide_eq_true h3⟩)
      · exact Tryd.LayoutPacks_in k n v l w hT hv (decide_eq_false h1) (.inr ⟨decide_eq_true h2, decide_eq_false h3⟩)
    · exact Tryd.LayoutPacks_in k n v l w hT hv (decide_eq_false h1) (.inl (decide_eq_false h2))
#print axioms Tryd.LayoutPacks_calls
end Go.Proofs
