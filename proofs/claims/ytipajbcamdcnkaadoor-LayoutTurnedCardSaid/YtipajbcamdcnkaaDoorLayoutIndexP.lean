/- layout.Index of this program, at any numbers. Conditions: none. -/
import Derived.Test.YtipajbcamdcnkaaDoorLayoutPlace
namespace Go.Layout
theorem index_none {k n i j : Nat} (hk : 1 ≤ k) (hk7 : k ≤ 7) (hc : count k n = 0) (hi : i < n) (hj : j < n) : index k n i j = -1 := by
  have hno : ∀ p q, p < n → q < n → ¬ tells k p q = true := fun p q hp hq h => by
    have := rank_lt hp hq h
    rw [places_length hk hk7, hc] at this
    omega
  unfold index
  rw [if_neg (hno i j hi hj), if_neg (hno j i hj hi)]
end Go.Layout
namespace Go.Proofs
open Go.RowKit Go.Shelf Go.Layout
attribute [local go_sem] Oper.semAt_some

set_option maxRecDepth 100000 in
set_option maxHeartbeats 1000000 in
theorem Tryd.Index_zero (k n i j : Int) (w : World) (h : countE k n = 0) :
    Calls Tryd.prog 12 #[.int .i64 k, .int .i64 n, .int .i64 i, .int .i64 j] w fun e w' => e = .returned (.int .i64 (-1)) ∧ Below w.heap.size w w' := by
  have C := fun (w : World) => Tryd.Count_any k n w
  rw [h] at C
  clear h
  go_enter Tryd.func12, Tryd.ntmps12
  go_wp2_with (fail)
  refine (C _).mono ?_
  rintro e w1 ⟨rfl, hb1⟩
  go_wp2
  go_ret
  exact ⟨rfl, hb1⟩
set_option maxRecDepth 100000 in
set_option maxHeartbeats 1000000 in
theorem Tryd.Index_far (k n i j : Int) (w : World) (h : countE k n ≠ 0) (ho : withinB i n = false ∨ withinB j n = false) :
    Calls Tryd.prog 12 #[.int .i64 k, .int .i64 n, .int .i64 i, .int .i64 j] w fun e w' => e = .returned (.int .i64 (-1)) ∧ Below w.heap.size w w' := by
  have C := fun (w : World) => Tryd.Count_any k n w
  have d0 : (countE k n == 0) = false := beq_eq_false_iff_ne.2 h
  generalize countE k n = c at C d0
  clear h
  have W1 := fun (w : World) => Tryd.within_calls i n w
  have W2 := fun (w : World) => Tryd.within_calls j n w
  cases h1 : withinB i n with
  | false =>
    rw [h1] at W1
    clear ho W2 h1
    go_enter Tryd.func12, Tryd.ntmps12
    go_wp2_with (fail)
    refine (C _).mono ?_
    rintro e w1 ⟨rfl, hb1⟩
    go_wp2_with (go_at_call 26; (with_reducible refine (W1 _).mono ?_); rintro e w2 ⟨rfl, hw2⟩; obtain rfl : w1 = w2 := hw2.symm)
    go_ret
    exact ⟨rfl, hb1⟩
  | true =>
    rw [h1] at W1
    rw [show withinB j n = false by rcases ho with h | h; · rw [h1] at h; cases h
                                    · exact h] at W2
    clear ho
    clear h1
    go_enter Tryd.func12, Tryd.ntmps12
    go_wp2_with (fail)
    refine (C _).mono ?_
    rintro e w1 ⟨rfl, hb1⟩
    go_wp2_with (go_at_call 26; first
        | ((with_reducible refine (W1 _).mono ?_); rintro e w2 ⟨rfl, hw2⟩; obtain rfl : w1 = w2 := hw2.symm)
        | ((with_reducible refine (W2 _).mono ?_); rintro e w2 ⟨rfl, hw2⟩; obtain rfl : w1 = w2 := hw2.symm))
    go_ret
    exact ⟨rfl, hb1⟩
theorem Tryd.Index_any (k n i j : Int) (w : World) :
    Calls Tryd.prog 12 #[.int .i64 k, .int .i64 n, .int .i64 i, .int .i64 j] w fun e w' => e = .returned (.int .i64 (indexE k n i j)) ∧ Below w.heap.size w w' := by
  by_cases h : mayB k n = true ∧ (0 ≤ i ∧ i < n) ∧ (0 ≤ j ∧ j < n)
  · obtain ⟨hm, hi, hj⟩ := h
    have hb := mayB_true hm
    obtain ⟨k, rfl⟩ := nat_in (show 0 ≤ k by omega)
    obtain ⟨n, rfl⟩ := nat_in (show 0 ≤ n by omega)
    obtain ⟨i, rfl⟩ := nat_in hi.1
    obtain ⟨j, rfl⟩ := nat_in hj.1
    rw [indexE_in (by omega) (by omega) (by omega) (by omega) (by omega)]
    by_cases hc : count k n = 0
    · rw [index_none (by omega) (by omega) hc (by omega) (by omega)]
      exact Tryd.Index_zero k n i j w (by rw [countE_in (by omega) (by omega) (by omega) (by omega), hc]; rfl)
    · exact Tryd.Index_in k n i j w (by omega) (by omega) (by omega) (by omega) (by omega) hc
  · rw [indexE_out h]
    by_cases hc : countE k n = 0
    · exact Tryd.Index_zero k n i j w hc
    · refine Tryd.Index_far k n i j w hc ?_
      have hm : mayB k n = true := by
        cases hm : mayB k n with
        | true => rfl
        | false => exact absurd (countE_out hm) hc
      by_cases h1 : 0 ≤ i ∧ i < n
      · right
        have : ¬ (0 ≤ j ∧ j < n) := fun h2 => h ⟨hm, h1, h2⟩
        simp [withinB]; omega
      · left
        simp [withinB]; omega
#print axioms Tryd.Index_any
end Go.Proofs
