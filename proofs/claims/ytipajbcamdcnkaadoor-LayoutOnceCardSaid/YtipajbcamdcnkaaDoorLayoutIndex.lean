/- The document's own answers for layer 7: Index and Count, at any numbers. Conditions: none. -/
import Derived.Test.YtipajbcamdcnkaaDoorLayoutAt
namespace Go.Layout
/-- layout.Index. -/
def indexE (k n i j : Int) : Int := if mayB k n = true ∧ (0 ≤ i ∧ i < n) ∧ (0 ≤ j ∧ j < n) then index k.toNat n.toNat i.toNat j.toNat else -1
/-- layout.Count. -/
def countE (k n : Int) : Int := if mayB k n = true then (count k.toNat n.toNat : Int) else 0
theorem indexE_in {k n i j : Nat} (h1 : 1 ≤ k) (h2 : k ≤ 7) (h3 : n ≤ 400) (hi : i < n) (hj : j < n) : indexE k n i j = index k n i j := by
  unfold indexE; rw [if_pos ⟨mayB_nat h1 h2 (by omega) h3, by omega, by omega⟩]; simp
theorem indexE_out {k n i j : Int} (h : ¬ (mayB k n = true ∧ (0 ≤ i ∧ i < n) ∧ (0 ≤ j ∧ j < n))) : indexE k n i j = -1 := by unfold indexE; rw [if_neg h]
theorem countE_in {k n : Nat} (h1 : 1 ≤ k) (h2 : k ≤ 7) (h3 : 1 ≤ n) (h4 : n ≤ 400) : countE k n = count k n := by
  unfold countE; rw [if_pos (mayB_nat h1 h2 h3 h4)]; simp
theorem countE_out {k n : Int} (h : mayB k n = false) : countE k n = 0 := by unfold countE; rw [h]; simp
theorem nat_in {z : Int} (h : 0 ≤ z) : ∃ m : Nat, z = (m : Int) := ⟨z.toNat, by omega⟩
end Go.Layout
namespace Go.Proofs
open Go.RowKit Go.Shelf Go.Layout
attribute [local go_sem] Oper.semAt_some

set_option maxRecDepth 100000 in
set_option maxHeartbeats 1000000 in
theorem Tryd.RIndex_in (k n i j : Nat) (w : World) (hk : 1 ≤ k) (hk7 : k ≤ 7) (hn4 : n ≤ 400) (hi : i < n) (hj : j < n) :
    Calls Tryd.prog 13 #[.int .i64 (k : Int), .int .i64 (n : Int), .int .i64 (i : Int), .int .i64 (j : Int)] w fun e w' => e = .returned (.int .i64 (index k n i j)) ∧ w' = w := by
  have M := fun (w : World) => Tryd.rmay_calls k n w
  rw [mayB_nat hk hk7 (by omega) hn4] at M
  have T1 := fun (w : World) => Tryd.rtells_calls k i j w hk hk7
  have T2 := fun (w : World) => Tryd.rtells_calls k j i w hk hk7
  have A1 := fun (w : World) => Tryd.rat_calls k n i j w hk hk7 hn4 hi hj
  have A2 := fun (w : World) => Tryd.rat_calls k n j i w hk hk7 hn4 hj hi
  have d1 : decide ((i : Int) < 0) = false := decide_eq_false (by omega)
  have d2 : decide ((n : Int) ≤ (i : Int)) = false := decide_eq_false (by omega)
  have d3 : decide ((j : Int) < 0) = false := decide_eq_false (by omega)
  have d4 : decide ((n : Int) ≤ (j : Int)) = false := decide_eq_false (by omega)
  unfold index
  generalize rank k n i j = u at A1
  generalize rank k n j i = v at A2
  cases h1 : tells k i j with
  | true =>
    rw [h1] at T1
    rw [if_pos rfl]
    clear h1
    go_enter Tryd.func13, Tryd.ntmps13
    go_wp2_with (first
      | (go_at_call 25; (with_reducible refine (M _).mono ?_); rintro e w1 ⟨rfl, hw1⟩; obtain rfl : w = w1 := hw1.symm)
      | (go_at_call 28; (with_reducible refine (T1 _).mono ?_); rintro e w2 ⟨rfl, hw2⟩; obtain rfl : w = w2 := hw2.symm)
      | (go_at_call 29; (with_reducible refine (A1 _).mono ?_); rintro e w3 ⟨rfl, hw3⟩; obtain rfl : w = w3 := hw3.symm))
    go_ret
    exact ⟨rfl, rfl⟩
  | false =>
    rw [h1] at T1
    cases h2 : tells k j i with
    | true =>
      rw [h2] at T2
      rw [if_neg (by simp), if_pos rfl]
      have hne : ¬ (i = j) := fun e => by subst e; rw [h1] at h2; cases h2
      clear h1 h2
      go_enter Tryd.func13, Tryd.ntmps13
      go_wp2_with (first
        | (go_at_call 25; (with_reducible refine (M _).mono ?_); rintro e w1 ⟨rfl, hw1⟩; obtain rfl : w = w1 := hw1.symm)
        | (go_at_call 28; first
          | ((with_reducible refine (T1 _).mono ?_); rintro e w2 ⟨rfl, hw2⟩; obtain rfl : w = w2 := hw2.symm)
          | ((with_reducible refine (T2 _).mono ?_); rintro e w3 ⟨rfl, hw3⟩; obtain rfl : w = w3 := hw3.symm))
        | (go_at_call 29; (with_reducible refine (A2 _).mono ?_); rintro e w4 ⟨rfl, hw4⟩; obtain rfl : w = w4 := hw4.symm))
      go_ret
      exact ⟨rfl, rfl⟩
    | false =>
      rw [h2] at T2
      rw [if_neg (by simp), if_neg (by simp)]
      clear h1 h2
      go_enter Tryd.func13, Tryd.ntmps13
      go_wp2_with (first
        | (go_at_call 25; (with_reducible refine (M _).mono ?_); rintro e w1 ⟨rfl, hw1⟩; obtain rfl : w = w1 := hw1.symm)
        | (go_at_call 28; first
          | ((with_reducible refine (T1 _).mono ?_); rintro e w2 ⟨rfl, hw2⟩; obtain rfl : w = w2 := hw2.symm)
          | ((with_reducible refine (T2 _).mono ?_); rintro e w3 ⟨rfl, hw3⟩; obtain rfl : w = w3 := hw3.symm)))
      go_ret
      exact ⟨rfl, rfl⟩

set_option maxRecDepth 100000 in
set_option maxHeartbeats 1000000 in
theorem Tryd.RIndex_out (k n i j : Int) (w : World) (h : ¬ (mayB k n = true ∧ (0 ≤ i ∧ i < n) ∧ (0 ≤ j ∧ j < n))) :
    Calls Tryd.prog 13 #[.int .i64 k, .int .i64 n, .int .i64 i, .int .i64 j] w fun e w' => e = .returned (.int .i64 (-1)) ∧ w' = w := by
  have M := fun (w : World) => Tryd.rmay_calls k n w
  cases hm : mayB k n with
  | false =>
    rw [hm] at M
    clear h hm
    go_enter Tryd.func13, Tryd.ntmps13
    go_wp2_with (go_at_call 25; (with_reducible refine (M _).mono ?_); rintro e w1 ⟨rfl, hw1⟩; obtain rfl : w = w1 := hw1.symm)
    go_ret
    exact ⟨rfl, rfl⟩
  | true =>
    rw [hm] at M
    by_cases h1 : i < 0
    · have d1 : decide (i < 0) = true := decide_eq_true h1
      clear h hm
      go_enter Tryd.func13, Tryd.ntmps13
      go_wp2_with (go_at_call 25; (with_reducible refine (M _).mono ?_); rintro e w1 ⟨rfl, hw1⟩; obtain rfl : w = w1 := hw1.symm)
      go_ret
      exact ⟨rfl, rfl⟩
    · have d1 : decide (i < 0) = false := decide_eq_false h1
      by_cases h2 : n ≤ i
      · have d2 : decide (n ≤ i) = true := decide_eq_true h2
        clear h hm
        go_enter Tryd.func13, Tryd.ntmps13
        go_wp2_with (go_at_call 25; (with_reducible refine (M _).mono ?_); rintro e w1 ⟨rfl, hw1⟩; obtain rfl : w = w1 := hw1.symm)
        go_ret
        exact ⟨rfl, rfl⟩
      · have d2 : decide (n ≤ i) = false := decide_eq_false h2
        by_cases h3 : j < 0
        · have d3 : decide (j < 0) = true := decide_eq_true h3
          clear h hm
          go_enter Tryd.func13, Tryd.ntmps13
          go_wp2_with (go_at_call 25; (with_reducible refine (M _).mono ?_); rintro e w1 ⟨rfl, hw1⟩; obtain rfl : w = w1 := hw1.symm)
          go_ret
          exact ⟨rfl, rfl⟩
        · have d3 : decide (j < 0) = false := decide_eq_false h3
          have h4 : n ≤ j := Int.not_lt.1 fun q => h ⟨hm, ⟨by omega, by omega⟩, by omega, q⟩
          have d4 : decide (n ≤ j) = true := decide_eq_true h4
          clear h hm
          go_enter Tryd.func13, Tryd.ntmps13
          go_wp2_with (go_at_call 25; (with_reducible refine (M _).mono ?_); rintro e w1 ⟨rfl, hw1⟩; obtain rfl : w = w1 := hw1.symm)
          go_ret
          exact ⟨rfl, rfl⟩

theorem Tryd.RIndex_calls (k n i j : Int) (w : World) :
    Calls Tryd.prog 13 #[.int .i64 k, .int .i64 n, .int .i64 i, .int .i64 j] w fun e w' => e = .returned (.int .i64 (indexE k n i j)) ∧ w' = w := by
  by_cases h : mayB k n = true ∧ (0 ≤ i ∧ i < n) ∧ (0 ≤ j ∧ j < n)
  · obtain ⟨hm, hi, hj⟩ := h
    have hb := mayB_true hm
    obtain ⟨k, rfl⟩ := nat_in (show 0 ≤ k by omega)
    obtain ⟨n, rfl⟩ := nat_in (show 0 ≤ n by omega)
    obtain ⟨i, rfl⟩ := nat_in hi.1
    obtain ⟨j, rfl⟩ := nat_in hj.1
    rw [indexE_in (by omega) (by omega) (by omega) (by omega) (by omega)]
    exact Tryd.RIndex_in k n i j w (by omega) (by omega) (by omega) (by omega) (by omega)
  · rw [indexE_out h]
    exact Tryd.RIndex_out k n i j w h

set_option maxRecDepth 100000 in
theorem Tryd.RCount_out (k n : Int) (w : World) (h : mayB k n = false) :
    Calls Tryd.prog 11 #[.int .i64 k, .int .i64 n] w fun e w' => e = .returned (.int .i64 0) ∧ w' = w := by
  have M := fun (w : World) => Tryd.rmay_calls k n w
  rw [h] at M
  go_enter Tryd.func11, Tryd.ntmps11
  go_wp2_with (go_at_call 25; (with_reducible refine (M _).mono ?_); rintro e w1 ⟨rfl, hw1⟩; obtain rfl : w = w1 := hw1.symm)
  go_ret
  exact ⟨rfl, rfl⟩
theorem Tryd.RCount_any (k n : Int) (w : World) :
    Calls Tryd.prog 11 #[.int .i64 k, .int .i64 n] w fun e w' => e = .returned (.int .i64 (countE k n)) ∧ w' = w := by
  cases h : mayB k n with
  | false => rw [countE_out h]; exact Tryd.RCount_out k n w h
  | true =>
    have hb := mayB_true h
    obtain ⟨k, rfl⟩ := nat_in (show 0 ≤ k by omega)
    obtain ⟨n, rfl⟩ := nat_in (show 0 ≤ n by omega)
    rw [countE_in (by omega) (by omega) (by omega) (by omega)]
    exact Tryd.RCount_calls k n w (by omega) (by omega) (by omega) (by omega)
#print axioms Tryd.RIndex_calls
#print axioms Tryd.RCount_any
end Go.Proofs
