/- The document's own answers for layer 7 on places: may, tells, row, column, at, Index, Count. Conditions: where a layout is asked of, that it is one. -/
import Derived.Test.YtipajbcamdcnkaaDoorLayoutPlain
import Derived.Shelf.Abstract
import Derived.Shelf.RegionOpen
import Derived.WalkKit
import Derived.LoopNIn
import Derived.LoopIn
import Derived.Lib.OthersKept
import Derived.Lib.Hide
import Derived.Test.YtipajbcamdcnkaaDoorProg
namespace Go.Layout
def mayB (k n : Int) : Bool := (decide (1 ≤ k) && decide (k ≤ 7)) && (decide (1 ≤ n) && decide (n ≤ 400))
theorem mayB_true {k n : Int} (h : mayB k n = true) : (1 ≤ k ∧ k ≤ 7) ∧ 1 ≤ n ∧ n ≤ 400 := by simpa [mayB] using h
theorem mayB_nat {k n : Nat} (h1 : 1 ≤ k) (h2 : k ≤ 7) (h3 : 1 ≤ n) (h4 : n ≤ 400) : mayB k n = true := by simp [mayB]; omega
theorem rowUp_le (k a b : Nat) : rowUp k a b ≤ b := by
  induction b with
  | zero => exact Nat.le_refl _
  | succ b ih => rw [rowUp]; split <;> omega
theorem rowsUp_le (k n a : Nat) : rowsUp k n a ≤ a * n := by
  induction a with
  | zero => simp [rowsUp]
  | succ a ih => have := rowUp_le k a n; rw [rowsUp, Nat.add_mul]; omega
theorem told_row {k a b : Nat} (hk : k ≠ 6) (hk2 : k ≠ 7) : told k a b = tells k a b := by simp [told, cellAt, hk, hk2]
theorem told_col {k a b : Nat} (hk : k = 6 ∨ k = 7) : told k a b = tells k b a := by simp [told, cellAt, hk]
theorem rank_row {k n i j : Nat} (hk : k ≠ 6) (hk2 : k ≠ 7) (hi : i < n) (hj : j < n) : rank k n i j = rowsUp k n i + rowUp k i j := by
  unfold rank
  have : cellAt k (i, j) = (i, j) := by simp [cellAt, hk, hk2]
  rw [this, len_at hi (by omega)]
theorem rank_col {k n i j : Nat} (hk : k = 6 ∨ k = 7) (hi : i < n) (hj : j < n) : rank k n i j = rowsUp k n j + rowUp k j i := by
  unfold rank
  have : cellAt k (i, j) = (j, i) := by simp [cellAt, hk]
  rw [this, len_at hj (by omega)]
end Go.Layout
namespace Go.Proofs
open Go.RowKit Go.Shelf Go.Layout
attribute [local go_sem] Oper.semAt_some

theorem lret_is {a b : Bool} (h : a = b) : Ending.returned (.bool a) = .returned (.bool b) := by rw [h]
theorem lret_num {a b : Int} (h : a = b) : Ending.returned (.int .i64 a) = .returned (.int .i64 b) := by rw [h]

theorem Tryd.rmay_calls (k n : Int) (w : World) :
    Calls Tryd.prog 25 #[.int .i64 k, .int .i64 n] w fun e w' => e = .returned (.bool (mayB k n)) ∧ w' = w := by
  by_cases h1 : 1 ≤ k
  · by_cases h2 : k ≤ 7
    · by_cases h3 : 1 ≤ n
      · by_cases h4 : n ≤ 400
        · go_enter Tryd.func25, Tryd.ntmps25
          go_wp2
          go_ret
          exact ⟨lret_is (by simp [mayB]; omega), rfl⟩
        · go_enter Tryd.func25, Tryd.ntmps25
          go_wp2
          go_ret
          exact ⟨lret_is (by simp [mayB]; omega), rfl⟩
      · go_enter Tryd.func25, Tryd.ntmps25
        go_wp2
        go_ret
        exact ⟨lret_is (by simp [mayB]; omega), rfl⟩
    · go_enter Tryd.func25, Tryd.ntmps25
      go_wp2
      go_ret
      exact ⟨lret_is (by simp [mayB]; omega), rfl⟩
  · go_enter Tryd.func25, Tryd.ntmps25
    go_wp2
    go_ret
    exact ⟨lret_is (by simp [mayB]; omega), rfl⟩

theorem Tryd.rtells_calls (k i j : Nat) (w : World) (hk : 1 ≤ k) (hk7 : k ≤ 7) :
    Calls Tryd.prog 28 #[.int .i64 (k : Int), .int .i64 (i : Int), .int .i64 (j : Int)] w fun e w' => e = .returned (.bool (tells k i j)) ∧ w' = w := by
  rcases (show k = 1 ∨ k = 2 ∨ k = 3 ∨ k = 4 ∨ k = 5 ∨ k = 6 ∨ k = 7 by omega) with rfl | rfl | rfl | rfl | rfl | rfl | rfl
  all_goals
    go_enter Tryd.func28, Tryd.ntmps28
    go_wp2
    go_ret
    exact ⟨lret_is (by simp [tells]), rfl⟩

theorem Tryd.RCount_calls (k n : Nat) (w : World) (hk : 1 ≤ k) (hk7 : k ≤ 7) (hn : 1 ≤ n) (hn4 : n ≤ 400) :
    Calls Tryd.prog 11 #[.int .i64 (k : Int), .int .i64 (n : Int)] w fun e w' => e = .returned (.int .i64 (count k n : Int)) ∧ w' = w := by
  have M := fun (w : World) => Tryd.rmay_calls k n w
  rw [mayB_nat hk hk7 hn hn4] at M
  have h1 : n * n ≤ 160000 := Nat.mul_le_mul hn4 hn4
  have h2 : n * (n + 1) ≤ 400 * 401 := Nat.mul_le_mul hn4 (Nat.succ_le_succ hn4)
  have h3 : n * (n - 1) ≤ 400 * 400 := Nat.mul_le_mul hn4 (Nat.le_trans (Nat.sub_le n 1) hn4)
  have w1 : wrap64 ((n : Int) * (n : Int)) = ((n * n : Nat) : Int) := by rw [Int.natCast_mul]; unfold wrap64; rw [← Int.natCast_mul]; omega
  have w2 : wrap64 ((n : Int) * ((n : Int) + 1)) = ((n * (n + 1) : Nat) : Int) := by
    rw [show (n : Int) * ((n : Int) + 1) = ((n * (n + 1) : Nat) : Int) by simp]; unfold wrap64; omega
  have w3 : wrap64 ((n : Int) * ((n : Int) - 1)) = ((n * (n - 1) : Nat) : Int) := by
    rw [show (n : Int) * ((n : Int) - 1) = ((n * (n - 1) : Nat) : Int) by rw [Int.natCast_mul, Int.natCast_sub hn]; rfl]; unfold wrap64; omega
  have hC : count k n = if k = 1 then n * n else if k = 4 ∨ k = 5 then n * (n + 1) / 2 else n * (n - 1) / 2 := rfl
  generalize n * n = x1 at h1 w1 hC
  generalize n * (n + 1) = x2 at h2 w2 hC
  generalize n * (n - 1) = x3 at h3 w3 hC
  rcases (show k = 1 ∨ k = 2 ∨ k = 3 ∨ k = 4 ∨ k = 5 ∨ k = 6 ∨ k = 7 by omega) with rfl | rfl | rfl | rfl | rfl | rfl | rfl
  all_goals
    simp at hC
    rw [hC]
    clear hC
    (try simp only [Int.cast_ofNat_Int] at M ⊢)
    (try simp only [Int.natCast_one] at M ⊢)
    go_enter Tryd.func11, Tryd.ntmps11
    go_wp2_with (go_at_call 25; (with_reducible refine (M _).mono ?_); rintro e w1 ⟨rfl, hw1⟩; obtain rfl : w = w1 := hw1.symm)
    go_ret
    exact ⟨lret_num (by first | rfl | exact w1 | go_num), rfl⟩
end Go.Proofs
