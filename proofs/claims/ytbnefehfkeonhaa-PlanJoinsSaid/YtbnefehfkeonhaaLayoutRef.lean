/- The document's own answers for layer 7 on places: may, tells, row, column, at, Index, Count. Conditions: where a layout is asked of, that it is one. -/
import Derived.Test.YtbnefehfkeonhaaLayoutPlain
import Derived.Shelf.Abstract
import Derived.Shelf.RegionOpen
import Derived.WalkKit
import Derived.LoopNIn
import Derived.LoopIn
import Derived.Lib.OthersKept
import Derived.Lib.Hide
import Derived.Test.YtbnefehfkeonhaaProg
namespace Go.Layout
def mayB (k n : Int) : Bool := (decide (1 ≤ k) && decide (k ≤ 7)) && (decide (1 ≤ n) && decide (n ≤ 400))
theorem mayB_true {k n : Int} (h : mayB k n = true) : (1 ≤ k ∧ k ≤ 7) ∧ 1 ≤ n ∧ n ≤ 400 := by simpa [mayB] using h
theorem mayB_nat {k n : Nat} (h1 : 1 ≤ k) (h2 : k ≤ 7) (h3 : 1 ≤ n) (h4 : n ≤ 400) : mayB k n = true := by simp [mayB]; omega
theorem rowUp_le (k a b : Nat) : rowUp k a b ≤ b := by
  induction b with
  | zero => exact Nat.le_refl _
  | succ b ih => rw [rowUp]; split <;> omega
theorem rowsUp_le (k n a : Nat) : rowsUp k n a ≤ a * n := by
  induction a with
  | zero => simp [rowsUp]
  | succ a ih => have := rowUp_le k a n; rw [rowsUp, Nat.add_mul]; omega
theorem told_row {k a b : Nat} (hk : k ≠ 6) (hk2 : k ≠ 7) : told k a b = tells k a b := by simp [told, cellAt, hk, hk2]
theorem told_col {k a b : Nat} (hk : k = 6 ∨ k = 7) : told k a b = tells k b a := by simp [told, cellAt, hk]
theorem rank_row {k n i j : Nat} (hk : k ≠ 6) (hk2 : k ≠ 7) (hi : i < n) (hj : j < n) : rank k n i j = rowsUp k n i + rowUp k i j := by
  unfold rank
  have : cellAt k (i, j) = (i, j) := by simp [cellAt, hk, hk2]
  rw [this, len_at hi (by omega)]
theorem rank_col {k n i j : Nat} (hk : k = 6 ∨ k = 7) (hi : i < n) (hj : j < n) : rank k n i j = rowsUp k n j + rowUp k j i := by
  unfold rank
  have : cellAt k (i, j) = (j, i) := by simp [cellAt, hk]
  rw [this, len_at hj (by omega)]
end Go.Layout
namespace Go.Proofs
open Go.RowKit Go.Shelf Go.Layout
attribute [local go_sem] Oper.semAt_some

theorem lret_is {a b : Bool} (h : a = b) : Ending.returned (.bool a) = .returned (.bool b) := by rw [h]
theorem lret_num {a b : Int} (h : a = b) : Ending.returned (.int .i64 a) = .returned (.int .i64 b) := by rw [h]



end Go.Proofs
