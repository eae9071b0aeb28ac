/- The small functions of package metric, and those of the document's own answers: Known, fits, size, power, nearest; far. Conditions: where a number is doubled, that it has room. -/
import Derived.Test.YtogpnkahgkidpaaMetricPlain
import Derived.Test.YtogpnkahgkidpaaShelf
import Derived.Shelf.Abstract
import Derived.Shelf.RegionOpen
import Derived.WalkKit
import Derived.LoopNIn
import Derived.LoopIn
import Derived.Lib.OthersKept
import Derived.Lib.Hide
namespace Go.Metric
def knownB (k : Int) : Bool := decide (0 ≤ k) && decide (k ≤ 6)
def fitsB (n : Int) : Bool := decide (-200000000 ≤ n) && decide (n ≤ 200000000)
theorem fitsB_true {n : Int} (h : fitsB n = true) : -200000000 ≤ n ∧ n ≤ 200000000 := by simpa [fitsB] using h
theorem fitsB_abs {n : Int} (h : fitsB n = true) : n.natAbs ≤ 200000000 := by have := fitsB_true h; omega
theorem fitsB_of {n : Int} (h1 : -200000000 ≤ n) (h2 : n ≤ 200000000) : fitsB n = true := by simp [fitsB, h1, h2]
theorem knownB_true {k : Int} (h : knownB k = true) : 0 ≤ k ∧ k ≤ 6 := by simpa [knownB] using h
end Go.Metric
namespace Go.Proofs
open Go.RowKit Go.Shelf Go.Root Go.Metric
attribute [local go_sem] Oper.semAt_some

theorem ret_is {a b : Bool} (h : a = b) : Ending.returned (.bool a) = .returned (.bool b) := by rw [h]
theorem mret_num {a b : Int} (h : a = b) : Ending.returned (.int .i64 a) = .returned (.int .i64 b) := by rw [h]

theorem Try.Known_calls (k : Int) (w : World) :
    Calls Try.prog 42 #[.int .i64 k] w fun e w' => e = .returned (.bool (knownB k)) ∧ w' = w := by
  by_cases h1 : 0 ≤ k
  · by_cases h2 : k ≤ 6
    · go_enter Try.func42, Try.ntmps42
      go_wp2
      go_ret
      exact ⟨ret_is (by simp [knownB]; omega), rfl⟩
    · go_enter Try.func42, Try.ntmps42
      go_wp2
      go_ret
      exact ⟨ret_is (by simp [knownB]; omega), rfl⟩
  · go_enter Try.func42, Try.ntmps42
    go_wp2
    go_ret
    exact ⟨ret_is (by simp [knownB]; omega), rfl⟩
theorem Try.RKnown_calls (k : Int) (w : World) :
    Calls Try.prog 29 #[.int .i64 k] w fun e w' => e = .returned (.bool (knownB k)) ∧ w' = w := by
  by_cases h1 : 0 ≤ k
  · by_cases h2 : k ≤ 6
    · go_enter Try.func29, Try.ntmps29
      go_wp2
      go_ret
      exact ⟨ret_is (by simp [knownB]; omega), rfl⟩
    · go_enter Try.func29, Try.ntmps29
      go_wp2
      go_ret
      exact ⟨ret_is (by simp [knownB]; omega), rfl⟩
  · go_enter Try.func29, Try.ntmps29
    go_wp2
    go_ret
    exact ⟨ret_is (by simp [knownB]; omega), rfl⟩
end Go.Proofs
