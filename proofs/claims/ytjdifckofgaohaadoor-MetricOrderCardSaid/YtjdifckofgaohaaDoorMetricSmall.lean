/- The small functions of package metric, and those of the document's own answers: Known, fits, size, power, nearest; far. Conditions: where a number is doubled, that it has room. -/
import Derived.Test.YtjdifckofgaohaaDoorRootAt
import Derived.Test.YtjdifckofgaohaaDoorMetricPlain
namespace Go.Metric
def knownB (k : Int) : Bool := decide (0 ≤ k) && decide (k ≤ 6)
def fitsB (n : Int) : Bool := decide (-200000000 ≤ n) && decide (n ≤ 200000000)
theorem fitsB_true {n : Int} (h : fitsB n = true) : -200000000 ≤ n ∧ n ≤ 200000000 := by simpa [fitsB] using h
theorem fitsB_abs {n : Int} (h : fitsB n = true) : n.natAbs ≤ 200000000 := by have := fitsB_true h; omega
theorem fitsB_of {n : Int} (h1 : -200000000 ≤ n) (h2 : n ≤ 200000000) : fitsB n = true := by simp [fitsB, h1, h2]
theorem knownB_true {k : Int} (h : knownB k = true) : 0 ≤ k ∧ k ≤ 6 := by simpa [knownB] using h
end Go.Metric
namespace Go.Proofs
open Go.RowKit Go.Shelf Go.Root Go.Metric
attribute [local go_sem] Oper.semAt_some

theorem ret_is {a b : Bool} (h : a = b) : Ending.returned (.bool a) = .returned (.bool b) := by rw [h]
theorem ret_num {a b : Int} (h : a = b) : Ending.returned (.int .i64 a) = .returned (.int .i64 b) := by rw [h]

theorem Tryd.Known_calls (k : Int) (w : World) :
    Calls Tryd.prog 14 #[.int .i64 k] w fun e w' => e = .returned (.bool (knownB k)) ∧ w' = w := by
  by_cases h1 : 0 ≤ k
  · by_cases h2 : k ≤ 6
    · go_enter Tryd.func14, Tryd.ntmps14
      go_wp2
      go_ret
      exact ⟨ret_is (by simp [knownB]; omega), rfl⟩
    · go_enter Tryd.func14, Tryd.ntmps14
      go_wp2
      go_ret
      exact ⟨ret_is (by simp [knownB]; omega), rfl⟩
  · go_enter Tryd.func14, Tryd.ntmps14
    go_wp2
    go_ret
    exact ⟨ret_is (by simp [knownB]; omega), rfl⟩
theorem Tryd.RKnown_calls (k : Int) (w : World) :
    Calls Tryd.prog 15 #[.int .i64 k] w fun e w' => e = .returned (.bool (knownB k)) ∧ w' = w := by
  by_cases h1 : 0 ≤ k
  · by_cases h2 : k ≤ 6
    · go_enter Tryd.func15, Tryd.ntmps15
      go_wp2
      go_ret
      exact ⟨ret_is (by simp [knownB]; omega), rfl⟩
    · go_enter Tryd.func15, Tryd.ntmps15
      go_wp2
      go_ret
      exact ⟨ret_is (by simp [knownB]; omega), rfl⟩
  · go_enter Tryd.func15, Tryd.ntmps15
    go_wp2
    go_ret
    exact ⟨ret_is (by simp [knownB]; omega), rfl⟩
theorem Tryd.fits_calls (n : Int) (w : World) :
    Calls Tryd.prog 19 #[.int .i64 n] w fun e w' => e = .returned (.bool (fitsB n)) ∧ w' = w := by
  by_cases h1 : -200000000 ≤ n
  · by_cases h2 : n ≤ 200000000
    · go_enter Tryd.func19, Tryd.ntmps19
      go_wp2
      go_ret
      exact ⟨ret_is (by simp [fitsB]; omega), rfl⟩
    · go_enter Tryd.func19, Tryd.ntmps19
      go_wp2
      go_ret
      exact ⟨ret_is (by simp [fitsB]; omega), rfl⟩
  · go_enter Tryd.func19, Tryd.ntmps19
    go_wp2
    go_ret
    exact ⟨ret_is (by simp [fitsB]; omega), rfl⟩
theorem Tryd.near_calls (n : Int) (w : World) :
    Calls Tryd.prog 18 #[.int .i64 n] w fun e w' => e = .returned (.bool (fitsB n)) ∧ w' = w := by
  by_cases h1 : -200000000 ≤ n
  · by_cases h2 : n ≤ 200000000
    · go_enter Tryd.func18, Tryd.ntmps18
      go_wp2
      go_ret
      exact ⟨ret_is (by simp [fitsB]; omega), rfl⟩
    · go_enter Tryd.func18, Tryd.ntmps18
      go_wp2
      go_ret
      exact ⟨ret_is (by simp [fitsB]; omega), rfl⟩
  · go_enter Tryd.func18, Tryd.ntmps18
    go_wp2
    go_ret
    exact ⟨ret_is (by simp [fitsB]; omega), rfl⟩
theorem Tryd.far_calls (n : Int) (w : World) :
    Calls Tryd.prog 23 #[.int .i64 n] w fun e w' => e = .returned (.bool (!fitsB n)) ∧ w' = w := by
  by_cases h1 : n < -200000000
  · go_enter Tryd.func23, Tryd.ntmps23
    go_wp2
    go_ret
    exact ⟨ret_is (by simp [fitsB]; omega), rfl⟩
  · by_cases h2 : 200000000 < n
    · go_enter Tryd.func23, Tryd.ntmps23
      go_wp2
      go_ret
      exact ⟨ret_is (by simp [fitsB]; omega), rfl⟩
    · go_enter Tryd.func23, Tryd.ntmps23
      go_wp2
      go_ret
      exact ⟨ret_is (by simp [fitsB]; omega), rfl⟩
theorem Tryd.size_calls (n : Int) (w : World) (h1 : -200000000 ≤ n) (h2 : n ≤ 200000000) :
    Calls Tryd.prog 21 #[.int .i64 n] w fun e w' => e = .returned (.int .i64 (n.natAbs : Int)) ∧ w' = w := by
  go_enter Tryd.func21, Tryd.ntmps21
  go_wp2
  go_ret
  exact ⟨ret_num (by go_num), rfl⟩
theorem Tryd.power_calls (k : Nat) (w : World) (hk : k ≤ 6) :
    Calls Tryd.prog 22 #[.int .i64 (k : Int)] w fun e w' => e = .returned (.int .i64 ((10 ^ k : Nat) : Int)) ∧ w' = w := by
  go_enter Tryd.func22, Tryd.ntmps22
  go_wp2
  go_loop [3, 5] (fun t i => ∃ j : Nat, j ≤ k ∧ i = .int .i64 j ∧ t = .int .i64 ((10 ^ j : Nat) : Int)) (fun _ i => k - (intOf i).toNat)
  case atStart => exact ⟨0, Nat.zero_le _, rfl, rfl⟩
  case round =>
    obtain ⟨j, hj, rfl, rfl⟩ := hrel
    by_cases hlt : j < k
    · obtain ⟨t, ht⟩ : ∃ t : Int, t = ((10 ^ j : Nat) : Int) := ⟨_, rfl⟩
      have htb : t ≤ 100000000000000000 := by
        rw [ht]; have : 10 ^ j ≤ 10 ^ 17 := Nat.pow_le_pow_right (by omega) (by omega); omega
      have ht0 : 0 ≤ t := by rw [ht]; exact Int.natCast_nonneg _
      rw [← ht]
      have Ht := Lib.hid ht
      clear ht
      go_wp2
      go_round
      case rel => exact ⟨j + 1, by omega, by go_num, by rw [Ht.out]; rw [Nat.pow_succ]; go_num⟩
      case measure => simp [intOf]; omega
    · obtain rfl : j = k := by omega
      go_wp2
      go_ret
      exact ⟨rfl, rfl⟩
theorem Tryd.nearest_calls (a t : Nat) (w : World) (ha : a ≤ 400000000) (ht : 1 ≤ t) (ht9 : t ≤ 1000000) :
    Calls Tryd.prog 33 #[.int .i64 (a : Int), .int .i64 (t : Int)] w fun e w' => e = .returned (.int .i64 (nst a t : Int)) ∧ w' = w := by
  have hne : (2 * (t : Int) == 0) = false := beq_eq_false_iff_ne.2 (by omega)
  have hR : ((nst a t : Nat) : Int) = (2 * (a : Int) + (t : Int)) / (2 * (t : Int)) := by simp [nst]
  go_enter Tryd.func33, Tryd.ntmps33
  go_wp2
  go_ret
  exact ⟨by rw [hR]; rfl, rfl⟩
theorem Tryd.Rnearest_calls (a t : Nat) (w : World) (ha : a ≤ 400000000) (ht : 1 ≤ t) (ht9 : t ≤ 1000000) :
    Calls Tryd.prog 26 #[.int .i64 (a : Int), .int .i64 (t : Int)] w fun e w' => e = .returned (.int .i64 (nst a t : Int)) ∧ w' = w := by
  have hne : (2 * (t : Int) == 0) = false := beq_eq_false_iff_ne.2 (by omega)
  have hR : ((nst a t : Nat) : Int) = (2 * (a : Int) + (t : Int)) / (2 * (t : Int)) := by simp [nst]
  go_enter Tryd.func26, Tryd.ntmps26
  go_wp2
  go_ret
  exact ⟨by rw [hR]; rfl, rfl⟩
end Go.Proofs
