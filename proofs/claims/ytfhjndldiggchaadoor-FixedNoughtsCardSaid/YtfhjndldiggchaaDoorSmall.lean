/- Small functions of package fixed (and of the statements' own packages): digits, tens, bounds. Conditions: those that each theorem names. -/
import Derived.Test.YtfhjndldiggchaaDoorProg
import Derived.WalkKit
import Derived.Lib.Hide
import Derived.Deep.QuietTactic
import Derived.BigQuiet
namespace Go.Fx
/-- Is it a decimal digit? -/
def digB (b : Int) : Bool := decide (48 ≤ b) && decide (b ≤ 57)
theorem digB_yes {b : Int} (h1 : 48 ≤ b) (h2 : b ≤ 57) : digB b = true := by simp [digB, h1, h2]
theorem digB_low {b : Int} (h1 : b < 48) : digB b = false := by simp [digB]; omega
theorem digB_high {b : Int} (h1 : 57 < b) : digB b = false := by simp [digB]; omega
/-- Is it a number of the size that is told? -/
def fitB (m : Int) : Bool := decide (-100000000 ≤ m) && decide (m ≤ 100000000)
/-- Is it a number of which something is promised? -/
def mayB (m s : Int) : Bool := decide (0 ≤ s) && decide (s ≤ 6) && decide (-1000000000000 ≤ m) && decide (m ≤ 1000000000000)
end Go.Fx
namespace Go.Proofs
open Go.RowKit Go.Fx
attribute [local go_sem] Oper.semAt_some

theorem ret_int {k : IntKind} {a b : Int} (h : a = b) : Ending.returned (.int k a) = .returned (.int k b) := by rw [h]
theorem ret_bool {a b : Bool} (h : a = b) : Ending.returned (.bool a) = .returned (.bool b) := by rw [h]

theorem Tryd.digit_any (b : Int) (w : World) :
    Calls Tryd.prog 40 #[.int .u8 b] w fun e w' => e = .returned (.bool (digB b)) ∧ w = w' := by
  by_cases h1 : 48 ≤ b
  · by_cases h2 : b ≤ 57
    · go_enter Tryd.func40, Tryd.ntmps40
      go_wp2
      go_ret
      exact ⟨ret_bool (by rw [digB_yes h1 h2]), rfl⟩
    · go_enter Tryd.func40, Tryd.ntmps40
      go_wp2
      go_ret
      exact ⟨ret_bool (by rw [digB_high h2]), rfl⟩
  · go_enter Tryd.func40, Tryd.ntmps40
    go_wp2
    go_ret
    exact ⟨ret_bool (by rw [digB_low h1]), rfl⟩

theorem Tryd.fits_any (m : Int) (w : World) :
    Calls Tryd.prog 36 #[.int .i64 m] w fun e w' => e = .returned (.bool (fitB m)) ∧ w = w' := by
  by_cases h1 : -100000000 ≤ m
  · by_cases h2 : m ≤ 100000000
    · go_enter Tryd.func36, Tryd.ntmps36
      go_wp2
      go_ret
      exact ⟨ret_bool (by simp [fitB]; omega), rfl⟩
    · go_enter Tryd.func36, Tryd.ntmps36
      go_wp2
      go_ret
      exact ⟨ret_bool (by simp [fitB]; omega), rfl⟩
  · go_enter Tryd.func36, Tryd.ntmps36
    go_wp2
    go_ret
    exact ⟨ret_bool (by simp [fitB]; omega), rfl⟩

theorem Tryd.tens_any (k : Nat) (hk : k ≤ 18) (w : World) :
    Calls Tryd.prog 33 #[.int .i64 (k : Int)] w fun e w' => e = .returned (.int .i64 ((10 ^ k : Nat) : Int)) ∧ w = w' := by
  go_enter Tryd.func33, Tryd.ntmps33
  go_wp2
  go_loop [3, 5] (fun t i => ∃ j : Nat, j ≤ k ∧ i = .int .i64 j ∧ t = .int .i64 ((10 ^ j : Nat) : Int)) (fun _ i => k - (intOf i).toNat)
  case atStart => exact ⟨0, Nat.zero_le _, rfl, rfl⟩
  case round =>
    obtain ⟨j, hj, rfl, rfl⟩ := hrel
    by_cases hlt : j < k
    · obtain ⟨t, ht⟩ : ∃ t : Int, t = ((10 ^ j : Nat) : Int) := ⟨_, rfl⟩
      have htb : t ≤ 100000000000000000 := by
        rw [ht]; have : 10 ^ j ≤ 10 ^ 17 := Nat.pow_le_pow_right (by omega) (by omega); omega
      have ht0 : 0 ≤ t := by rw [ht]; exact Int.natCast_nonneg _
      rw [← ht]
      have Ht := Lib.hid ht
      clear ht
      go_wp2
      go_round
      case rel => exact ⟨j + 1, by omega, by go_num, by rw [Ht.out]; rw [Nat.pow_succ]; go_num⟩
      case measure => simp [intOf]; omega
    · obtain rfl : j = k := by omega
      go_wp2
      go_ret
      exact ⟨rfl, rfl⟩
#print axioms Tryd.tens_any
end Go.Proofs
