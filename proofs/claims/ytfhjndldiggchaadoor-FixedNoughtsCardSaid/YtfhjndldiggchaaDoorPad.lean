/- Plain facts on digits from behind: what the document's Print makes is what fixed.Print makes. No program. -/
import Derived.Test.YtfhjndldiggchaaDoorTexts
namespace Go.Fx
open Go.Proofs
/-- The last i digits of x. -/
def pad (x : Nat) : Nat → List UInt8
  | 0 => []
  | i + 1 => pad (x / 10) i ++ [UInt8.ofNat (48 + x % 10)]
theorem pad_cons (x i : Nat) : pad x (i + 1) = UInt8.ofNat (48 + x / 10 ^ i % 10) :: pad x i := by
  induction i generalizing x with
  | zero => simp [pad]
  | succ i ih =>
    rw [pad, ih (x / 10), List.cons_append, pad, Nat.div_div_eq_div_mul, Nat.pow_succ, Nat.mul_comm 10]
theorem pad_dec {q j : Nat} (hj : 1 ≤ j) (h : q < 10 ^ j) (hb : j = 1 ∨ 10 ^ (j - 1) ≤ q) : pad q j = Lib.decDigits q := by
  induction j generalizing q with
  | zero => omega
  | succ j ih =>
    rcases Nat.eq_zero_or_pos j with rfl | hp
    · have hq : q < 10 := by simpa using h
      rw [dec_small hq, pad, pad, List.nil_append, Nat.mod_eq_of_lt hq]
    · have h10 : 10 ^ j ≤ q := by rcases hb with hb | hb; · omega
                                  · simpa using hb
      have hq : ¬ q < 10 := by
        have : 10 ^ 1 ≤ 10 ^ j := Nat.pow_le_pow_right (by omega) hp
        omega
      rw [Nat.pow_succ] at h
      rw [dec_big hq, pad, ih hp (by omega)]
      by_cases h1 : j = 1
      · exact .inl h1
      · right
        obtain ⟨e, rfl⟩ : ∃ e, j = e + 1 := ⟨j - 1, by omega⟩
        rw [Nat.pow_succ] at h10
        simp only [Nat.add_sub_cancel]
        omega
theorem pad_mod {x y i : Nat} (h : x % 10 ^ i = y % 10 ^ i) : pad x i = pad y i := by
  induction i generalizing x y with
  | zero => rfl
  | succ i ih =>
    rw [Nat.pow_succ, Nat.mul_comm] at h
    have h1 : x / 10 % 10 ^ i = y / 10 % 10 ^ i := by
      rw [← Nat.mod_mul_right_div_self x 10, ← Nat.mod_mul_right_div_self y 10, h]
    have h2 : x % 10 = y % 10 := by
      rw [← Nat.mod_mul_right_mod x 10 (10 ^ i), ← Nat.mod_mul_right_mod y 10 (10 ^ i), h]
    rw [pad, pad, ih h1, h2]
theorem pad_plac (a s : Nat) : plac a s = pad a s := by
  have hT : 0 < 10 ^ s := Nat.pow_pos (by omega)
  have hr : a % 10 ^ s < 10 ^ s := Nat.mod_lt _ hT
  unfold plac
  rw [← pad_dec (q := 10 ^ s + a % 10 ^ s) (j := s + 1) (by omega) (by rw [Nat.pow_succ]; omega) (.inr (by simp)), pad_cons, List.drop_succ_cons, List.drop_zero]
  apply pad_mod
  rw [Nat.add_mod_left, Nat.mod_mod]
/-- The text that has been made when i digits have been. -/
def made (a s i : Nat) : List UInt8 := if i ≤ s then pad a i else pad (a / 10 ^ s) (i - s) ++ ((if s = 0 then [] else [46]) ++ pad a s)
theorem made_zero (a s : Nat) : made a s 0 = [] := by simp [made, pad]
theorem made_low {a s i : Nat} (h : i < s) : made a s (i + 1) = UInt8.ofNat (48 + a / 10 ^ i % 10) :: made a s i := by
  unfold made
  rw [if_pos (by omega), if_pos (by omega), pad_cons]
theorem made_at (a s : Nat) : made a s (s + 1) = UInt8.ofNat (48 + a / 10 ^ s % 10) :: ((if s = 0 then [] else [46]) ++ made a s s) := by
  unfold made
  rw [if_neg (c := s + 1 ≤ s) (by omega), if_pos (c := s ≤ s) (by omega), show s + 1 - s = 0 + 1 by omega, pad_cons]
  simp [pad]
theorem made_high {a s i : Nat} (h : s < i) : made a s (i + 1) = UInt8.ofNat (48 + a / 10 ^ i % 10) :: made a s i := by
  unfold made
  rw [if_neg (c := i + 1 ≤ s) (by omega), if_neg (c := i ≤ s) (by omega), show i + 1 - s = (i - s) + 1 by omega, pad_cons, Nat.div_div_eq_div_mul, ← Nat.pow_add, show s + (i - s) = i by omega, List.cons_append]
theorem made_all {a s i : Nat} (h : s < i) (h0 : a / 10 ^ i = 0) (hb : i ≤ s + 1 ∨ 0 < a / 10 ^ (i - 1)) : made a s i = printA a s := by
  have hlt : a < 10 ^ i := by
    rcases Nat.div_eq_zero_iff.1 h0 with h | h
    · have : 0 < 10 ^ i := Nat.pow_pos (by omega)
      omega
    · exact h
  have hTs : 0 < 10 ^ s := Nat.pow_pos (by omega)
  unfold made printA
  rw [if_neg (by omega), pad_dec (q := a / 10 ^ s) (j := i - s) (by omega)]
  · by_cases hs : s = 0
    · subst hs; simp [pad]
    · rw [if_neg hs, if_neg hs, ← pad_plac]; rfl
  · apply Nat.div_lt_of_lt_mul
    rw [← Nat.pow_add, show s + (i - s) = i by omega]
    exact hlt
  · rcases hb with hb | hb
    · exact .inl (by omega)
    · right
      rw [Nat.le_div_iff_mul_le hTs, ← Nat.pow_add, show i - s - 1 + s = i - 1 by omega]
      exact (Nat.div_pos_iff.1 hb).2
#print axioms made_all
end Go.Fx
