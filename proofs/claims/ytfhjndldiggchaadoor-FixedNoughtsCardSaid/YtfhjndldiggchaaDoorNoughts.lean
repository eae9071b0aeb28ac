/- Plain facts: noughts ahead, and behind the digits behind the point, change nothing of the number that a text tells. No program. -/
import Derived.Test.YtfhjndldiggchaaDoorBack
namespace Go.Fx
open Go.Proofs
theorem val_ahead (i : Nat) (l : List UInt8) : valF 0 (List.replicate i 48 ++ l) = valF 0 l := by
  induction i with
  | zero => rfl
  | succ i ih => rw [List.replicate_succ, List.cons_append]; exact ih
theorem val_behind (l : List UInt8) (k : Nat) : valF 0 (l ++ List.replicate k 48) = valF 0 l * P k := by
  induction k with
  | zero => simp [P]
  | succ k ih =>
    have e48 : ((48 : UInt8).toNat : Int) - 48 = 0 := rfl
    rw [List.replicate_succ', ← List.append_assoc, valF_snoc, ih, P_succ, e48, Int.add_zero, Int.mul_comm 10, Int.mul_assoc]
theorem least_mul (k s : Nat) (m : Int) : least (s + k) (m * P k) = least s m := by
  induction k with
  | zero => simp [P]
  | succ k ih =>
    rw [P_succ, ← Int.mul_assoc, ← Nat.add_assoc, least_go _ _ (Int.mul_tmod_left _ _), Int.mul_tdiv_cancel _ (by omega), ih]
/-- A number's text with i noughts ahead, and k behind. -/
def nought (m : Int) (s i k : Nat) : List UInt8 := (if m < 0 then [45] else []) ++ ((List.replicate i 48 ++ Lib.decDigits (m.natAbs / 10 ^ s)) ++ 46 :: (plac m.natAbs s ++ List.replicate k 48))
theorem zeros_all (i : Nat) : (List.replicate i (48 : UInt8)).all dg = true := by
  rw [List.all_eq_true]; intro c h; rw [List.eq_of_mem_replicate h]; rfl
theorem nought_read (m : Int) (s i k : Nat) (hs : s ≤ 3) (hi : i ≤ 3) (hk : 1 ≤ k) (hk3 : k ≤ 3) (ha : m.natAbs ≤ 67108864) : readN (nought m s i k) = chkL (least s m) := by
  obtain ⟨p1, p2, p3⟩ := plac_spec m.natAbs s
  have hd : (Lib.decDigits (m.natAbs / 10 ^ s)).length ≤ 8 := dec_short (by omega) (Nat.lt_of_le_of_lt (Nat.div_le_self _ _) (by omega))
  have hn := dec_ne (m.natAbs / 10 ^ s)
  have hh : headB 45 ((List.replicate i 48 ++ Lib.decDigits (m.natAbs / 10 ^ s)) ++ 46 :: (plac m.natAbs s ++ List.replicate k 48)) = false := by
    cases i with
    | zero => exact dec_head _ _
    | succ i => rw [List.replicate_succ]; rfl
  unfold readN nought
  rw [numR_text m _ _ (by rw [List.all_append, zeros_all, dec_all]; rfl) (by rw [List.length_append]; omega) (by rw [List.length_append, List.length_replicate]; omega)
    (by rw [List.all_append, zeros_all, p2]; rfl) (by rw [List.length_append, List.length_replicate]; omega) (by rw [List.length_append, List.length_replicate]; omega) hh,
    takeN_end, List.length_append, List.length_replicate, p1, val_ahead, val_behind, p3, dec_val, ← least_mul k s m]
  congr 2
  have e1 : p10 ((s + k : Nat) : Int) = P s * P k := by rw [p10_nat, ← P_add]; rfl
  rw [e1, ← Int.mul_assoc, ← Int.add_mul, ← Int.mul_assoc]
  congr 1
  conv => rhs; rw [← sgn_abs m]
  congr 1
  have := Nat.div_add_mod m.natAbs (10 ^ s)
  rw [Nat.mul_comm] at this
  have e2 : P s = ((10 ^ s : Nat) : Int) := rfl
  rw [e2, ← Int.natCast_mul, ← Int.natCast_add, this]
theorem print_read (m : Int) (s : Nat) (hs : s ≤ 3) (ha : m.natAbs ≤ 67108864) : readN (printN m s) = chkL (least s m) := by
  by_cases h : s = 0
  · subst h; exact (back_whole m (by omega)).1
  · exact (back_places m s (by omega) (by omega) (by omega)).1
theorem chk_small (m : Int) (s : Nat) (ha : m.natAbs ≤ 67108864) : chkL (least s m) = ((least s m).1, (least s m).2, 0) := by
  have h := least_bd (B := 67108864) s m (by omega) (by omega)
  exact chkL_yes (by simp only [fitB, Bool.and_eq_true, decide_eq_true_eq]; omega)
/-- The text of the amount, with a point. -/
theorem print_point (m : Int) (s : Nat) : printN (m.natAbs : Int) s ++ (if s = 0 then [46] else []) = Lib.decDigits (m.natAbs / 10 ^ s) ++ 46 :: plac m.natAbs s := by
  have hn : ¬ ((m.natAbs : Int) < 0) := by omega
  by_cases h : s = 0
  · subst h
    rw [print_zero, if_neg hn, if_pos rfl]
    have := (plac_spec m.natAbs 0).1
    rw [List.length_eq_zero_iff.1 this]
    simp
  · rw [print_places _ s h, if_neg hn, if_neg h]
    simp
#print axioms nought_read
end Go.Fx
