/- What is printed is read back; the law FixedBack, as a contract. Conditions: the table of powers of ten holds what the card lays. -/
import Derived.Test.YtfhjndldiggchaaDoorTexts
import Derived.Test.YtfhjndldiggchaaDoorLawTo
namespace Go.Fx
open Go.Proofs
theorem print_zero (m : Int) : printN m 0 = (if m < 0 then [45] else []) ++ Lib.decDigits m.natAbs := by
  unfold printN printA
  simp
theorem print_places (m : Int) (s : Nat) (h : s ≠ 0) : printN m s = (if m < 0 then [45] else []) ++ (Lib.decDigits (m.natAbs / 10 ^ s) ++ 46 :: plac m.natAbs s) := by
  unfold printN printA plac
  rw [if_neg h]
theorem div_short {a s : Nat} (ha : a ≤ 1000000000000) (hs : 1 ≤ s) : (Lib.decDigits (a / 10 ^ s)).length ≤ 12 := by
  apply dec_short (by omega)
  have h1 : 10 ^ 1 ≤ 10 ^ s := Nat.pow_le_pow_right (by omega) hs
  have h2 : a / 10 ^ s ≤ a / 10 ^ 1 := Nat.div_le_div_left h1 (by omega)
  omega
theorem back_places (m : Int) (s : Nat) (hs1 : 1 ≤ s) (hs : s ≤ 6) (ha : m.natAbs ≤ 1000000000000) : readN (printN m s) = chkL (least s m) ∧ intN (printN m s) = (0, 0, 20) := by
  obtain ⟨p1, p2, p3⟩ := plac_spec m.natAbs s
  have hh := dec_head (m.natAbs / 10 ^ s) (46 :: plac m.natAbs s)
  rw [print_places m s (by omega)]
  constructor
  · unfold readN
    rw [numR_text m _ _ (dec_all _) (dec_ne _) (div_short ha hs1) p2 (by omega) (by omega) hh, p1, p3, dec_val, takeN_end, p10_nat]
    congr 2
    conv => rhs; rw [← sgn_abs m]
    congr 1
    have := Nat.div_add_mod m.natAbs (10 ^ s)
    rw [Nat.mul_comm] at this
    rw [← Int.natCast_mul, ← Int.natCast_add, this]
  · unfold intN
    obtain ⟨s1, s2⟩ := sign_text m (Lib.decDigits (m.natAbs / 10 ^ s)) (46 :: plac m.natAbs s) hh
    unfold numI
    rw [s1, s2, digs_app (dec_all _) (.inr ⟨_, rfl⟩), List.drop_left]
    split
    · exact takeN_rest (by simp)
    · rfl
theorem back_whole (m : Int) (ha : m.natAbs < 1000000000000) : readN (printN m 0) = chkL (m, 0) ∧ intN (printN m 0) = chkL (m, 0) := by
  have hh := dec_head m.natAbs []
  rw [List.append_nil] at hh
  obtain ⟨h1, h2⟩ := numR_whole m _ (dec_all m.natAbs) (dec_ne _) (dec_short (by omega) ha) hh
  unfold readN intN
  rw [print_zero, h1, h2, dec_val, sgn_abs, takeN_end]
  exact ⟨rfl, rfl⟩
theorem back_great (m : Int) (ha : m.natAbs = 1000000000000) : readN (printN m 0) = (0, 0, 20) ∧ intN (printN m 0) = (0, 0, 20) := by
  have hh := dec_head m.natAbs []
  have hl : 12 < (Lib.decDigits m.natAbs).length := by
    rw [Lib.decDigits_length, Lib.nDigits_unique 12 m.natAbs (by omega) (by omega)]; omega
  obtain ⟨h1, h2⟩ := num_long m _ [] (dec_all m.natAbs) hl (.inl rfl) hh
  rw [List.append_nil] at h1 h2
  unfold readN intN
  rw [print_zero, h1, h2]
  exact ⟨rfl, rfl⟩
/-- How what is read back hangs together with the number's least form. -/
def BackH (m s x y M S E k f : Int) : Prop :=
  (100000000 < x ∧ (E != 0) = true) ∨ (x < -100000000 ∧ (E != 0) = true) ∨
  (-100000000 ≤ x ∧ x ≤ 100000000 ∧ E = 0 ∧ M = x ∧ S = y ∧ 0 < s ∧ f = 20) ∨ (-100000000 ≤ x ∧ x ≤ 100000000 ∧ E = 0 ∧ M = x ∧ S = y ∧ s = 0 ∧ f = 0 ∧ k = m)
theorem back_all (m : Int) (s : Nat) (hs : s ≤ 6) (h1 : -1000000000000 ≤ m) (h2 : m ≤ 1000000000000) :
    BackH m s (least s m).1 ((least s m).2 : Int) (readN (printN m s)).1 ((readN (printN m s)).2.1 : Int) (readN (printN m s)).2.2 (intN (printN m s)).1 (intN (printN m s)).2.2 := by
  unfold BackH
  by_cases hs0 : s = 0
  · subst hs0
    have hl : least 0 m = (m, 0) := rfl
    rw [hl]
    by_cases hg : m.natAbs = 1000000000000
    · rw [(back_great m hg).1, (back_great m hg).2]
      by_cases hp : 0 < m
      · exact .inl ⟨by simp only; omega, rfl⟩
      · exact .inr (.inl ⟨by simp only; omega, rfl⟩)
    · obtain ⟨e1, e2⟩ := back_whole m (by omega)
      rw [e1, e2]
      by_cases hf : fitB m = true
      · have := fitB_of hf
        rw [chkL_yes hf]
        exact .inr (.inr (.inr ⟨this.1, this.2, rfl, rfl, rfl, rfl, rfl, rfl⟩))
      · rw [chkL_no hf]
        rcases fitB_not hf with h | h
        · exact .inr (.inl ⟨h, rfl⟩)
        · exact .inl ⟨h, rfl⟩
  · obtain ⟨e1, e2⟩ := back_places m s (by omega) hs (by omega)
    rw [e1, e2]
    generalize least s m = l
    obtain ⟨x, y⟩ := l
    by_cases hf : fitB x = true
    · have := fitB_of hf
      rw [chkL_yes hf]
      exact .inr (.inr (.inl ⟨this.1, this.2, rfl, rfl, rfl, by omega, rfl⟩))
    · rw [chkL_no hf]
      rcases fitB_not hf with h | h
      · exact .inr (.inl ⟨h, rfl⟩)
      · exact .inl ⟨h, rfl⟩
theorem print_short (m : Int) (s : Nat) (hs : s ≤ 6) (ha : m.natAbs ≤ 1000000000000) : (printN m s).length ≤ 100 := by
  have h0 : (if m < 0 then [(45 : UInt8)] else []).length ≤ 1 := by split <;> simp
  by_cases h : s = 0
  · subst h
    rw [print_zero, List.length_append]
    have := (dec_len m.natAbs (by omega)).2
    omega
  · rw [print_places m s h, List.length_append, List.length_append, List.length_cons, (plac_spec m.natAbs s).1]
    have := div_short ha (show 1 ≤ s by omega)
    omega
#print axioms back_all
end Go.Fx
