/- Plain facts on numbers in scales: the least form, other scales, how two compare. No program. -/
import Derived.Test.YtfhjndldiggchaaDoorRTo
namespace Go.Fx
open Go.Proofs
/-- 10 to the n. -/
def P (n : Nat) : Int := ((10 ^ n : Nat) : Int)
theorem P_add (a b : Nat) : P (a + b) = P a * P b := by unfold P; rw [Nat.pow_add]; exact Int.natCast_mul _ _
theorem P_pos (n : Nat) : 0 < P n := by unfold P; have : 0 < 10 ^ n := Nat.pow_pos (by omega); omega
theorem P_succ (n : Nat) : P (n + 1) = P n * 10 := P_add n 1
theorem p10_sub {x y : Int} {n : Nat} (h : x - y = (n : Int)) : p10 (x - y) = P n := by rw [h, p10_nat]; rfl
/-- What least does. -/
theorem least_spec (s : Nat) (m : Int) : ∃ d, s = (least s m).2 + d ∧ m = (least s m).1 * P d ∧ ((least s m).2 = 0 ∨ ¬ (10 : Int) ∣ (least s m).1) := by
  induction s generalizing m with
  | zero => exact ⟨0, rfl, by simp [least, P], .inl rfl⟩
  | succ s ih =>
    by_cases h : m.tmod 10 = 0
    · have hd : (10 : Int) ∣ m := Int.dvd_of_tmod_eq_zero h
      rw [least_go s m h]
      obtain ⟨d, h1, h2, h3⟩ := ih (m.tdiv 10)
      refine ⟨d + 1, by omega, ?_, h3⟩
      rw [P_succ, ← Int.mul_assoc, ← h2]
      exact (Int.tdiv_mul_cancel hd).symm
    · rw [least_stop (s + 1) m h]
      exact ⟨0, rfl, by simp [P], .inr (fun hd => h (Int.tmod_eq_zero_of_dvd hd))⟩
theorem cmp_eq {m s k t : Int} (h : m * p10 (6 - s) = k * p10 (6 - t)) : cmpN m s k t = 0 := by
  unfold cmpN Lib.compareInt
  rw [h, if_neg (by omega), if_neg (by omega)]
theorem to_same (m : Int) (s : Nat) (k : Int) : toN m s k = toR m s k := by
  unfold toN toR
  by_cases hk : k < 0 ∨ 6 < k
  · rw [if_pos hk, if_pos hk]
  · rw [if_neg hk, if_neg hk]
    obtain ⟨j, rfl⟩ : ∃ j : Nat, k = (j : Int) := ⟨k.toNat, by omega⟩
    obtain ⟨d, h1, h2, h3⟩ := least_spec s m
    generalize hl : least s m = l at h1 h2 h3 ⊢
    obtain ⟨a, b⟩ := l
    simp only at h1 h2 h3 ⊢
    by_cases hs : (s : Int) ≤ (j : Int)
    · rw [if_pos hs, if_neg (show ¬ (j : Int) < (b : Int) from by omega)]
      have e1 : m * p10 ((j : Int) - (s : Int)) = a * p10 ((j : Int) - (b : Int)) := by
        rw [p10_sub (n := j - s) (by omega), p10_sub (n := d + (j - s)) (by omega), P_add, h2, Int.mul_assoc]
      rw [e1]
    · rw [if_neg hs]
      by_cases hb : (j : Int) < (b : Int)
      · rw [if_pos hb]
        have hnd : ¬ (10 : Int) ∣ a := h3.resolve_left (by omega)
        rw [if_neg]
        intro hz
        apply hnd
        have hd : p10 ((s : Int) - (j : Int)) ∣ m := Int.dvd_of_tmod_eq_zero hz
        obtain ⟨e, he⟩ : ∃ e, b - j = e + 1 := ⟨b - j - 1, by omega⟩
        rw [p10_sub (n := d + (e + 1)) (by omega), P_add, h2, P_succ, Int.mul_comm (P d)] at hd
        have h4 : P e * 10 ∣ a := Int.dvd_of_mul_dvd_mul_right (by have := P_pos d; omega) hd
        exact Int.dvd_trans (Int.dvd_mul_left (P e) 10) h4
      · rw [if_neg hb]
        have e1 : m = a * p10 ((j : Int) - (b : Int)) * p10 ((s : Int) - (j : Int)) := by
          rw [p10_sub (n := j - b) (by omega), p10_sub (n := s - j) (by omega), h2, Int.mul_assoc, ← P_add]
          congr 2; omega
        have hp : p10 ((s : Int) - (j : Int)) ≠ 0 := by have := p10_pos ((s : Int) - (j : Int)); omega
        have h5 : m.tmod (p10 ((s : Int) - (j : Int))) = 0 := by rw [e1]; exact Int.mul_tmod_left _ _
        have h6 : m.tdiv (p10 ((s : Int) - (j : Int))) = a * p10 ((j : Int) - (b : Int)) := by
          conv => lhs; rw [e1]
          exact Int.mul_tdiv_cancel _ hp
        rw [if_pos h5, h6]
/-- A number in another scale is as much as it was. -/
theorem to_much (m : Int) (s : Nat) (hs : s ≤ 6) (k : Int) (h : (toN m s k).2 = 0) : mayB (toN m s k).1 k = true ∧ cmpN (toN m s k).1 k m s = 0 := by
  unfold toN at h ⊢
  by_cases hk : k < 0 ∨ 6 < k
  · rw [if_pos hk] at h; simp at h
  · rw [if_neg hk] at h ⊢
    obtain ⟨j, rfl⟩ : ∃ j : Nat, k = (j : Int) := ⟨k.toNat, by omega⟩
    by_cases hsj : (s : Int) ≤ (j : Int)
    · rw [if_pos hsj] at h ⊢
      by_cases hf : fitB (m * p10 ((j : Int) - (s : Int))) = true
      · rw [if_pos hf]
        have := fitB_of hf
        refine ⟨mayB_mk (by omega) (by omega) (by simp only; omega) (by simp only; omega), cmp_eq ?_⟩
        simp only
        rw [p10_sub (n := j - s) (by omega), p10_sub (n := 6 - j) (by omega), p10_sub (n := 6 - s) (by omega), Int.mul_assoc, ← P_add]
        congr 2; omega
      · rw [if_neg hf] at h; simp at h
    · rw [if_neg hsj] at h ⊢
      by_cases hz : m.tmod (p10 ((s : Int) - (j : Int))) = 0
      · rw [if_pos hz] at h ⊢
        by_cases hf : fitB (m.tdiv (p10 ((s : Int) - (j : Int)))) = true
        · rw [if_pos hf]
          have := fitB_of hf
          refine ⟨mayB_mk (by omega) (by omega) (by simp only; omega) (by simp only; omega), cmp_eq ?_⟩
          simp only
          have e1 : m = m.tdiv (p10 ((s : Int) - (j : Int))) * p10 ((s : Int) - (j : Int)) := (Int.tdiv_mul_cancel (Int.dvd_of_tmod_eq_zero hz)).symm
          generalize m.tdiv (p10 ((s : Int) - (j : Int))) = x at e1 ⊢
          rw [e1, Int.mul_assoc, p10_sub (n := 6 - j) (by omega), p10_sub (n := s - j) (by omega), p10_sub (n := 6 - s) (by omega), ← P_add]
          congr 2; omega
        · rw [if_neg hf] at h; simp at h
      · rw [if_neg hz] at h; simp at h
#print axioms to_same
#print axioms to_much
end Go.Fx
