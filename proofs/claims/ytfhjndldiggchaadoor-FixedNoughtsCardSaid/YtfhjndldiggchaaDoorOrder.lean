/- The law FixedOrder, as a contract. Conditions: the integers that an int holds; the table of powers of ten holds what the card lays. -/
import Derived.Test.YtfhjndldiggchaaDoorLawTo
import Derived.Deep.RegionHeld3
namespace Go.Fx
open Go.Proofs
theorem cmp_cases (m s k t : Int) : cmpN m s k t = -1 ∨ cmpN m s k t = 0 ∨ cmpN m s k t = 1 := by
  unfold cmpN Lib.compareInt
  split
  · exact .inl rfl
  · split
    · exact .inr (.inr rfl)
    · exact .inr (.inl rfl)
theorem cmp_flip (m s k t : Int) : cmpN k t m s = -cmpN m s k t := by
  unfold cmpN Lib.compareInt
  generalize m * p10 (6 - s) = x
  generalize k * p10 (6 - t) = y
  by_cases h1 : x < y
  · rw [if_neg (show ¬ y < x by omega), if_pos (show y > x by omega), if_pos h1]; rfl
  · by_cases h2 : y < x
    · rw [if_pos h2, if_neg h1, if_pos (show x > y by omega)]
    · rw [if_neg h2, if_neg (show ¬ y > x by omega), if_neg h1, if_neg (show ¬ x > y by omega)]; rfl
theorem cmp_trans {m s k t u v : Int} (h1 : cmpN m s k t ≤ 0) (h2 : cmpN k t u v ≤ 0) : cmpN m s u v ≤ 0 := by
  unfold cmpN Lib.compareInt at *
  generalize m * p10 (6 - s) = x at *
  generalize k * p10 (6 - t) = y at *
  generalize u * p10 (6 - v) = z at *
  split at h1 <;> split at h2 <;> (try split at h1) <;> (try split at h2) <;> split <;> (try split) <;> omega
theorem cmp_zero {m k : Int} {s t : Nat} (hs : s ≤ 6) (ht : t ≤ 6) : cmpN m s k t = 0 ↔ least s m = least t k := by
  obtain ⟨d, h1, h2, h3⟩ := least_spec s m
  obtain ⟨e, h4, h5, h6⟩ := least_spec t k
  generalize least s m = l at *
  generalize least t k = r at *
  obtain ⟨a, b⟩ := l
  obtain ⟨a', b'⟩ := r
  simp only at *
  have e1 : m * p10 (6 - (s : Int)) = a * P (6 - b) := by
    rw [p10_sub (n := 6 - s) (by omega), h2, Int.mul_assoc, ← P_add]; congr 2; omega
  have e2 : k * p10 (6 - (t : Int)) = a' * P (6 - b') := by
    rw [p10_sub (n := 6 - t) (by omega), h5, Int.mul_assoc, ← P_add]; congr 2; omega
  have key : cmpN m s k t = 0 ↔ a * P (6 - b) = a' * P (6 - b') := by
    unfold cmpN Lib.compareInt
    rw [e1, e2]
    constructor
    · intro h
      split at h
      · omega
      · split at h <;> omega
    · intro h
      rw [h, if_neg (by omega), if_neg (by omega)]
  rw [key]
  constructor
  · intro h
    have up : ∀ {x y : Int} {p q : Nat}, p < q → q ≤ 6 → (q = 0 ∨ ¬ (10 : Int) ∣ y) → x * P (6 - p) = y * P (6 - q) → False := by
      intro x y p q hpq hq hy hxy
      obtain ⟨f, hf⟩ : ∃ f, 6 - p = (f + 1) + (6 - q) := ⟨q - p - 1, by omega⟩
      rw [hf, P_add, ← Int.mul_assoc] at hxy
      have := Int.eq_of_mul_eq_mul_right (by have := P_pos (6 - q); omega) hxy
      rcases hy with hy | hy
      · omega
      · apply hy
        rw [← this, P_succ, ← Int.mul_assoc]
        exact Int.dvd_mul_left _ _
    rcases Nat.lt_trichotomy b b' with hlt | heq | hgt
    · exact (up hlt (by omega) h6 h).elim
    · subst heq
      have := Int.eq_of_mul_eq_mul_right (by have := P_pos (6 - b); omega) h
      rw [this]
    · exact (up hgt (by omega) h3 h.symm).elim
  · intro h
    cases h; rfl
#print axioms cmp_zero
end Go.Fx
namespace Go.Proofs
open Go.RowKit Go.Fx
attribute [local go_sem] Oper.semAt_some

/-- The three numbers' boxes, and what was there. -/
def Three (w : World) (a0 a1 b0 b1 c0 c1 : Value) (W : World) : Prop :=
  Pair W w.heap.size 27 a0 a1 ∧ Pair W (w.heap.size + 1) 27 b0 b1 ∧ Pair W (w.heap.size + 1 + 1) 27 c0 c1 ∧ Below w.heap.size w W
/-- What the walk reads of them. -/
def Read3 (w : World) (a0 a1 b0 b1 c0 c1 : Value) (W : World) : Prop :=
  W.cell? ⟨w.heap.size, 0, none⟩ = some a0 ∧ W.cell? ⟨w.heap.size, 1, none⟩ = some a1 ∧ W.cell? ⟨w.heap.size + 1, 0, none⟩ = some b0 ∧ W.cell? ⟨w.heap.size + 1, 1, none⟩ = some b1 ∧ W.cell? ⟨w.heap.size + 1 + 1, 0, none⟩ = some c0 ∧ W.cell? ⟨w.heap.size + 1 + 1, 1, none⟩ = some c1
theorem Three.read {w : World} {a0 a1 b0 b1 c0 c1 : Value} {W : World} (h : Three w a0 a1 b0 b1 c0 c1 W) : Read3 w a0 a1 b0 b1 c0 c1 W := ⟨h.1.c0, h.1.c1, h.2.1.c0, h.2.1.c1, h.2.2.1.c0, h.2.2.1.c1⟩
theorem Three.next {w : World} {a0 a1 b0 b1 c0 c1 : Value} {W W' : World} (h : Three w a0 a1 b0 b1 c0 c1 W) (hb : Below W.heap.size W W') : Three w a0 a1 b0 b1 c0 c1 W' :=
  ⟨h.1.next hb, h.2.1.next hb, h.2.2.1.next hb, Below.next h.2.2.2 (Nat.le_refl _) hb⟩
theorem Three.drew {w : World} {a0 a1 b0 b1 c0 c1 : Value} {W : World} (h : Three w a0 a1 b0 b1 c0 c1 W) : Three w a0 a1 b0 b1 c0 c1 W.drew := ⟨h.1, h.2.1, h.2.2.1, h.2.2.2.drew⟩
theorem Three.new (w : World) (a0 a1 b0 b1 c0 c1 : Value) : Three w a0 a1 b0 b1 c0 c1 (((w.alloc (.cells #[a0, a1] 27)).alloc (.cells #[b0, b1] 27)).alloc (.cells #[c0, c1] 27)) := by
  have h0 := Pair.new w 27 a0 a1
  have h1 := Pair.new (w.alloc (.cells #[a0, a1] 27)) 27 b0 b1
  have h2 := Pair.new ((w.alloc (.cells #[a0, a1] 27)).alloc (.cells #[b0, b1] 27)) 27 c0 c1
  have s1 : (w.alloc (.cells #[a0, a1] 27)).heap.size = w.heap.size + 1 := by simp
  have s2 : ((w.alloc (.cells #[a0, a1] 27)).alloc (.cells #[b0, b1] 27)).heap.size = w.heap.size + 1 + 1 := by simp
  rw [s1] at h1
  rw [s2] at h2
  refine ⟨?_, ?_, h2, ?_⟩
  · exact (h0.next (Below.alloc (Below.refl _ _) (Nat.le_refl _) _)).next (Below.alloc (Below.refl _ _) (Nat.le_refl _) _)
  · have := h1.below (B := ((w.alloc (.cells #[a0, a1] 27)).alloc (.cells #[b0, b1] 27)).heap.size) (Below.alloc (Below.refl _ _) (Nat.le_refl _) (.cells #[c0, c1] 27)) (by rw [s2]; omega)
    exact this
  · exact (((Below.refl _ w).alloc (Nat.le_refl _) _).alloc (by simp) _).alloc (by simp; omega) _
theorem Three.alloc {w : World} {a0 a1 b0 b1 c0 c1 : Value} {W : World} (h : Three w a0 a1 b0 b1 c0 c1 W) (o : Obj) : Three w a0 a1 b0 b1 c0 c1 (W.alloc o) := h.next (Below.alloc (Below.refl _ _) (Nat.le_refl _) _)
#print axioms Three.new
end Go.Proofs
