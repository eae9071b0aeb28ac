/- Plain facts on roots of whole numbers, rounded; no program. Guesses at a root from above, the last of which is the root rounded down; quotients of roots by what they are compared with. -/
import Derived.Lib.ItoaNum
import Derived.RowKit
namespace Go.Root

/-- q is the root of n, rounded down. -/
def IsRoot (q n : Nat) : Prop := q * q ≤ n ∧ n < (q + 1) * (q + 1)

theorem sq_le {a b : Nat} (h : a ≤ b) : a * a ≤ b * b := Nat.mul_le_mul h h
theorem sq_lt {a b : Nat} (h : a < b) : a * a < b * b := Nat.mul_self_lt_mul_self h
theorem le_of_sq {a b : Nat} (h : a * a ≤ b * b) : a ≤ b := Nat.mul_self_le_mul_self_iff.1 h
theorem lt_of_sq {a b : Nat} (h : a * a < b * b) : a < b := Nat.mul_self_lt_mul_self_iff.1 h

theorem IsRoot.le_iff {q n : Nat} (h : IsRoot q n) (a : Nat) : a ≤ q ↔ a * a ≤ n :=
  ⟨fun g => Nat.le_trans (sq_le g) h.1, fun g => by have := lt_of_sq (Nat.lt_of_le_of_lt g h.2); omega⟩
theorem IsRoot.unique {q r n : Nat} (h : IsRoot q n) (k : IsRoot r n) : q = r :=
  Nat.le_antisymm ((k.le_iff q).2 h.1) ((h.le_iff r).2 k.1)

/-- The guesses from g on; f: how many more there may be. -/
def guessed (n : Nat) : Nat → Nat → List Nat
  | 0, _ => []
  | f + 1, g => g :: if n / g < g then guessed n f ((g + n / g) / 2) else []
/-- The first guess, and all of them. -/
def first (n : Nat) : Nat := 2 ^ ((Lib.bitLen n + 1) / 2)
def guesses (n : Nat) : List Nat := if n = 0 then [] else guessed n (first n) (first n)
/-- The root, rounded down. -/
def rt (n : Nat) : Nat := (guesses n).getLast?.getD 0

theorem half_lt {n g : Nat} (h : n / g < g) : (g + n / g) / 2 < g := by omega
theorem half_ge {n g r : Nat} (hr : r * r ≤ n) (hg : 0 < g) : r ≤ (g + n / g) / 2 := by
  rcases Nat.lt_or_ge g (2 * r) with h | h
  · have h1 : g * (2 * r - g) ≤ n := by
      refine Nat.le_trans ?_ hr
      obtain ⟨k, hk⟩ : ∃ k, 2 * r = g + k := ⟨2 * r - g, by omega⟩
      rw [hk, Nat.add_sub_cancel_left]
      have h2 : (g + k) * (g + k) = 4 * (r * r) := by rw [← hk, Nat.mul_mul_mul_comm]
      have h3 : 4 * (g * k) ≤ (g + k) * (g + k) := by
        rcases Nat.le_total g k with h4 | h4
        · obtain ⟨c, rfl⟩ := Nat.exists_eq_add_of_le h4
          have e1 : 4 * (g * (g + c)) = 4 * (g * g) + 4 * (g * c) := by rw [Nat.mul_add, Nat.mul_add]
          have e2 : (g + (g + c)) * (g + (g + c)) = 4 * (g * g) + 4 * (g * c) + c * c := by
            simp only [Nat.mul_add, Nat.add_mul, Nat.mul_comm c g]; omega
          omega
        · obtain ⟨c, rfl⟩ := Nat.exists_eq_add_of_le h4
          have e1 : 4 * ((k + c) * k) = 4 * (k * k) + 4 * (k * c) := by rw [Nat.add_mul, Nat.mul_add, Nat.mul_comm c k]
          have e2 : (k + c + k) * (k + c + k) = 4 * (k * k) + 4 * (k * c) + c * c := by
            simp only [Nat.mul_add, Nat.add_mul, Nat.mul_comm c k]; omega
          omega
      omega
    have h2 : 2 * r - g ≤ n / g := (Nat.le_div_iff_mul_le hg).2 (by rw [Nat.mul_comm]; exact h1)
    omega
  · generalize n / g = q
    omega
theorem stop_eq {n g r : Nat} (hr : IsRoot r n) (hg : 0 < g) (hge : r ≤ g) (h : ¬ n / g < g) : g = r := by
  have h1 : g ≤ n / g := by omega
  have h2 := (Nat.le_div_iff_mul_le hg).1 h1
  exact Nat.le_antisymm ((hr.le_iff g).2 h2) hge
theorem root_pos {r n : Nat} (h : IsRoot r n) (hn : 0 < n) : 0 < r := (h.le_iff 1).2 (by omega)

theorem guessed_ne {n f g : Nat} (hf : 0 < f) : guessed n f g ≠ [] := by
  obtain ⟨f, rfl⟩ : ∃ k, f = k + 1 := ⟨f - 1, by omega⟩
  simp [guessed]
theorem guessed_last {r n : Nat} (hr : IsRoot r n) (hn : 0 < n) : ∀ (f g : Nat), r ≤ g → g ≤ f → (guessed n f g).getLast? = some r := by
  intro f
  induction f with
  | zero => intro g h1 h2; have := root_pos hr hn; omega
  | succ f ih =>
    intro g h1 h2
    have hg : 0 < g := Nat.lt_of_lt_of_le (root_pos hr hn) h1
    simp only [guessed]
    by_cases h : n / g < g
    · have h3 := half_ge (n := n) (g := g) hr.1 hg
      have h4 := half_lt h
      have h5 := ih _ h3 (by omega)
      have h6 : guessed n f ((g + n / g) / 2) ≠ [] := guessed_ne (by have := root_pos hr hn; omega)
      rw [if_pos h, List.getLast?_cons]
      simp [h5]
    · rw [if_neg h, stop_eq hr hg h1 h]; rfl

theorem bitLen_above {n : Nat} (h0 : 0 < n) (h : n < 2 ^ 64) : n < 2 ^ Lib.bitLen n := (Lib.bitLenAux_bounds 64 n h (by omega)).2.2
theorem bitLen_most {n : Nat} (h : n ≤ 9223372036854775807) : Lib.bitLen n ≤ 63 := Lib.bitLen_le n 63 (by omega) (by omega)
theorem first_pos (n : Nat) : 0 < first n := Nat.two_pow_pos _
theorem first_le {n : Nat} (h : n ≤ 9223372036854775807) : first n ≤ 4294967296 := by
  have := bitLen_most h
  exact Nat.le_trans (Nat.pow_le_pow_right (by omega) (show (Lib.bitLen n + 1) / 2 ≤ 32 by omega)) (by decide)
theorem first_above {n : Nat} (h0 : 0 < n) (h : n < 2 ^ 64) : n < first n * first n := by
  refine Nat.lt_of_lt_of_le (bitLen_above h0 h) ?_
  rw [first, ← Nat.pow_add]
  exact Nat.pow_le_pow_right (by omega) (by omega)

theorem root_exists (n : Nat) : ∃ r, IsRoot r n := by
  induction n with
  | zero => exact ⟨0, by simp [IsRoot]⟩
  | succ n ih =>
    obtain ⟨r, h1, h2⟩ := ih
    by_cases h : n + 1 < (r + 1) * (r + 1)
    · exact ⟨r, by omega, h⟩
    · exact ⟨r + 1, by omega, Nat.lt_of_lt_of_le (show n + 1 < (r + 1) * (r + 1) + 1 by omega) (by have := sq_lt (show r + 1 < r + 1 + 1 by omega); omega)⟩
theorem rt_is {n : Nat} (h : n ≤ 9223372036854775807) : IsRoot (rt n) n := by
  obtain ⟨r, hr⟩ := root_exists n
  by_cases h0 : n = 0
  · subst h0; simp [rt, guesses, IsRoot]
  · have h1 : r ≤ first n := Nat.le_of_lt (lt_of_sq (Nat.lt_of_le_of_lt hr.1 (first_above (by omega) (by omega))))
    have := guessed_last hr (by omega) _ _ h1 (Nat.le_refl _)
    simpa [rt, guesses, h0, this] using hr

theorem rt_eq {n q : Nat} (h : n ≤ 9223372036854775807) (k : IsRoot q n) : rt n = q := (rt_is h).unique k
theorem le_rt {n : Nat} (h : n ≤ 9223372036854775807) (a : Nat) : a ≤ rt n ↔ a * a ≤ n := (rt_is h).le_iff a
theorem rt_lt {n : Nat} (h : n ≤ 9223372036854775807) (a : Nat) : rt n < a ↔ n < a * a := by
  have := le_rt h a; omega
theorem rt_most {n : Nat} (h : n ≤ 9223372036854775807) : rt n ≤ 3037000499 := by
  have := (rt_lt h 3037000500).2 (by omega); omega

/-- What the three quotients are. -/
def near (n d : Nat) : Nat := (rt (4 * n) / d + 1) / 2
def down (n m d : Nat) : Nat := rt (m * m * n) / d
def upto (a b : Nat) : Nat := (a + b - 1) / b
def ceiling (n : Nat) : Nat := if rt n * rt n < n then rt n + 1 else rt n
def ceil (n k d : Nat) : Nat := upto (ceiling (upto n k)) d

theorem upto_le {a b : Nat} (hb : 0 < b) (q : Nat) : upto a b ≤ q ↔ a ≤ q * b := by
  unfold upto
  rw [← Nat.lt_succ_iff, Nat.div_lt_iff_lt_mul hb, Nat.succ_mul]
  omega
theorem ceiling_le {n : Nat} (h : n ≤ 9223372036854775807) (q : Nat) : ceiling n ≤ q ↔ n ≤ q * q := by
  have h1 := rt_is h
  unfold ceiling
  have h2 := le_rt h (q + 1)
  have h3 := rt_lt h q
  have h4 := rt_lt h (q + 1)
  split
  · rename_i hlt
    constructor
    · intro g
      by_cases e : rt n + 1 = q
      · rw [← e]; exact Nat.le_of_lt h1.2
      · exact Nat.le_of_lt (h3.1 (by omega))
    · intro g
      have : ¬ q ≤ rt n := fun e => by have := sq_le e; omega
      omega
  · rename_i hge
    have he : n = rt n * rt n := by have := h1.1; omega
    constructor
    · intro g; rw [he]; exact sq_le g
    · intro g; rw [he] at g; exact le_of_sq g
theorem ceiling_most {n : Nat} (h : n ≤ 9000000000000000000) : ceiling n ≤ 3000000000 := (ceiling_le (by omega) _).2 (by omega)
theorem upto_most {a b c : Nat} (hb : 0 < b) (h : a ≤ c) : upto a b ≤ c := (upto_le hb c).2 (Nat.le_trans h (Nat.le_mul_of_pos_right c hb))

theorem le_near {n d : Nat} (hd : 0 < d) (h : 4 * n ≤ 9223372036854775807) (q : Nat) : q + 1 ≤ near n d ↔ (2 * q + 1) * d * ((2 * q + 1) * d) ≤ 4 * n := by
  rw [← le_rt h, ← Nat.le_div_iff_mul_le hd]
  unfold near
  omega
theorem le_down {n m d : Nat} (hd : 0 < d) (h : m * m * n ≤ 9223372036854775807) (q : Nat) : q ≤ down n m d ↔ q * d * (q * d) ≤ m * m * n := by
  rw [← le_rt h, ← Nat.le_div_iff_mul_le hd]
  rfl
theorem ceil_le {n k d : Nat} (hk : 0 < k) (hd : 0 < d) (h : n ≤ 9223372036854775807) (q : Nat) : ceil n k d ≤ q ↔ n ≤ k * (q * d * (q * d)) := by
  unfold ceil
  rw [upto_le hd, ceiling_le (upto_most hk h), upto_le hk, Nat.mul_comm]
#print axioms ceil_le
end Go.Root
