/- Plain facts on distances, rounded; no program. x and y are the sides without their signs, t is ten to the scale. -/
import Derived.Test.YtogpnkahgkidpaaRootMore
namespace Go.Metric
open Go.Root

/-- The nearest whole number to a quotient. -/
def nst (n t : Nat) : Nat := (2 * n + t) / (2 * t)
/-- The distance of a kind. -/
def dist (kind t x y : Nat) : Nat :=
  if kind = 1 then near (x * x + y * y) t
  else if kind = 2 then ceil (x * x + y * y) 1 t
  else if kind = 3 then nst (x + y) t
  else if kind = 4 then max (nst x t) (nst y t)
  else if kind = 5 then ceil (x * x + y * y) 10 t
  else down (x * x + y * y) 10 t

theorem sum_most {x y : Nat} (hx : x ≤ 200000000) (hy : y ≤ 200000000) : x * x + y * y ≤ 80000000000000000 := by
  have h1 : x * x ≤ 40000000000000000 := sq_le hx
  have h2 : y * y ≤ 40000000000000000 := sq_le hy
  omega
theorem le_nst {n t : Nat} (ht : 1 ≤ t) (q : Nat) : q + 1 ≤ nst n t ↔ (2 * q + 1) * t ≤ 2 * n := by
  unfold nst
  rw [Nat.le_div_iff_mul_le (by omega)]
  have h1 : (q + 1) * (2 * t) = (2 * q + 1) * t + t := by rw [← Nat.mul_assoc, Nat.add_mul (2 * q) 1 t, Nat.one_mul, Nat.mul_comm (q + 1) 2, Nat.mul_add, Nat.mul_one, Nat.add_mul]; omega
  omega
theorem nst_near {x t : Nat} (ht : 1 ≤ t) (h : 4 * (x * x) ≤ 9223372036854775807) : nst x t = near (x * x) t := by
  refine eq_of_next fun q => ?_
  rw [le_nst ht, le_near ht h, show 4 * (x * x) = 2 * x * (2 * x) from (sq_times 2 x).symm, sq_le_iff]
theorem nst_one (n : Nat) : nst n 1 = n := by unfold nst; omega
theorem nst_zero {t : Nat} (ht : 1 ≤ t) : nst 0 t = 0 := by unfold nst; rw [Nat.mul_zero, Nat.zero_add]; exact Nat.div_eq_of_lt (by omega)
theorem nst_most {n t : Nat} (ht : 1 ≤ t) : nst n t ≤ n := by
  cases hq : nst n t with
  | zero => omega
  | succ q =>
    have h1 := (le_nst ht q).1 (by rw [hq]; exact Nat.le_refl _)
    have h2 : (2 * q + 1) * 1 ≤ (2 * q + 1) * t := Nat.mul_le_mul_left _ ht
    omega
theorem nst_tens {n t : Nat} (ht : 1 ≤ t) : nst (10 * n) (10 * t) = nst n t := by
  refine eq_of_next fun q => ?_
  rw [le_nst (by omega), le_nst ht, show (2 * q + 1) * (10 * t) = 10 * ((2 * q + 1) * t) from Nat.mul_left_comm _ _ _]
  omega
theorem near_zero {t : Nat} (ht : 1 ≤ t) : near 0 t = 0 := by
  have h := le_near (n := 0) ht (by omega) 0
  simp only [Nat.mul_zero, Nat.zero_add, Nat.one_mul] at h
  have h2 : 1 * 1 ≤ t * t := sq_le ht
  omega
theorem down_zero {m t : Nat} (ht : 1 ≤ t) : down 0 m t = 0 := by
  have h := le_down (n := 0) (m := m) ht (by simp) 1
  simp only [Nat.mul_zero, Nat.one_mul] at h
  have h2 : 1 * 1 ≤ t * t := sq_le ht
  omega
theorem ceil_tens' {n k t : Nat} (hn : n ≤ 800000000000000) (hk : 1 ≤ k) (ht : 1 ≤ t) : ceil (100 * n) k (10 * t) = ceil n k t := by
  refine eq_of_ge fun q => ?_
  rw [ceil_le hk (by omega) (by omega), ceil_le hk ht (by omega), show q * (10 * t) = 10 * (q * t) from Nat.mul_left_comm _ _ _, sq_times, ← Nat.mul_assoc, Nat.mul_comm k (10 * 10), Nat.mul_assoc]
  generalize k * (q * t * (q * t)) = X
  omega
theorem ceil_none {k t : Nat} (hk : 1 ≤ k) (ht : 1 ≤ t) : ceil 0 k t = 0 := by
  have := (ceil_le (n := 0) hk ht (by omega) 0).2 (by omega); omega

theorem dist_swap (kind t x y : Nat) : dist kind t y x = dist kind t x y := by
  unfold dist; rw [Nat.add_comm (y * y), Nat.add_comm y x, Nat.max_comm]
theorem dist_zero (kind : Nat) {t : Nat} (ht : 1 ≤ t) : dist kind t 0 0 = 0 := by
  unfold dist
  simp only [Nat.mul_zero, Nat.add_zero, near_zero ht, ceil_none (k := 1) (by omega) ht, nst_zero ht, ceil_none (k := 10) (by omega) ht, down_zero ht]
  simp
theorem dist_pos {kind x y : Nat} (hx : x ≤ 200000000) (hy : y ≤ 200000000) (h : x ≠ 0 ∨ y ≠ 0) : 1 ≤ dist kind 1 x y := by
  have hs := sum_most hx hy
  have h1 : 1 ≤ x * x + y * y := by
    rcases h with h | h
    · have : 1 * 1 ≤ x * x := sq_le (show 1 ≤ x by omega); omega
    · have : 1 * 1 ≤ y * y := sq_le (show 1 ≤ y by omega); omega
  unfold dist
  generalize x * x + y * y = n at hs h1
  have c1 := ceil_le (k := 1) (n := n) (by omega) (Nat.le_refl 1) (by omega) 0
  have c2 := ceil_le (k := 10) (n := n) (by omega) (Nat.le_refl 1) (by omega) 0
  have c3 := le_near (n := n) (Nat.le_refl 1) (by omega) 0
  have c4 := le_down (n := n) (m := 10) (Nat.le_refl 1) (by omega) 1
  simp only [Nat.mul_zero, Nat.zero_add, Nat.mul_one] at c1 c2 c3 c4
  simp only [nst_one]
  split
  · omega
  split
  · omega
  split
  · omega
  split
  · omega
  split <;> omega
theorem dist_tens {kind t x y : Nat} (hx : x ≤ 20000000) (hy : y ≤ 20000000) (ht : 1 ≤ t) : dist kind (10 * t) (10 * x) (10 * y) = dist kind t x y := by
  have h1 : x * x ≤ 400000000000000 := sq_le hx
  have h2 : y * y ≤ 400000000000000 := sq_le hy
  have e : 10 * x * (10 * x) + 10 * y * (10 * y) = 100 * (x * x + y * y) := by rw [sq_times, sq_times]; omega
  have hs : x * x + y * y ≤ 800000000000000 := by omega
  unfold dist
  rw [e, ← Nat.mul_add, nst_tens ht, nst_tens ht, nst_tens ht]
  generalize x * x + y * y = n at hs
  rw [near_tens hs ht, ceil_tens' hs (Nat.le_refl 1) ht, ceil_tens' hs (by omega) ht, down_tens hs ht]
theorem dist_most {kind t x y : Nat} (hx : x ≤ 200000000) (hy : y ≤ 200000000) (ht : 1 ≤ t) : dist kind t x y ≤ 3000000000 := by
  have hs := sum_most hx hy
  have n1 := nst_most (n := x + y) ht
  have n2 := nst_most (n := x) ht
  have n3 := nst_most (n := y) ht
  unfold dist
  generalize x * x + y * y = n at hs
  have c1 := near_small (d := t) hs
  have c2 := ceil_small (k := 1) hs (by omega) ht
  have c3 := ceil_small (k := 10) hs (by omega) ht
  have c4 := down_small (n := n) (m := 10) (d := t) (by omega)
  split
  · omega
  split
  · omega
  split
  · omega
  split
  · omega
  split <;> omega

/-! How the kinds stand to each other. -/
theorem most_le_straight {t x y : Nat} (hx : x ≤ 200000000) (hy : y ≤ 200000000) (ht : 1 ≤ t) : max (nst x t) (nst y t) ≤ near (x * x + y * y) t := by
  have hs := sum_most hx hy
  have h1 : x * x ≤ 40000000000000000 := sq_le hx
  have h2 : y * y ≤ 40000000000000000 := sq_le hy
  rw [nst_near ht (by omega), nst_near ht (by omega)]
  exact Nat.max_le.2 ⟨near_mono (Nat.le_add_right _ _) hs, near_mono (Nat.le_add_left _ _) hs⟩
theorem straight_le_sides {t x y : Nat} (hx : x ≤ 200000000) (hy : y ≤ 200000000) (ht : 1 ≤ t) : near (x * x + y * y) t ≤ nst (x + y) t := by
  obtain h | ⟨q, h⟩ : near (x * x + y * y) t = 0 ∨ ∃ q, near (x * x + y * y) t = q + 1 := by
    cases hq : near (x * x + y * y) t with
    | zero => exact .inl rfl
    | succ q => exact .inr ⟨q, rfl⟩
  · omega
  · have hs := sum_most hx hy
    rw [h, le_nst ht]
    have h1 := (le_near (n := x * x + y * y) ht (by omega) q).1 (by omega)
    refine le_of_sq (Nat.le_trans h1 ?_)
    rw [sq_times]
    have h2 : (x + y) * (x + y) = x * x + y * y + 2 * (x * y) := by simp only [Nat.mul_add, Nat.add_mul, Nat.mul_comm y x]; omega
    omega
theorem att_le {n t : Nat} (hn : n ≤ 80000000000000000) (ht : 1 ≤ t) : ceil n 10 t ≤ ceil n 1 t := by
  rw [ceil_le (by omega) ht (by omega)]
  have := (ceil_le (k := 1) (by omega) ht (show n ≤ 9223372036854775807 by omega) _).1 (Nat.le_refl (ceil n 1 t))
  omega
theorem tenth_ge {n t : Nat} (hn : n ≤ 80000000000000000) (ht : 1 ≤ t) : 10 * near n t ≤ down n 10 t + 5 := by
  obtain h | ⟨q, h⟩ : near n t = 0 ∨ ∃ q, near n t = q + 1 := by
    cases hq : near n t with
    | zero => exact .inl rfl
    | succ q => exact .inr ⟨q, rfl⟩
  · omega
  · have h1 := (le_near (n := n) ht (by omega) q).1 (by omega)
    have h2 := (le_down (n := n) (m := 10) ht (by omega) (5 * (2 * q + 1))).2 (by rw [show 5 * (2 * q + 1) * t = 5 * ((2 * q + 1) * t) from Nat.mul_assoc _ _ _, sq_times]; omega)
    omega
theorem tenth_le {n t : Nat} (hn : n ≤ 80000000000000000) (ht : 1 ≤ t) : down n 10 t ≤ 10 * near n t + 4 := by
  have h1 := le_near (n := n) ht (by omega) (near n t)
  have h2 := le_down (n := n) (m := 10) ht (by omega) (5 * (2 * near n t + 1))
  rw [show 5 * (2 * near n t + 1) * t = 5 * ((2 * near n t + 1) * t) from Nat.mul_assoc _ _ _, sq_times] at h2
  omega

/-! The way through a third point. -/
theorem sq_nonneg (x : Int) : 0 ≤ x * x := by rw [← Int.natAbs_mul_self]; exact Int.natCast_nonneg _
theorem sq_abs (x : Int) : ((x.natAbs * x.natAbs : Nat) : Int) = x * x := Int.natAbs_mul_self
theorem le_of_square {x c : Int} (hc : 0 ≤ c) (h : x * x ≤ c * c) : x ≤ c := by
  refine Int.not_lt.1 fun k => ?_
  have h1 : c * c ≤ c * x := Int.mul_le_mul_of_nonneg_left (by omega) hc
  have h2 : c * x < x * x := Int.mul_lt_mul_of_pos_right k (by omega)
  omega
theorem mul4_comm (a b c d : Int) : a * b * (c * d) = a * c * (b * d) := by rw [Int.mul_assoc, Int.mul_left_comm b c d, ← Int.mul_assoc]
theorem cross_sq (a b c d : Int) : (a * c + b * d) * (a * c + b * d) ≤ (a * a + b * b) * (c * c + d * d) := by
  have h : 0 ≤ (a * d - b * c) * (a * d - b * c) := sq_nonneg _
  have e1 : a * a * (c * c) = a * c * (a * c) := mul4_comm a a c c
  have e2 : a * a * (d * d) = a * d * (a * d) := mul4_comm a a d d
  have e3 : b * b * (c * c) = b * c * (b * c) := mul4_comm b b c c
  have e4 : b * b * (d * d) = b * d * (b * d) := mul4_comm b b d d
  have e5 : a * c * (b * d) = a * d * (b * c) := by rw [mul4_comm a c b d, mul4_comm a d b c, Int.mul_comm d c]
  simp only [Int.add_mul, Int.mul_add, Int.sub_mul, Int.mul_sub] at h ⊢
  rw [e1, e2, e3, e4]
  have e6 : b * d * (a * c) = a * c * (b * d) := Int.mul_comm _ _
  have e7 : b * c * (a * d) = a * d * (b * c) := Int.mul_comm _ _
  omega
theorem through {ax ay bx b_y : Int} {k A B : Int} (hk : 0 ≤ k) (hA : 0 ≤ A) (hB : 0 ≤ B) (ha : ax * ax + ay * ay ≤ k * (A * A)) (hb : bx * bx + b_y * b_y ≤ k * (B * B)) :
    (ax + bx) * (ax + bx) + (ay + b_y) * (ay + b_y) ≤ k * ((A + B) * (A + B)) := by
  have h1 := cross_sq ax ay bx b_y
  have hn : 0 ≤ bx * bx + b_y * b_y := by have := sq_nonneg bx; have := sq_nonneg b_y; omega
  have h2 : (ax * ax + ay * ay) * (bx * bx + b_y * b_y) ≤ k * (A * A) * (k * (B * B)) :=
    Int.le_trans (Int.mul_le_mul_of_nonneg_right ha hn) (Int.mul_le_mul_of_nonneg_left hb (Int.mul_nonneg hk (sq_nonneg A)))
  have e1 : k * (A * A) * (k * (B * B)) = k * (A * B) * (k * (A * B)) := by
    rw [mul4_comm, mul4_comm k (A * B), mul4_comm A A B B]
  have h3 : ax * bx + ay * b_y ≤ k * (A * B) := le_of_square (Int.mul_nonneg hk (Int.mul_nonneg hA hB)) (by rw [← e1]; exact Int.le_trans h1 h2)
  have e2 : (ax + bx) * (ax + bx) = ax * ax + bx * bx + 2 * (ax * bx) := by simp only [Int.add_mul, Int.mul_add, Int.mul_comm bx ax]; omega
  have e3 : (ay + b_y) * (ay + b_y) = ay * ay + b_y * b_y + 2 * (ay * b_y) := by simp only [Int.add_mul, Int.mul_add, Int.mul_comm b_y ay]; omega
  have e4 : k * ((A + B) * (A + B)) = k * (A * A) + k * (B * B) + 2 * (k * (A * B)) := by
    simp only [Int.add_mul, Int.mul_add, Int.mul_comm B A]; omega
  omega
theorem ceil_through {ax ay bx b_y : Int} {k t : Nat} (hk : 1 ≤ k) (ht : 1 ≤ t)
    (ha : ax.natAbs * ax.natAbs + ay.natAbs * ay.natAbs ≤ 80000000000000000) (hb : bx.natAbs * bx.natAbs + b_y.natAbs * b_y.natAbs ≤ 80000000000000000)
    (hc : (ax + bx).natAbs * (ax + bx).natAbs + (ay + b_y).natAbs * (ay + b_y).natAbs ≤ 80000000000000000) :
    ceil ((ax + bx).natAbs * (ax + bx).natAbs + (ay + b_y).natAbs * (ay + b_y).natAbs) k t ≤
      ceil (ax.natAbs * ax.natAbs + ay.natAbs * ay.natAbs) k t + ceil (bx.natAbs * bx.natAbs + b_y.natAbs * b_y.natAbs) k t := by
  have h1 := (ceil_le hk ht (show ax.natAbs * ax.natAbs + ay.natAbs * ay.natAbs ≤ 9223372036854775807 by omega) _).1 (Nat.le_refl _)
  have h2 := (ceil_le hk ht (show bx.natAbs * bx.natAbs + b_y.natAbs * b_y.natAbs ≤ 9223372036854775807 by omega) _).1 (Nat.le_refl _)
  rw [ceil_le hk ht (by omega), Nat.add_mul]
  generalize ceil (ax.natAbs * ax.natAbs + ay.natAbs * ay.natAbs) k t * t = A at h1
  generalize ceil (bx.natAbs * bx.natAbs + b_y.natAbs * b_y.natAbs) k t * t = B at h2
  have g1 := Int.ofNat_le.2 h1
  have g2 := Int.ofNat_le.2 h2
  rw [Int.natCast_add, sq_abs, sq_abs] at g1 g2
  have := through (k := (k : Int)) (A := (A : Int)) (B := (B : Int)) (by omega) (by omega) (by omega) (by simpa using g1) (by simpa using g2)
  refine Int.ofNat_le.1 ?_
  rw [Int.natCast_add, sq_abs, sq_abs]
  simpa using this
theorem sides_through (ax ay bx b_y : Int) : nst ((ax + bx).natAbs + (ay + b_y).natAbs) 1 ≤ nst (ax.natAbs + ay.natAbs) 1 + nst (bx.natAbs + b_y.natAbs) 1 := by
  simp only [nst_one]; omega
theorem most_through (ax ay bx b_y : Int) : max (nst (ax + bx).natAbs 1) (nst (ay + b_y).natAbs 1) ≤ max (nst ax.natAbs 1) (nst ay.natAbs 1) + max (nst bx.natAbs 1) (nst b_y.natAbs 1) := by
  simp only [nst_one]; omega
#print axioms ceil_through
end Go.Metric
