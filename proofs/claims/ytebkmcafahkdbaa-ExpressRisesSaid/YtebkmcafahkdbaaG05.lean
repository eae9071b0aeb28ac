/- Plain facts on distances, rounded; no program. x and y are the sides without their signs, t is ten to the scale. -/
import Derived.Test.YtebkmcafahkdbaaG04
import Derived.Test.YtebkmcafahkdbaaG01
import Derived.Test.YtebkmcafahkdbaaG02
namespace Go.Metric
open Go.Root

/-- The nearest whole number to a quotient. -/
def nst (n t : Nat) : Nat := (2 * n + t) / (2 * t)
/-- The distance of a kind. -/
def dist (kind t x y : Nat) : Nat :=
  if kind = 1 then near (x * x + y * y) t
  else if kind = 2 then ceil (x * x + y * y) 1 t
  else if kind = 3 then nst (x + y) t
  else if kind = 4 then max (nst x t) (nst y t)
  else if kind = 5 then ceil (x * x + y * y) 10 t
  else down (x * x + y * y) 10 t

theorem sum_most {x y : Nat} (hx : x ≤ 200000000) (hy : y ≤ 200000000) : x * x + y * y ≤ 80000000000000000 := by
  have h1 : x * x ≤ 40000000000000000 := sq_le hx
  have h2 : y * y ≤ 40000000000000000 := sq_le hy
  omega
theorem le_nst {n t : Nat} (ht : 1 ≤ t) (q : Nat) : q + 1 ≤ nst n t ↔ (2 * q + 1) * t ≤ 2 * n := by
  unfold nst
  rw [Nat.le_div_iff_mul_le (by omega)]
  have h1 : (q + 1) * (2 * t) = (2 * q + 1) * t + t := by rw [← Nat.mul_assoc, Nat.add_mul (2 * q) 1 t, Nat.one_mul, Nat.mul_comm (q + 1) 2, Nat.mul_add, Nat.mul_one, Nat.add_mul]; omega
  omega
theorem nst_near {x t : Nat} (ht : 1 ≤ t) (h : 4 * (x * x) ≤ 9223372036854775807) : nst x t = near (x * x) t := by
  refine eq_of_next fun q => ?_
  rw [le_nst ht, le_near ht h, show 4 * (x * x) = 2 * x * (2 * x) from (sq_times 2 x).symm, sq_le_iff]
theorem nst_one (n : Nat) : nst n 1 = n := by unfold nst; omega
theorem nst_zero {t : Nat} (ht : 1 ≤ t) : nst 0 t = 0 := by unfold nst; rw [Nat.mul_zero, Nat.zero_add]; exact Nat.div_eq_of_lt (by omega)
theorem nst_most {n t : Nat} (ht : 1 ≤ t) : nst n t ≤ n := by
  cases hq : nst n t with
  | zero => omega
  | succ q =>
    have h1 := (le_nst ht q).1 (by rw [hq]; exact Nat.le_refl _)
    have h2 : (2 * q + 1) * 1 ≤ (2 * q + 1) * t := Nat.mul_le_mul_left _ ht
    omega
theorem nst_tens {n t : Nat} (ht : 1 ≤ t) : nst (10 * n) (10 * t) = nst n t := by
  refine eq_of_next fun q => ?_
  rw [le_nst (by omega), le_nst ht, show (2 * q + 1) * (10 * t) = 10 * ((2 * q + 1) * t) from Nat.mul_left_comm _ _ _]
  omega
theorem near_zero {t : Nat} (ht : 1 ≤ t) : near 0 t = 0 := by
  have h := le_near (n := 0) ht (by omega) 0
  simp only [Nat.mul_zero, Nat.zero_add, Nat.one_mul] at h
  have h2 : 1 * 1 ≤ t * t := sq_le ht
  omega
theorem down_zero {m t : Nat} (ht : 1 ≤ t) : down 0 m t = 0 := by
  have h := le_down (n := 0) (m := m) ht (by simp) 1
  simp only [Nat.mul_zero, Nat.one_mul] at h
  have h2 : 1 * 1 ≤ t * t := sq_le ht
  omega
theorem ceil_tens' {n k t : Nat} (hn : n ≤ 800000000000000) (hk : 1 ≤ k) (ht : 1 ≤ t) : ceil (100 * n) k (10 * t) = ceil n k t := by
  refine eq_of_ge fun q => ?_
  rw [ceil_le hk (by omega) (by omega), ceil_le hk ht (by omega), show q * (10 * t) = 10 * (q * t) from Nat.mul_left_comm _ _ _, sq_times, ← Nat.mul_assoc, Nat.mul_comm k (10 * 10), Nat.mul_assoc]
  generalize k * (q * t * (q * t)) = X
  omega
theorem ceil_none {k t : Nat} (hk : 1 ≤ k) (ht : 1 ≤ t) : ceil 0 k t = 0 := by
  have := (ceil_le (n := 0) hk ht (by omega) 0).2 (by omega); omega

theorem dist_swap (kind t x y : Nat) : dist kind t y x = dist kind t x y := by
  unfold dist; rw [Nat.add_comm (y * y), Nat.add_comm y x, Nat.max_comm]
theorem dist_zero (kind : Nat) {t : Nat} (ht : 1 ≤ t) : dist kind t 0 0 = 0 := by
  unfold dist
  simp only [Nat.mul_zero, Nat.add_zero, near_zero ht, ceil_none (k := 1) (by omega) ht, nst_zero ht, ceil_none (k := 10) (by omega) ht, down_zero ht]
  simp
theorem dist_pos {kind x y : Nat} (hx : x ≤ 200000000) (hy : y ≤ 200000000) (h : x ≠ 0 ∨ y ≠ 0) : 1 ≤ dist kind 1 x y := by
  have hs := sum_most hx hy
  have h1 : 1 ≤ x * x + y * y := by
    rcases h with h | h
    · have : 1 * 1 ≤ x * x := sq_le (show 1 ≤ x by omega); omega
    · have : 1 * 1 ≤ y * y := sq_le (show 1 ≤ y by omega); omega
  unfold dist
  generalize x * x + y * y = n at hs h1
  have c1 := ceil_le (k := 1) (n := n) (by omega) (Nat.le_refl 1) (by omega) 0
  have c2 := ceil_le (k := 10) (n := n) (by omega) (Nat.le_refl 1) (by omega) 0
  have c3 := le_near (n := n) (Nat.le_refl 1) (by omega) 0
  have c4 := le_down (n := n) (m := 10) (Nat.le_refl 1) (by omega) 1
  simp only [Nat.mul_zero, Nat.zero_add, Nat.mul_one] at c1 c2 c3 c4
  simp only [nst_one]
  split
  · omega
  split
  · omega
  split
  · omega
  split
  · omega
  split <;> omega
theorem dist_tens {kind t x y : Nat} (hx : x ≤ 20000000) (hy : y ≤ 20000000) (ht : 1 ≤ t) : dist kind (10 * t) (10 * x) (10 * y) = dist kind t x y := by
  have h1 : x * x ≤ 400000000000000 := sq_le hx
  have h2 : y * y ≤ 400000000000000 := sq_le hy
  have e : 10 * x * (10 * x) + 10 * y * (10 * y) = 100 * (x * x + y * y) := by rw [sq_times, sq_times]; omega
  have hs : x * x + y * y ≤ 800000000000000 := by omega
  unfold dist
  rw [e, ← Nat.mul_add, nst_tens ht, nst_tens ht, nst_tens ht]
  generalize x * x + y * y = n at hs
  rw [near_tens hs ht, ceil_tens' hs (Nat.le_refl 1) ht, ceil_tens' hs (by omega) ht, down_tens hs ht]
theorem dist_most {kind t x y : Nat} (hx : x ≤ 200000000) (hy : y ≤ 200000000) (ht : 1 ≤ t) : dist kind t x y ≤ 3000000000 := by
  have hs := sum_most hx hy
  have n1 := nst_most (n := x + y) ht
  have n2 := nst_most (n := x) ht
  have n3 := nst_most (n := y) ht
  unfold dist
  generalize x * x + y * y = n at hs
  have c1 := near_small (d := t) hs
  have c2 := ceil_small (k := 1) hs (by omega) ht
  have c3 := ceil_small (k := 10) hs (by omega) ht
  have c4 := down_small (n := n) (m := 10) (d := t) (by omega)
  split
  · omega
  split
  · omega
  split
  · omega
  split
  · omega
  split <;> omega

/-! How the kinds stand to each other. -/
theorem most_le_straight {t x y : Nat} (hx : x ≤ 200000000) (hy : y ≤ 200000000) (ht : 1 ≤ t) : max (nst x t) (nst y t) ≤ near (x * x + y * y) t := by
  have hs := sum_most hx hy
  have h1 : x * x ≤ 40000000000000000 := sq_le hx
  have h2 : y * y ≤ 40000000000000000 := sq_le hy
  rw [nst_near ht (by omega), nst_near ht (by omega)]
  exact Nat.max_le.2 ⟨near_mono (Nat.le_add_right _ _) hs, near_mono (Nat.le_add_left _ _) hs⟩
theorem straight_le_sides {t x y : Nat} (hx : x ≤ 200000000) (hy : y ≤ 200000000) (ht : 1 ≤ t) : near (x * x + y * y) t ≤ nst (x + y) t := by
  obtain h | ⟨q, h⟩ : near (x * x + y * y) t = 0 ∨ ∃ q, near (x * x + y * y) t = q + 1 := by
    cases hq : near (x * x + y * y) t with
    | zero => exact .inl rfl
    | succ q => exact .inr ⟨q, rfl⟩
  · omega
  · have hs := sum_most hx hy
    rw [h, le_nst ht]
    have h1 := (le_near (n := x * x + y * y) ht (by omega) q).1 (by omega)
    refine le_of_sq (Nat.le_trans h1 ?_)
    rw [sq_times]
    have h2 : (x + y) * (x + y) = x * x + y * y + 2 * (x * y) := by simp only [Nat.mul_add, Nat.add_mul, Nat.mul_comm y x]; omega
    omega
theorem att_le {n t : Nat} (hn : n ≤ 80000000000000000) (ht : 1 ≤ t) : ceil n 10 t ≤ ceil n 1 t := by
  rw [ceil_le (by omega) ht (by omega)]
  have := (ceil_le (k := 1) (by omega) ht (show n ≤ 9223372036854775807 by omega) _).1 (Nat.le_refl (ceil n 1 t))
  omega
theorem tenth_ge {n t : Nat} (hn : n ≤ 80000000000000000) (ht : 1 ≤ t) : 10 * near n t ≤ down n 10 t + 5 := by
  obtain h | ⟨q, h⟩ : near n t = 0 ∨ ∃ q, near n t = q + 1 := by
    cases hq : near n t with
    | zero => exact .inl rfl
    | succ q => exact .inr ⟨q, rfl⟩
  · omega
  · have h1 := (le_near (n := n) ht (by omega) q).1 (by omega)
    have h2 := (le_down (n := n) (m := 10) ht (by omega) (5 * (2 * q + 1))).2 (by rw [show 5 * (2 * q + 1) * t = 5 * ((2 * q + 1) * t) from Nat.mul_assoc _ _ _, sq_times]; omega)
    omega
theorem tenth_le {n t : Nat} (hn : n ≤ 80000000000000000) (ht : 1 ≤ t) : down n 10 t ≤ 10 * near n t + 4 := by
  have h1 := le_near (n := n) ht (by omega) (near n t)
  have h2 := le_down (n := n) (m := 10) ht (by omega) (5 * (2 * near n t + 1))
  rw [show 5 * (2 * near n t + 1) * t = 5 * ((2 * near n t + 1) * t) from Nat.mul_assoc _ _ _, sq_times] at h2
  omega

/-! The way through a third point. -/
theorem sq_nonneg (x : Int) : 0 ≤ x * x := by rw [← Int.natAbs_mul_self]; exact Int.natCast_nonneg _
theorem sq_abs (x : Int) : ((x.natAbs * x.natAbs : Nat) : Int) = x * x := Int.natAbs_mul_self
theorem le_of_square {x c : Int} (hc : 0 ≤ c) (h : x * x ≤ c * c) : x ≤ c := by
  refine Int.not_lt.1 fun k => ?_
  have h1 : c * c ≤ c * x := Int.mul_le_mul_of_nonneg_left (by omega) hc
  have h2 : c * x < x * x := Int.mul_lt_mul_of_pos_right k (by omega)
  omega
theorem mul4_comm (a b c d : Int) : a * b * (c * d) = a * c * (b * d) := by rw [Int.mul_assoc, Int.mul_left_comm b c d, ← Int.mul_assoc]
theorem cross_sq (a b c d : Int) : (a * c + b * d) * (a * c + b * d) ≤ (a * a + b * b) * (c * c + d * d) := by
  have h : 0 ≤ (a * d - b * c) * (a * d - b * c) := sq_nonneg _
  have e1 : a * a * (c * c) = a * c * (a * c) := mul4_comm a a c c
  have e2 : a * a * (d * d) = a * d * (a * d) := mul4_comm a a d d
  have e3 : b * b * (c * c) = b * c * (b * c) := mul4_comm b b c c
  have e4 : b * b * (d * d) = b * d * (b * d) := mul4_comm b b d d
  have e5 : a * c * (b * d) = a * d * (b * c) := by rw [mul4_comm a c b d, mul4_comm a d b c, Int.mul_comm d c]
  simp only [Int.add_mul, Int.mul_add, Int.sub_mul, Int.mul_sub] at h ⊢
  rw [e1, e2, e3, e4]
  have e6 : b * d * (a * c) = a * c * (b * d) := Int.mul_comm _ _
  have e7 : b * c * (a * d) = a * d * (b * c) := Int.mul_comm _ _
  omega
theorem through {ax ay bx b_y : Int} {k A B : Int} (hk : 0 ≤ k) (hA : 0 ≤ A) (hB : 0 ≤ B) (ha : ax * ax + ay * ay ≤ k * (A * A)) (hb : bx * bx + b_y * b_y ≤ k * (B * B)) :
    (ax + bx) * (ax + bx) + (ay + b_y) * (ay + b_y) ≤ k * ((A + B) * (A + B)) := by
  have h1 := cross_sq ax ay bx b_y
  have hn : 0 ≤ bx * bx + b_y * b_y := by have := sq_nonneg bx; have := sq_nonneg b_y; omega
  have h2 : (ax * ax + ay * ay) * (bx * bx + b_y * b_y) ≤ k * (A * A) * (k * (B * B)) :=
    Int.le_trans (Int.mul_le_mul_of_nonneg_right ha hn) (Int.mul_le_mul_of_nonneg_left hb (Int.mul_nonneg hk (sq_nonneg A)))
  have e1 : k * (A * A) * (k * (B * B)) = k * (A * B) * (k * (A * B)) := by
    rw [mul4_comm, mul4_comm k (A * B), mul4_comm A A B B]
  have h3 : ax * bx + ay * b_y ≤ k * (A * B) := le_of_square (Int.mul_nonneg hk (Int.mul_nonneg hA hB)) (by rw [← e1]; exact Int.le_trans h1 h2)
  have e2 : (ax + bx) * (ax + bx) = ax * ax + bx * bx + 2 * (ax * bx) := by simp only [Int.add_mul, Int.mul_add, Int.mul_comm bx ax]; omega
  have e3 : (ay + b_y) * (ay + b_y) = ay * ay + b_y * b_y + 2 * (ay * b_y) := by simp only [Int.add_mul, Int.mul_add, Int.mul_comm b_y ay]; omega
  have e4 : k * ((A + B) * (A + B)) = k * (A * A) + k * (B * B) + 2 * (k * (A * B)) := by
    simp only [Int.add_mul, Int.mul_add, Int.mul_comm B A]; omega
  omega
theorem ceil_through {ax ay bx b_y : Int} {k t : Nat} (hk : 1 ≤ k) (ht : 1 ≤ t)
    (ha : ax.natAbs * ax.natAbs + ay.natAbs * ay.natAbs ≤ 80000000000000000) (hb : bx.natAbs * bx.natAbs + b_y.natAbs * b_y.natAbs ≤ 80000000000000000)
    (hc : (ax + bx).natAbs * (ax + bx).natAbs + (ay + b_y).natAbs * (ay + b_y).natAbs ≤ 80000000000000000) :
    ceil ((ax + bx).natAbs * (ax + bx).natAbs + (ay + b_y).natAbs * (ay + b_y).natAbs) k t ≤
      ceil (ax.natAbs * ax.natAbs + ay.natAbs * ay.natAbs) k t + ceil (bx.natAbs * bx.natAbs + b_y.natAbs * b_y.natAbs) k t := by
  have h1 := (ceil_le hk ht (show ax.natAbs * ax.natAbs + ay.natAbs * ay.natAbs ≤ 9223372036854775807 by omega) _).1 (Nat.le_refl _)
  have h2 := (ceil_le hk ht (show bx.natAbs * bx.natAbs + b_y.natAbs * b_y.natAbs ≤ 9223372036854775807 by omega) _).1 (Nat.le_refl _)
  rw [ceil_le hk ht (by omega), Nat.add_mul]
  generalize ceil (ax.natAbs * ax.natAbs + ay.natAbs * ay.natAbs) k t * t = A at h1
  generalize ceil (bx.natAbs * bx.natAbs + b_y.natAbs * b_y.natAbs) k t * t = B at h2
  have g1 := Int.ofNat_le.2 h1
  have g2 := Int.ofNat_le.2 h2
  rw [Int.natCast_add, sq_abs, sq_abs] at g1 g2
  have := through (k := (k : Int)) (A := (A : Int)) (B := (B : Int)) (by omega) (by omega) (by omega) (by simpa using g1) (by simpa using g2)
  refine Int.ofNat_le.1 ?_
  rw [Int.natCast_add, sq_abs, sq_abs]
  simpa using this
theorem sides_through (ax ay bx b_y : Int) : nst ((ax + bx).natAbs + (ay + b_y).natAbs) 1 ≤ nst (ax.natAbs + ay.natAbs) 1 + nst (bx.natAbs + b_y.natAbs) 1 := by
  simp only [nst_one]; omega
theorem most_through (ax ay bx b_y : Int) : max (nst (ax + bx).natAbs 1) (nst (ay + b_y).natAbs 1) ≤ max (nst ax.natAbs 1) (nst ay.natAbs 1) + max (nst bx.natAbs 1) (nst b_y.natAbs 1) := by
  simp only [nst_one]; omega
#print axioms ceil_through
end Go.Metric
/- Plain facts on what is wrong with a plan: ways, loads, times, wrongs; no program. -/
namespace Go.Feas
open Go.Canon Go.Plans Go.Metric
/-- What is wrong: the code, the route, the node. -/
abbrev Wr := Int × Int × Int
/-! How far, how much, when. -/
def way (x : Ins) (i j : Nat) : Int :=
  if x.metric = 0 then x.matrix.getD (i * x.nodes.length + j) 0
  else ((dist x.metric.toNat (10 ^ x.scale.toNat) ((at' x j).x - (at' x i).x).natAbs ((at' x j).y - (at' x i).y).natAbs : Nat) : Int)
def nodeB (x : Ins) (s : Int) : Bool := decide (0 ≤ s) && decide (s < (x.nodes.length : Int))
def nodesB (x : Ins) (r : List Int) : Bool := r.all (nodeB x)
def unit (x : Ins) : Int := if x.metric = 6 then 10 else 1
def nd (x : Ins) (s : Int) : Nd := at' x s.toNat
def loadStep (x : Ins) (t : Int × List Int) (s : Int) : Int × List Int := (t.1 + (nd x s).demand, t.2 ++ [t.1 + (nd x s).demand])
def loadsF (x : Ins) (r : List Int) : Int × List Int := r.foldl (loadStep x) (0, [])
def loads (x : Ins) (r : List Int) : List Int := if nodesB x r = true then (loadsF x r).2 else []
/-- Where one is, when, which stop was late, and when services began. -/
structure TS where
  now : Int
  pos : Nat
  late : Int
  out : List Int
def begins (x : Ins) (t : TS) (s : Int) : Int := max (t.now + way x t.pos s.toNat) (unit x * (nd x s).ready)
def timeStep (x : Ins) (t : TS) (s : Int) : TS :=
  ⟨begins x t s + unit x * (nd x s).service, s.toNat, if t.late < 0 ∧ unit x * (nd x s).due < begins x t s then (t.out.length : Int) else t.late, t.out ++ [begins x t s]⟩
def tstart (x : Ins) : TS := ⟨unit x * (at' x 0).ready, 0, -1, []⟩
def timesF (x : Ins) (r : List Int) : TS := r.foldl (timeStep x) (tstart x)
def back (x : Ins) (t : TS) : Bool := decide (unit x * (at' x 0).due < t.now + way x t.pos 0)
def lateI (x : Ins) (r : List Int) : Int :=
  if r.length = 0 then -1 else if nodesB x r = false then 0
  else if (timesF x r).late < 0 ∧ back x (timesF x r) = true then (r.length : Int) else (timesF x r).late
def timesL (x : Ins) (r : List Int) : List Int := if nodesB x r = true then (timesF x r).out else []
/-! What is wrong. -/
def least (x : Ins) : Nat := if x.kind = 1 then 0 else 1
def badB (x : Ins) (s : Int) : Bool := decide (s < (least x : Int)) || decide ((x.nodes.length : Int) ≤ s)
def unkR (x : Ins) (i : Nat) (r : List Int) : List Wr := (r.filter (badB x)).map fun s => (1, (i : Int), s)
def unks (x : Ins) : Nat → Rts → List Wr
  | _, [] => []
  | i, r :: rr => unkR x i r ++ unks x (i + 1) rr
def cntW (c : Nat) (n : Nat) : List Wr := if 1 < n then [(2, 0, (c : Int))] else if n = 0 then [(3, 0, (c : Int))] else []
def cnts (lo : Nat) (rr : Rts) : Nat → List Wr
  | 0 => []
  | c + 1 => cnts lo rr c ++ if lo ≤ c then cntW c (countR rr (c : Int)) else []
def full (rr : Rts) : Nat := (normR rr).length
def fleetW (x : Ins) (rr : Rts) : List Wr :=
  if x.kind = 1 then (if full rr ≠ 1 then [(4, 0, (full rr : Int))] else [])
  else if 0 < x.fleet ∧ x.fleet < (full rr : Int) then [(4, 0, (full rr : Int))] else []
def overB (x : Ins) (v : Int) : Bool := decide (x.cap < v) || decide (v < 0)
def loadW (x : Ins) (i : Nat) (r : List Int) : List Wr :=
  match (loads x r).findIdx? (overB x) with
  | some k => [(5, (i : Int), r.getD k 0)]
  | none => []
def lateW (x : Ins) (i : Nat) (r : List Int) : List Wr :=
  if 0 ≤ lateI x r ∧ lateI x r < (r.length : Int) then [(6, (i : Int), r.getD (lateI x r).toNat 0)]
  else if lateI x r = (r.length : Int) then [(6, (i : Int), 0)] else []
def pairK (x : Ins) (i : Nat) (r : List Int) (k : Nat) : List Wr :=
  if (nd x (r.getD k 0)).demand ≤ 0 ∨ (nd x (r.getD k 0)).mate ∈ r.drop (k + 1) then []
  else if (nd x (r.getD k 0)).mate ∈ r then [(8, (i : Int), r.getD k 0)] else [(7, (i : Int), r.getD k 0)]
def pairsW (x : Ins) (i : Nat) (r : List Int) : Nat → List Wr
  | 0 => []
  | k + 1 => pairsW x i r k ++ pairK x i r k
def routeW (x : Ins) (i : Nat) (r : List Int) : List Wr :=
  loadW x i r ++ if x.kind = 2 then [] else lateW x i r ++ if x.kind = 3 then [] else pairsW x i r r.length
def routesW (x : Ins) : Nat → Rts → List Wr
  | _, [] => []
  | i, r :: rr => routeW x i r ++ routesW x (i + 1) rr
def checkW (x : Ins) (rr : Rts) : List Wr :=
  if unks x 0 rr ≠ [] then unks x 0 rr
  else cnts (least x) rr x.nodes.length ++ (fleetW x rr ++ if x.kind = 1 then [] else routesW x 0 rr)
def feasB (x : Ins) (rr : Rts) : Bool := decide (checkW x rr = [])
/-! Step by step. -/
theorem loadsF_snoc (x : Ins) (r : List Int) (s : Int) : loadsF x (r ++ [s]) = loadStep x (loadsF x r) s := by unfold loadsF; rw [List.foldl_append]; rfl
theorem timesF_snoc (x : Ins) (r : List Int) (s : Int) : timesF x (r ++ [s]) = timeStep x (timesF x r) s := by unfold timesF; rw [List.foldl_append]; rfl
theorem snoc_ind {α : Type} {P : List α → Prop} (h0 : P []) (h1 : ∀ l a, P l → P (l ++ [a])) (l : List α) : P l := by
  rw [← List.reverse_reverse l]
  induction l.reverse with
  | nil => exact h0
  | cons a t ih => rw [List.reverse_cons]; exact h1 _ _ ih
theorem loadsF_length (x : Ins) (r : List Int) : (loadsF x r).2.length = r.length := by
  refine snoc_ind (P := fun r => (loadsF x r).2.length = r.length) rfl (fun l a h => ?_) r
  rw [loadsF_snoc]; simp [loadStep, h]
theorem timesF_length (x : Ins) (r : List Int) : (timesF x r).out.length = r.length := by
  refine snoc_ind (P := fun r => (timesF x r).out.length = r.length) rfl (fun l a h => ?_) r
  rw [timesF_snoc]; simp [timeStep, h]
theorem unks_snoc (x : Ins) (r : List Int) : ∀ (a : Rts) (i : Nat), unks x i (a ++ [r]) = unks x i a ++ unkR x (i + a.length) r
  | [], i => by simp [unks]
  | b :: a, i => by rw [List.cons_append, unks, unks, unks_snoc x r a (i + 1), List.append_assoc, List.length_cons, Nat.add_right_comm i 1, Nat.add_assoc]
theorem unkR_snoc (x : Ins) (i : Nat) (r : List Int) (s : Int) : unkR x i (r ++ [s]) = unkR x i r ++ if badB x s = true then [(1, (i : Int), s)] else [] := by
  unfold unkR
  rw [List.filter_append, List.map_append]
  congr 1
  by_cases h : badB x s = true
  · simp [h]
  · simp [h]
theorem routesW_snoc (x : Ins) (r : List Int) : ∀ (a : Rts) (i : Nat), routesW x i (a ++ [r]) = routesW x i a ++ routeW x (i + a.length) r
  | [], i => by simp [routesW]
  | b :: a, i => by rw [List.cons_append, routesW, routesW, routesW_snoc x r a (i + 1), List.append_assoc, List.length_cons, Nat.add_right_comm i 1, Nat.add_assoc]
/-! What may be relied on. -/
structure Fine (x : Ins) : Prop where
  kind : 1 ≤ x.kind ∧ x.kind ≤ 4
  metric : 0 ≤ x.metric ∧ x.metric ≤ 6
  scale : 0 ≤ x.scale ∧ x.scale ≤ 6
  cap : 0 ≤ x.cap ∧ x.cap ≤ 100000000
  fleet : 0 ≤ x.fleet ∧ x.fleet ≤ 400
  lo : 1 ≤ x.nodes.length
  hi : x.nodes.length ≤ 400
  matrix : x.metric = 0 → x.matrix.length = x.nodes.length * x.nodes.length ∧ ∀ i, i < x.nodes.length * x.nodes.length → 0 ≤ x.matrix.getD i 0 ∧ x.matrix.getD i 0 ≤ 100000000
  xy : ∀ i, (-100000000 ≤ (at' x i).x ∧ (at' x i).x ≤ 100000000) ∧ -100000000 ≤ (at' x i).y ∧ (at' x i).y ≤ 100000000
  demand : ∀ i, -100000000 ≤ (at' x i).demand ∧ (at' x i).demand ≤ 100000000
  ready : ∀ i, 0 ≤ (at' x i).ready ∧ (at' x i).ready ≤ 100000000
  due : ∀ i, 0 ≤ (at' x i).due ∧ (at' x i).due ≤ 100000000
  service : ∀ i, 0 ≤ (at' x i).service ∧ (at' x i).service ≤ 100000000
theorem at_out {x : Ins} {i : Nat} (h : x.nodes.length ≤ i) : at' x i = zeroNd := by unfold at'; simp [List.getD, List.getElem?_eq_none h]
theorem fine_of {N : ByteArray → Bool} {x : Ins} (h : Well N x) : Fine x := by
  have hk := h.kind
  have hm := h.metric
  have hs := h.scale
  have hc := h.cap
  have hf := h.fleet
  have hM := h.matrix
  simp only [kindB, metricB, scaleB, Bool.and_eq_true, decide_eq_true_eq] at hk hm hs
  have all : ∀ (P : Nd → Prop), P zeroNd → (∀ i, i < x.nodes.length → P (at' x i)) → ∀ i, P (at' x i) := by
    intro P h0 h1 i
    by_cases hi : i < x.nodes.length
    · exact h1 i hi
    · rw [at_out (by omega)]; exact h0
  refine ⟨hk, hm, hs.1, ?_, ?_, h.lo, h.hi, ?_, ?_, ?_, ?_, ?_, ?_⟩
  · unfold capB at hc; split at hc <;> simp only [Bool.and_eq_true, decide_eq_true_eq] at hc <;> omega
  · unfold fleetB at hf; split at hf <;> simp only [Bool.and_eq_true, decide_eq_true_eq] at hf <;> omega
  · intro h0
    unfold matrixB at hM
    rw [if_neg (by simpa using h0), Bool.and_eq_true, decide_eq_true_eq, List.all_eq_true] at hM
    refine ⟨hM.1, fun i hi => ?_⟩
    have := hM.2 i (List.mem_range.2 hi)
    simp only [number, Bool.and_eq_true, decide_eq_true_eq] at this
    exact this.1
  · refine all (fun d => (-100000000 ≤ d.x ∧ d.x ≤ 100000000) ∧ -100000000 ≤ d.y ∧ d.y ≤ 100000000) (by simp [zeroNd]) fun i hi => ?_
    have := (h.nodes i hi).1
    simp only [coordB, signed, Bool.and_eq_true, decide_eq_true_eq] at this
    exact this.1
  · intro i
    by_cases hi : i < x.nodes.length
    · have := (h.nodes i hi).2.1
      unfold demandB at this
      split at this
      · simp only [decide_eq_true_eq] at this; omega
      · simp only [number, signed, Bool.or_eq_true, Bool.and_eq_true, decide_eq_true_eq] at this; omega
    · rw [at_out (by omega)]; simp [zeroNd]
  · refine all (fun d => 0 ≤ d.ready ∧ d.ready ≤ 100000000) (by simp [zeroNd]) fun i hi => ?_
    have := (h.nodes i hi).2.2.1
    unfold windowB at this
    split at this <;> simp only [number, Bool.and_eq_true, decide_eq_true_eq] at this <;> omega
  · refine all (fun d => 0 ≤ d.due ∧ d.due ≤ 100000000) (by simp [zeroNd]) fun i hi => ?_
    have := (h.nodes i hi).2.2.1
    unfold windowB at this
    split at this <;> simp only [number, Bool.and_eq_true, decide_eq_true_eq] at this <;> omega
  · refine all (fun d => 0 ≤ d.service ∧ d.service ≤ 100000000) (by simp [zeroNd]) fun i hi => ?_
    have := (h.nodes i hi).2.2.2.1
    unfold serviceB at this
    split at this <;> simp only [number, Bool.and_eq_true, decide_eq_true_eq] at this <;> omega
theorem way_bounds {x : Ins} (h : Fine x) {i j : Nat} (hi : i < x.nodes.length) (hj : j < x.nodes.length) : 0 ≤ way x i j ∧ way x i j ≤ 3000000000 := by
  unfold way
  by_cases h0 : x.metric = 0
  · rw [if_pos h0]
    have hlt : i * x.nodes.length + j < x.nodes.length * x.nodes.length := by
      have h1 : (i + 1) * x.nodes.length ≤ x.nodes.length * x.nodes.length := Nat.mul_le_mul_right _ hi
      rw [Nat.add_mul] at h1; omega
    have := (h.matrix h0).2 _ hlt
    omega
  · rw [if_neg h0]
    have h1 := h.xy i
    have h2 := h.xy j
    have h3 : 1 ≤ 10 ^ x.scale.toNat := Nat.pow_pos (by omega)
    have := dist_most (kind := x.metric.toNat) (x := ((at' x j).x - (at' x i).x).natAbs) (y := ((at' x j).y - (at' x i).y).natAbs) (by omega) (by omega) h3
    omega
theorem unit_bounds (x : Ins) : 1 ≤ unit x ∧ unit x ≤ 10 := by unfold unit; split <;> omega
theorem nodeB_lt {x : Ins} {s : Int} (h : nodeB x s = true) : 0 ≤ s ∧ s.toNat < x.nodes.length ∧ s < x.nodes.length := by
  simp only [nodeB, Bool.and_eq_true, decide_eq_true_eq] at h; omega
theorem nodesB_snoc (x : Ins) (r : List Int) (s : Int) : nodesB x (r ++ [s]) = (nodesB x r && nodeB x s) := by simp [nodesB]
theorem unit_mul {x : Ins} {n : Int} (h : 0 ≤ n ∧ n ≤ 100000000) : 0 ≤ unit x * n ∧ unit x * n ≤ 1000000000 := by
  unfold unit; split <;> omega
structure TB (x : Ins) (k : Nat) (t : TS) : Prop where
  now : 0 ≤ t.now ∧ t.now ≤ 1000000000 + 4000000000 * k
  pos : t.pos < x.nodes.length
theorem begins_bounds {x : Ins} (h : Fine x) {t : TS} {k : Nat} (ht : TB x k t) {s : Int} (hs : nodeB x s = true) : 0 ≤ begins x t s ∧ begins x t s ≤ 4000000000 + 4000000000 * k := by
  have h1 := way_bounds h ht.pos (nodeB_lt hs).2.1
  have h2 := unit_mul (x := x) (h.ready s.toNat)
  have h3 := ht.now
  unfold begins nd
  omega
theorem timesF_bounds {x : Ins} (h : Fine x) : ∀ r : List Int, nodesB x r = true → TB x r.length (timesF x r) := by
  intro r
  refine snoc_ind (P := fun r => nodesB x r = true → TB x r.length (timesF x r)) ?_ (fun l a ih hn => ?_) r
  · intro _
    have := unit_mul (x := x) (h.ready 0)
    have := h.lo
    refine ⟨?_, ?_⟩
    · show 0 ≤ unit x * (at' x 0).ready ∧ unit x * (at' x 0).ready ≤ _
      simp only [List.length_nil]; omega
    · show 0 < _; omega
  · rw [nodesB_snoc, Bool.and_eq_true] at hn
    have ht := ih hn.1
    have hb := begins_bounds h ht hn.2
    have hu := unit_mul (x := x) (h.service a.toNat)
    rw [timesF_snoc, List.length_append]
    refine ⟨?_, (nodeB_lt hn.2).2.1⟩
    show 0 ≤ begins x (timesF x l) a + unit x * (nd x a).service ∧ begins x (timesF x l) a + unit x * (nd x a).service ≤ _
    unfold nd
    simp only [List.length_cons, List.length_nil]
    omega
theorem loadsF_bounds {x : Ins} (h : Fine x) (r : List Int) : -(100000000 * (r.length : Int)) ≤ (loadsF x r).1 ∧ (loadsF x r).1 ≤ 100000000 * (r.length : Int) := by
  refine snoc_ind (P := fun r => -(100000000 * (r.length : Int)) ≤ (loadsF x r).1 ∧ (loadsF x r).1 ≤ 100000000 * (r.length : Int)) (by simp [loadsF]) (fun l a ih => ?_) r
  have := h.demand a.toNat
  rw [loadsF_snoc, List.length_append]
  show _ ≤ (loadsF x l).1 + (nd x a).demand ∧ (loadsF x l).1 + (nd x a).demand ≤ _
  unfold nd
  simp only [List.length_cons, List.length_nil]
  omega
#print axioms fine_of
#print axioms timesF_bounds
#print axioms loadsF_bounds
end Go.Feas
/- An instance in a box of a call's own. No program. -/
namespace Go.Proofs
open Go.RowKit Go.Shelf Go.Canon Go.Feas
theorem fbelow_box (w : World) (o : Obj) : Below w.heap.size w (w.alloc o) := (Below.refl _ w).alloc (Nat.le_refl _) _
def InsBox (W : World) (B : Nat) (x : Ins) (vn vm : Value) (t : TypeId) : Prop :=
  W.heap[B]? = some (.cells #[.string x.name, .int .i64 x.kind, .int .i64 x.metric, .int .i64 x.scale, .int .i64 x.cap, .int .i64 x.fleet, vn, vm] t)
theorem InsBox.new (w : World) (x : Ins) (vn vm : Value) (t : TypeId) : InsBox (w.alloc (.cells #[.string x.name, .int .i64 x.kind, .int .i64 x.metric, .int .i64 x.scale, .int .i64 x.cap, .int .i64 x.fleet, vn, vm] t)) w.heap.size x vn vm t := World.alloc_heap_new w _
theorem InsBox.lt {W : World} {B : Nat} {x : Ins} {vn vm : Value} {t : TypeId} (h : InsBox W B x vn vm t) : B < W.heap.size := by
  unfold InsBox at h
  exact (Array.getElem?_eq_some_iff.1 h).1
theorem InsBox.below {W W' : World} {B N : Nat} {x : Ins} {vn vm : Value} {t : TypeId} (h : InsBox W B x vn vm t) (hb : Below N W W') (hN : B < N) : InsBox W' B x vn vm t := (hb.block B hN).trans h
theorem InsBox.next {W W' : World} {B : Nat} {x : Ins} {vn vm : Value} {t : TypeId} (h : InsBox W B x vn vm t) (hb : Below W.heap.size W W') : InsBox W' B x vn vm t := h.below hb h.lt
theorem InsBox.alloc {W : World} {B : Nat} {x : Ins} {vn vm : Value} {t : TypeId} (h : InsBox W B x vn vm t) (o : Obj) : InsBox (W.alloc o) B x vn vm t := h.next (fbelow_box W o)
theorem InsBox.c {W : World} {B : Nat} {x : Ins} {vn vm : Value} {t : TypeId} (h : InsBox W B x vn vm t) (j : Nat) : W.cell? ⟨B, j, none⟩ = (#[Value.string x.name, .int .i64 x.kind, .int .i64 x.metric, .int .i64 x.scale, .int .i64 x.cap, .int .i64 x.fleet, vn, vm] : Array Value)[j]? := by
  unfold World.cell?; unfold InsBox at h; rw [h]; rfl
theorem InsBox.cells {W : World} {B : Nat} {x : Ins} {vn vm : Value} {t : TypeId} (h : InsBox W B x vn vm t) :
    W.cell? ⟨B, 0, none⟩ = some (.string x.name) ∧ W.cell? ⟨B, 1, none⟩ = some (.int .i64 x.kind) ∧ W.cell? ⟨B, 2, none⟩ = some (.int .i64 x.metric) ∧ W.cell? ⟨B, 3, none⟩ = some (.int .i64 x.scale) ∧ W.cell? ⟨B, 4, none⟩ = some (.int .i64 x.cap) ∧ W.cell? ⟨B, 5, none⟩ = some (.int .i64 x.fleet) ∧ W.cell? ⟨B, 6, none⟩ = some vn ∧ W.cell? ⟨B, 7, none⟩ = some vm :=
  ⟨h.c 0, h.c 1, h.c 2, h.c 3, h.c 4, h.c 5, h.c 6, h.c 7⟩
theorem fbelow_next {B : Nat} {w W W' : World} (h : Below B w W) (hb : Below W.heap.size W W') (hB : B ≤ W.heap.size) : Below B w W' := h.trans (hb.mono hB)
/-- All the nodes, and the matrix, as cells. -/
theorem HasIns.all {W : World} {vn vm : Value} {x : Ins} (h : HasIns W vn vm x) (hn : 1 ≤ x.nodes.length) : ∃ b off cap, vn = .slice (some ⟨b, off, none⟩) x.nodes.length cap ∧ x.nodes.length ≤ cap ∧ cap ≤ maxLen ∧ NodesAt W b off x.nodes := by
  rcases h.nodes with ⟨h0, _⟩ | ⟨b, off, cap, h1, h2, h3, h4⟩
  · rw [h0] at hn; simp at hn
  · exact ⟨b, off, cap, h1, h2, h3, h4⟩
theorem nodesAt_nd {W : World} {b off : Nat} {x : Ins} (h : NodesAt W b off x.nodes) {i : Nat} (hi : i < x.nodes.length) : NdAt W b (off + i * 7) (at' x i) := h.2 i _ (by simp [at', List.getD, hi])
end Go.Proofs
/- Slices of what is wrong: three numbers each. No program's functions. -/
namespace Go.Proofs
open Go.RowKit Go.Shelf Go.Canon Go.Feas
def wrC (p : Wr) : List Value := [.int .i64 p.1, .int .i64 p.2.1, .int .i64 p.2.2]
def WrAt (W : World) (b off : Nat) (l : List Wr) : Prop := b < W.heap.size ∧ ∀ i p, l[i]? = some p → W.cell? ⟨b, off + i * 3, none⟩ = some (.int .i64 p.1) ∧ W.cell? ⟨b, off + i * 3 + 1, none⟩ = some (.int .i64 p.2.1) ∧ W.cell? ⟨b, off + i * 3 + 2, none⟩ = some (.int .i64 p.2.2)
/-- A slice that reads as these. -/
def HasWrs (W : World) (v : Value) (l : List Wr) : Prop := (l = [] ∧ ∃ ao cap, v = .slice ao 0 cap) ∨ ∃ b off cap, v = .slice (some ⟨b, off, none⟩) l.length cap ∧ l.length ≤ cap ∧ cap ≤ maxLen ∧ WrAt W b off l
theorem WrAt.next {b off : Nat} {W W' : World} {l : List Wr} (h : WrAt W b off l) (hb : Below W.heap.size W W') : WrAt W' b off l :=
  ⟨Nat.lt_of_lt_of_le h.1 hb.size, fun i p hi => ⟨(hb.cell (p := ⟨b, off + i * 3, none⟩) h.1).trans (h.2 i p hi).1, (hb.cell (p := ⟨b, off + i * 3 + 1, none⟩) h.1).trans (h.2 i p hi).2.1, (hb.cell (p := ⟨b, off + i * 3 + 2, none⟩) h.1).trans (h.2 i p hi).2.2⟩⟩
theorem HasWrs.next {W W' : World} {v : Value} {l : List Wr} (h : HasWrs W v l) (hb : Below W.heap.size W W') : HasWrs W' v l := by
  rcases h with h | ⟨b, off, cap, h1, h2, h3, h4⟩
  · exact .inl h
  · exact .inr ⟨b, off, cap, h1, h2, h3, h4.next hb⟩
theorem HasWrs.dat {W : World} {v : Value} {l : List Wr} (h : HasWrs W v l) : ∃ ao cap, v = .slice ao l.length cap ∧ (l = [] ∨ ∃ b off, ao = some ⟨b, off, none⟩ ∧ WrAt W b off l) := by
  rcases h with ⟨rfl, ao, cap, rfl⟩ | ⟨b, off, cap, rfl, _, _, hd⟩
  · exact ⟨ao, cap, rfl, .inl rfl⟩
  · exact ⟨_, cap, rfl, .inr ⟨b, off, rfl, hd⟩⟩
theorem wrs_of_owns {W : World} {base : Nat} {e : TypeId} {v : Value} {l : List Wr} (h : W.ownsRow base e 3 v l.length (l.flatMap wrC)) : HasWrs W v l := by
  rcases owns_flat (f := wrC) (s := 3) (fun _ => rfl) h with ⟨rfl, rfl⟩ | ⟨g, cap, rfl, h1, h2, h3, h4⟩
  · exact .inl ⟨rfl, none, 0, rfl⟩
  · exact .inr ⟨g, 0, cap, rfl, h1, h2, h3, fun i p hi => ⟨h4 i p 0 _ hi rfl, h4 i p 1 _ hi rfl, h4 i p 2 _ hi rfl⟩⟩
/-! Own rows, and what stands beside them. -/
theorem fowns_next {W W1 : World} {base : Nat} {e : TypeId} {size : Nat} {v : Value} {k : Nat} {xs : List Value} (h : W.ownsRow base e size v k xs) (hB : Below W.heap.size W W1) : W1.ownsRow base e size v k xs := by
  refine ⟨by have := h.1; have := hB.size; omega, ?_⟩
  rcases h.2 with h2 | ⟨g, cap, cur, h1, h2, h3, h4⟩
  · exact .inl h2
  · exact .inr ⟨g, cap, cur, h1, h2, (hB.block g (Array.getElem?_eq_some_iff.1 h3).1).trans h3, h4⟩
theorem fgrown_below {n₀ base : Nat} {w W w1 : World} {v : Value} {e : TypeId} {size k : Nat} {xs : List Value} (hB : Below n₀ w W) (hn : n₀ ≤ W.heap.size) (hb : n₀ ≤ base) (hown : W.ownsRow base e size v k xs) (hgrow : W.grownBy w1 v.ownBlock) : Below n₀ w w1 := by
  refine hB.grown hgrow hn ?_
  intro k hk
  have := (hown.lt k hk).1
  omega
theorem InsBox.grown {W w1' : World} {B base : Nat} {x : Ins} {vn vm : Value} {t : TypeId} {v : Value} {e : TypeId} {size k : Nat} {xs : List Value} (h : InsBox W B x vn vm t) (hlt : B < base) (hown : W.ownsRow base e size v k xs) (hgrow : W.grownBy w1' v.ownBlock) : InsBox w1' B x vn vm t :=
  (hgrow.block B h.lt (fun e => by have := (hown.lt B e.symm).1; omega)).trans h
theorem cells_wr (W : World) (a b c : Value) (t : TypeId) : ∀ (j : Nat) (u : Value), [a, b, c][j]? = some u → (W.alloc (.cells #[a, b, c] t)).cell? ((⟨W.heap.size, 0, none⟩ : Addr).add j) = some u := by
  intro j u h
  rw [Addr.add_lit, Nat.zero_add]
  have hh := World.alloc_heap_new W (.cells #[a, b, c] t)
  rcases j with _ | _ | _ | j
  · have e : a = u := by simpa using h
    subst e; unfold World.cell?; simp only [hh]; rfl
  · have e : b = u := by simpa using h
    subst e; unfold World.cell?; simp only [hh]; rfl
  · have e : c = u := by simpa using h
    subst e; unfold World.cell?; simp only [hh]; rfl
  · simp at h
end Go.Proofs
