/- The quotients of this program at numbers however they are told; what is equal by what it is compared with; what rises. -/
import Derived.Test.YtihodgjkiocjmaaLawBounds
namespace Go.Root
theorem eq_of_le {a b : Nat} (h : ∀ q, q ≤ a ↔ q ≤ b) : a = b := Nat.le_antisymm ((h a).1 (Nat.le_refl _)) ((h b).2 (Nat.le_refl _))
theorem eq_of_next {a b : Nat} (h : ∀ q, q + 1 ≤ a ↔ q + 1 ≤ b) : a = b := eq_of_le fun q => by
  cases q with
  | zero => simp
  | succ q => exact h q
theorem eq_of_ge {a b : Nat} (h : ∀ q, a ≤ q ↔ b ≤ q) : a = b := Nat.le_antisymm ((h b).2 (Nat.le_refl _)) ((h a).1 (Nat.le_refl _))
theorem sq_le_iff {a b : Nat} : a * a ≤ b * b ↔ a ≤ b := ⟨le_of_sq, sq_le⟩
theorem sq_times (k x : Nat) : k * x * (k * x) = k * k * (x * x) := Nat.mul_mul_mul_comm k x k x

/-! Ten times as much. -/
theorem near_tens {n t : Nat} (hn : n ≤ 800000000000000) (ht : 1 ≤ t) : near (100 * n) (10 * t) = near n t := by
  refine eq_of_next fun q => ?_
  rw [le_near (by omega) (by omega), le_near ht (by omega), show (2 * q + 1) * (10 * t) = 10 * ((2 * q + 1) * t) from Nat.mul_left_comm _ _ _, sq_times]
  omega
theorem down_tens {n t : Nat} (hn : n ≤ 800000000000000) (ht : 1 ≤ t) : down (100 * n) 10 (10 * t) = down n 10 t := by
  refine eq_of_le fun q => ?_
  rw [le_down (by omega) (by omega), le_down ht (by omega), show q * (10 * t) = 10 * (q * t) from Nat.mul_left_comm _ _ _, sq_times]
  omega
theorem ceil_tens {n t : Nat} (hn : n ≤ 800000000000000) (ht : 1 ≤ t) : ceil (100 * n) 10 (10 * t) = ceil n 10 t := by
  refine eq_of_ge fun q => ?_
  rw [ceil_le (by omega) (by omega) (by omega), ceil_le (by omega) ht (by omega), show q * (10 * t) = 10 * (q * t) from Nat.mul_left_comm _ _ _, sq_times]
  omega
theorem down_tenth {n t : Nat} (hn : n ≤ 800000000000000) (ht : 1 ≤ t) : down n 10 (10 * t) = down n 1 t := by
  refine eq_of_le fun q => ?_
  rw [le_down (by omega) (by omega), le_down ht (by omega), show q * (10 * t) = 10 * (q * t) from Nat.mul_left_comm _ _ _, sq_times]
  omega

/-! Squares. -/
theorem rt_sq {a : Nat} (h : a * a ≤ 9223372036854775807) : rt (a * a) = a := by
  refine eq_of_le fun q => ?_
  rw [le_rt h]; exact sq_le_iff
theorem near_sq {a t : Nat} (h : a * t * (a * t) ≤ 2000000000000000000) (ht : 1 ≤ t) : near (a * t * (a * t)) t = a := by
  refine eq_of_next fun q => ?_
  rw [le_near ht (by omega), show 4 * (a * t * (a * t)) = 2 * (a * t) * (2 * (a * t)) from (sq_times 2 _).symm, sq_le_iff, ← Nat.mul_assoc, Nat.mul_le_mul_right_iff (by omega)]
  omega
theorem down_sq {a m t : Nat} (h : m * m * (a * t * (a * t)) ≤ 9223372036854775807) (ht : 1 ≤ t) : down (a * t * (a * t)) m t = m * a := by
  refine eq_of_le fun q => ?_
  rw [le_down ht h, ← sq_times, sq_le_iff, ← Nat.mul_assoc, Nat.mul_le_mul_right_iff (by omega)]
theorem ceil_sq {a t : Nat} (h : a * t * (a * t) ≤ 9223372036854775807) (ht : 1 ≤ t) : ceil (a * t * (a * t)) 1 t = a := by
  refine eq_of_ge fun q => ?_
  rw [ceil_le (by omega) ht h, Nat.one_mul, sq_le_iff, Nat.mul_le_mul_right_iff (by omega)]

/-! What rises. -/
theorem rt_mono {x y : Nat} (h : x ≤ y) (hy : y ≤ 9223372036854775807) : rt x ≤ rt y := by
  rw [le_rt hy]; exact Nat.le_trans (rt_is (by omega)).1 h
theorem near_mono {x y d : Nat} (h : x ≤ y) (hy : y ≤ 80000000000000000) : near x d ≤ near y d := by
  have := Nat.div_le_div_right (c := d) (rt_mono (x := 4 * x) (y := 4 * y) (by omega) (by omega))
  unfold near; omega
theorem down_mono {x y m d : Nat} (h : x ≤ y) (hy : m * m * y ≤ 9223372036854775807) : down x m d ≤ down y m d :=
  Nat.div_le_div_right (rt_mono (Nat.mul_le_mul_left _ h) hy)
theorem ceil_mono {x y k d : Nat} (h : x ≤ y) (hy : y ≤ 80000000000000000) (hk : 1 ≤ k) (hd : 1 ≤ d) : ceil x k d ≤ ceil y k d := by
  rw [ceil_le hk hd (by omega)]
  exact Nat.le_trans h ((ceil_le hk hd (by omega) _).1 (Nat.le_refl _))
theorem near_falls {n s t : Nat} (h : s ≤ t) (hs : 1 ≤ s) : near n t ≤ near n s := by
  have := Nat.div_le_div_left (a := rt (4 * n)) h hs
  unfold near; omega
theorem ceil_falls {n k s t : Nat} (h : s ≤ t) (hs : 1 ≤ s) (hk : 1 ≤ k) (hn : n ≤ 80000000000000000) : ceil n k t ≤ ceil n k s := by
  rw [ceil_le hk (by omega) (by omega)]
  exact Nat.le_trans ((ceil_le hk hs (by omega) _).1 (Nat.le_refl _)) (Nat.mul_le_mul_left _ (sq_le (Nat.mul_le_mul_left _ h)))
end Go.Root
namespace Go.Proofs
open Go.RowKit Go.Shelf Go.Root

theorem Try.Near_at (x y : Int) (n d : Nat) (w : World) (hx : x = (n : Int)) (hy : y = (d : Int)) (hn : n ≤ 80000000000000000) (hd : 1 ≤ d) (hd9 : d ≤ 1000000) :
    Calls Try.prog 13 #[.int .i64 x, .int .i64 y] w fun e w' => e = .returned (.int .i64 (near n d : Int)) ∧ Below w.heap.size w w' := by
  subst hx; subst hy; exact Try.Near_calls n d w hn hd hd9
theorem Try.Down_at (x z y : Int) (n m d : Nat) (w : World) (hx : x = (n : Int)) (hz : z = (m : Int)) (hy : y = (d : Int)) (hn : n ≤ 80000000000000000) (hm9 : m ≤ 10) (hd : 1 ≤ d) (hd9 : d ≤ 1000000) :
    Calls Try.prog 15 #[.int .i64 x, .int .i64 z, .int .i64 y] w fun e w' => e = .returned (.int .i64 (down n m d : Int)) ∧ Below w.heap.size w w' := by
  subst hx; subst hy; subst hz; exact Try.Down_calls n m d w hn hm9 hd hd9
theorem Try.Ceil_at (x z y : Int) (n k d : Nat) (w : World) (hx : x = (n : Int)) (hz : z = (k : Int)) (hy : y = (d : Int)) (hn : n ≤ 80000000000000000) (hk : 1 ≤ k) (hk9 : k ≤ 10) (hd : 1 ≤ d) (hd9 : d ≤ 1000000) :
    Calls Try.prog 17 #[.int .i64 x, .int .i64 z, .int .i64 y] w fun e w' => e = .returned (.int .i64 (ceil n k d : Int)) ∧ Below w.heap.size w w' := by
  subst hx; subst hy; subst hz; exact Try.Ceil_calls n k d w hn hk hk9 hd hd9
/-- Worlds that follow each other, in a row. -/
theorem below_next {n : Nat} {w X Y : World} (h : Below n w X) (k : Below X.heap.size X Y) (hn : n ≤ w.heap.size) : Below n w Y := h.trans (k.mono (Nat.le_trans hn h.size))
end Go.Proofs
