/- More plain facts on roots and their quotients; no program: what they are at most, how they stand to each other, what is equal by what it is compared with, what rises. -/
import Derived.Test.YtogpnkahgkidpaaRootPlain
namespace Go.Root
theorem rt_small {n : Nat} (h : n ≤ 80000000000000000) : rt n ≤ 282842713 := by
  have := (rt_lt (n := n) (by omega) 282842714).2 (by omega); omega
theorem down_le_near {n d : Nat} (hn : n ≤ 80000000000000000) (hd : 1 ≤ d) : down n 1 d ≤ near n d := by
  obtain h | ⟨q, h⟩ : down n 1 d = 0 ∨ ∃ q, down n 1 d = q + 1 := by
    cases hq : down n 1 d with
    | zero => exact .inl rfl
    | succ q => exact .inr ⟨q, rfl⟩
  · omega
  · rw [h, le_near hd (by omega)]
    have h1 := (le_down (n := n) (m := 1) hd (by omega) (q + 1)).1 (by omega)
    have h2 : (2 * q + 1) * d ≤ 2 * ((q + 1) * d) := by rw [← Nat.mul_assoc]; exact Nat.mul_le_mul_right d (by omega)
    have h3 := sq_le h2
    have h4 : 2 * ((q + 1) * d) * (2 * ((q + 1) * d)) = 4 * ((q + 1) * d * ((q + 1) * d)) := by rw [Nat.mul_mul_mul_comm]
    omega
theorem near_le_ceil {n d : Nat} (hn : n ≤ 80000000000000000) (hd : 1 ≤ d) : near n d ≤ ceil n 1 d := by
  obtain h | ⟨q, h⟩ : near n d = 0 ∨ ∃ q, near n d = q + 1 := by
    cases hq : near n d with
    | zero => exact .inl rfl
    | succ q => exact .inr ⟨q, rfl⟩
  · omega
  · have h1 := (le_near (n := n) hd (by omega) q).1 (by omega)
    have h2 : ¬ ceil n 1 d ≤ q := by
      rw [ceil_le (by omega) hd (by omega)]
      intro h3
      have h4 : 2 * (q * d) * (2 * (q * d)) = 4 * (q * d * (q * d)) := by rw [Nat.mul_mul_mul_comm]
      have h5 := le_of_sq (show (2 * q + 1) * d * ((2 * q + 1) * d) ≤ 2 * (q * d) * (2 * (q * d)) by omega)
      have h6 : (2 * q + 1) * d = 2 * (q * d) + d := by rw [Nat.add_mul, Nat.mul_assoc, Nat.one_mul]
      omega
    omega
theorem ceil_le_down {n d : Nat} (hn : n ≤ 80000000000000000) (hd : 1 ≤ d) : ceil n 1 d ≤ down n 1 d + 1 := by
  rw [ceil_le (by omega) hd (by omega)]
  have h1 := le_down (m := 1) hd (by omega) (down n 1 d + 1) (n := n)
  omega
theorem near_small {n d : Nat} (hn : n ≤ 80000000000000000) : near n d ≤ 600000000 := by
  have h1 : rt (4 * n) ≤ 565685425 := by
    have := (rt_lt (n := 4 * n) (by omega) 565685426).2 (by omega)
    omega
  have := Nat.div_le_self (rt (4 * n)) d
  unfold near
  omega
theorem down_small {n m d : Nat} (hn : m * m * n ≤ 8000000000000000000) : down n m d ≤ 3000000000 := by
  have h1 : rt (m * m * n) ≤ 2828427125 := by
    have := (rt_lt (n := m * m * n) (by omega) 2828427126).2 (by omega)
    omega
  have := Nat.div_le_self (rt (m * m * n)) d
  unfold down
  omega
theorem ceil_small {n k d : Nat} (hn : n ≤ 80000000000000000) (hk : 1 ≤ k) (hd : 1 ≤ d) : ceil n k d ≤ 300000000 := by
  rw [ceil_le hk hd (by omega)]
  have h1 : 300000000 * 1 ≤ 300000000 * d := Nat.mul_le_mul_left _ hd
  have h2 := sq_le h1
  have h3 := Nat.le_mul_of_pos_left (300000000 * d * (300000000 * d)) hk
  omega
theorem eq_of_le {a b : Nat} (h : ∀ q, q ≤ a ↔ q ≤ b) : a = b := Nat.le_antisymm ((h a).1 (Nat.le_refl _)) ((h b).2 (Nat.le_refl _))
theorem eq_of_next {a b : Nat} (h : ∀ q, q + 1 ≤ a ↔ q + 1 ≤ b) : a = b := eq_of_le fun q => by
  cases q with
  | zero => simp
  | succ q => exact h q
theorem eq_of_ge {a b : Nat} (h : ∀ q, a ≤ q ↔ b ≤ q) : a = b := Nat.le_antisymm ((h b).2 (Nat.le_refl _)) ((h a).1 (Nat.le_refl _))
theorem sq_le_iff {a b : Nat} : a * a ≤ b * b ↔ a ≤ b := ⟨le_of_sq, sq_le⟩
theorem sq_times (k x : Nat) : k * x * (k * x) = k * k * (x * x) := Nat.mul_mul_mul_comm k x k x

/-! Ten times as much. -/
theorem near_tens {n t : Nat} (hn : n ≤ 800000000000000) (ht : 1 ≤ t) : near (100 * n) (10 * t) = near n t := by
  refine eq_of_next fun q => ?_
  rw [le_near (by omega) (by omega), le_near ht (by omega), show (2 * q + 1) * (10 * t) = 10 * ((2 * q + 1) * t) from Nat.mul_left_comm _ _ _, sq_times]
  omega
theorem down_tens {n t : Nat} (hn : n ≤ 800000000000000) (ht : 1 ≤ t) : down (100 * n) 10 (10 * t) = down n 10 t := by
  refine eq_of_le fun q => ?_
  rw [le_down (by omega) (by omega), le_down ht (by omega), show q * (10 * t) = 10 * (q * t) from Nat.mul_left_comm _ _ _, sq_times]
  omega
theorem ceil_tens {n t : Nat} (hn : n ≤ 800000000000000) (ht : 1 ≤ t) : ceil (100 * n) 10 (10 * t) = ceil n 10 t := by
  refine eq_of_ge fun q => ?_
  rw [ceil_le (by omega) (by omega) (by omega), ceil_le (by omega) ht (by omega), show q * (10 * t) = 10 * (q * t) from Nat.mul_left_comm _ _ _, sq_times]
  omega
theorem down_tenth {n t : Nat} (hn : n ≤ 800000000000000) (ht : 1 ≤ t) : down n 10 (10 * t) = down n 1 t := by
  refine eq_of_le fun q => ?_
  rw [le_down (by omega) (by omega), le_down ht (by omega), show q * (10 * t) = 10 * (q * t) from Nat.mul_left_comm _ _ _, sq_times]
  omega

/-! Squares. -/
theorem rt_sq {a : Nat} (h : a * a ≤ 9223372036854775807) : rt (a * a) = a := by
  refine eq_of_le fun q => ?_
  rw [le_rt h]; exact sq_le_iff
theorem near_sq {a t : Nat} (h : a * t * (a * t) ≤ 2000000000000000000) (ht : 1 ≤ t) : near (a * t * (a * t)) t = a := by
  refine eq_of_next fun q => ?_
  rw [le_near ht (by omega), show 4 * (a * t * (a * t)) = 2 * (a * t) * (2 * (a * t)) from (sq_times 2 _).symm, sq_le_iff, ← Nat.mul_assoc, Nat.mul_le_mul_right_iff (by omega)]
  omega
theorem down_sq {a m t : Nat} (h : m * m * (a * t * (a * t)) ≤ 9223372036854775807) (ht : 1 ≤ t) : down (a * t * (a * t)) m t = m * a := by
  refine eq_of_le fun q => ?_
  rw [le_down ht h, ← sq_times, sq_le_iff, ← Nat.mul_assoc, Nat.mul_le_mul_right_iff (by omega)]
theorem ceil_sq {a t : Nat} (h : a * t * (a * t) ≤ 9223372036854775807) (ht : 1 ≤ t) : ceil (a * t * (a * t)) 1 t = a := by
  refine eq_of_ge fun q => ?_
  rw [ceil_le (by omega) ht h, Nat.one_mul, sq_le_iff, Nat.mul_le_mul_right_iff (by omega)]

/-! What rises. -/
theorem rt_mono {x y : Nat} (h : x ≤ y) (hy : y ≤ 9223372036854775807) : rt x ≤ rt y := by
  rw [le_rt hy]; exact Nat.le_trans (rt_is (by omega)).1 h
theorem near_mono {x y d : Nat} (h : x ≤ y) (hy : y ≤ 80000000000000000) : near x d ≤ near y d := by
  have := Nat.div_le_div_right (c := d) (rt_mono (x := 4 * x) (y := 4 * y) (by omega) (by omega))
  unfold near; omega
theorem down_mono {x y m d : Nat} (h : x ≤ y) (hy : m * m * y ≤ 9223372036854775807) : down x m d ≤ down y m d :=
  Nat.div_le_div_right (rt_mono (Nat.mul_le_mul_left _ h) hy)
theorem ceil_mono {x y k d : Nat} (h : x ≤ y) (hy : y ≤ 80000000000000000) (hk : 1 ≤ k) (hd : 1 ≤ d) : ceil x k d ≤ ceil y k d := by
  rw [ceil_le hk hd (by omega)]
  exact Nat.le_trans h ((ceil_le hk hd (by omega) _).1 (Nat.le_refl _))
theorem near_falls {n s t : Nat} (h : s ≤ t) (hs : 1 ≤ s) : near n t ≤ near n s := by
  have := Nat.div_le_div_left (a := rt (4 * n)) h hs
  unfold near; omega
theorem ceil_falls {n k s t : Nat} (h : s ≤ t) (hs : 1 ≤ s) (hk : 1 ≤ k) (hn : n ≤ 80000000000000000) : ceil n k t ≤ ceil n k s := by
  rw [ceil_le hk (by omega) (by omega)]
  exact Nat.le_trans ((ceil_le hk hs (by omega) _).1 (Nat.le_refl _)) (Nat.mul_le_mul_left _ (sq_le (Nat.mul_le_mul_left _ h)))
end Go.Root
