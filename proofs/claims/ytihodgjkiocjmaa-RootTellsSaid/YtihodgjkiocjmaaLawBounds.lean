/- The laws RootBounds and RootBetween of layer 5, as contracts: they answer true at every input. -/
import Derived.Test.YtihodgjkiocjmaaShown
namespace Go.Root
theorem rt_small {n : Nat} (h : n ≤ 80000000000000000) : rt n ≤ 282842713 := by
  have := (rt_lt (n := n) (by omega) 282842714).2 (by omega); omega
theorem down_le_near {n d : Nat} (hn : n ≤ 80000000000000000) (hd : 1 ≤ d) : down n 1 d ≤ near n d := by
  obtain h | ⟨q, h⟩ : down n 1 d = 0 ∨ ∃ q, down n 1 d = q + 1 := by
    cases hq : down n 1 d with
    | zero => exact .inl rfl
    | succ q => exact .inr ⟨q, rfl⟩
  · omega
  · rw [h, le_near hd (by omega)]
    have h1 := (le_down (n := n) (m := 1) hd (by omega) (q + 1)).1 (by omega)
    have h2 : (2 * q + 1) * d ≤ 2 * ((q + 1) * d) := by rw [← Nat.mul_assoc]; exact Nat.mul_le_mul_right d (by omega)
    have h3 := sq_le h2
    have h4 : 2 * ((q + 1) * d) * (2 * ((q + 1) * d)) = 4 * ((q + 1) * d * ((q + 1) * d)) := by rw [Nat.mul_mul_mul_comm]
    omega
theorem near_le_ceil {n d : Nat} (hn : n ≤ 80000000000000000) (hd : 1 ≤ d) : near n d ≤ ceil n 1 d := by
  obtain h | ⟨q, h⟩ : near n d = 0 ∨ ∃ q, near n d = q + 1 := by
    cases hq : near n d with
    | zero => exact .inl rfl
    | succ q => exact .inr ⟨q, rfl⟩
  · omega
  · have h1 := (le_near (n := n) hd (by omega) q).1 (by omega)
    have h2 : ¬ ceil n 1 d ≤ q := by
      rw [ceil_le (by omega) hd (by omega)]
      intro h3
      have h4 : 2 * (q * d) * (2 * (q * d)) = 4 * (q * d * (q * d)) := by rw [Nat.mul_mul_mul_comm]
      have h5 := le_of_sq (show (2 * q + 1) * d * ((2 * q + 1) * d) ≤ 2 * (q * d) * (2 * (q * d)) by omega)
      have h6 : (2 * q + 1) * d = 2 * (q * d) + d := by rw [Nat.add_mul, Nat.mul_assoc, Nat.one_mul]
      omega
    omega
theorem ceil_le_down {n d : Nat} (hn : n ≤ 80000000000000000) (hd : 1 ≤ d) : ceil n 1 d ≤ down n 1 d + 1 := by
  rw [ceil_le (by omega) hd (by omega)]
  have h1 := le_down (m := 1) hd (by omega) (down n 1 d + 1) (n := n)
  omega
theorem near_small {n d : Nat} (hn : n ≤ 80000000000000000) : near n d ≤ 600000000 := by
  have h1 : rt (4 * n) ≤ 565685425 := by
    have := (rt_lt (n := 4 * n) (by omega) 565685426).2 (by omega)
    omega
  have := Nat.div_le_self (rt (4 * n)) d
  unfold near
  omega
theorem down_small {n m d : Nat} (hn : m * m * n ≤ 8000000000000000000) : down n m d ≤ 3000000000 := by
  have h1 : rt (m * m * n) ≤ 2828427125 := by
    have := (rt_lt (n := m * m * n) (by omega) 2828427126).2 (by omega)
    omega
  have := Nat.div_le_self (rt (m * m * n)) d
  unfold down
  omega
theorem ceil_small {n k d : Nat} (hn : n ≤ 80000000000000000) (hk : 1 ≤ k) (hd : 1 ≤ d) : ceil n k d ≤ 300000000 := by
  rw [ceil_le hk hd (by omega)]
  have h1 : 300000000 * 1 ≤ 300000000 * d := Nat.mul_le_mul_left _ hd
  have h2 := sq_le h1
  have h3 := Nat.le_mul_of_pos_left (300000000 * d * (300000000 * d)) hk
  omega
end Go.Root
namespace Go.Proofs
open Go.RowKit Go.Shelf Go.Root
attribute [local go_sem] Oper.semAt_some

theorem goodB_true {n : Int} (h : goodB n = true) : 0 ≤ n ∧ n ≤ 80000000000000000 := by
  simp only [goodB, Bool.and_eq_true, decide_eq_true_eq] at h; exact h
theorem nat_of {n : Int} (h : 0 ≤ n) : ∃ m : Nat, n = (m : Int) := ⟨n.toNat, by omega⟩

set_option maxRecDepth 100000 in
set_option maxHeartbeats 1000000 in
theorem Try.RootBounds_calls (n : Int) (w : World) : Calls Try.prog 5 #[.int .i64 n] w fun e w' => e = .returned (.bool true) ∧ Below w.heap.size w w' := by
  have G := Try.good_calls n
  by_cases hg : goodB n = true
  · rw [hg] at G
    obtain ⟨h0, h9⟩ := goodB_true hg
    obtain ⟨n, rfl⟩ := nat_of h0
    clear hg h0
    have F := fun (w : World) => Try.Floor_calls n w (by omega)
    have hs := rt_small (n := n) (by omega)
    obtain ⟨hr1, hr2⟩ := rt_is (n := n) (by omega)
    obtain ⟨r, hr⟩ : ∃ r, rt n = r := ⟨_, rfl⟩
    simp only [hr] at F hr1 hr2 hs
    clear hr
    have hq : (r + 1) * (r + 1) = r * r + 2 * r + 1 := by simp only [Nat.mul_add, Nat.add_mul]; omega
    have w1 : wrap64 ((r : Int) * (r : Int)) = ((r * r : Nat) : Int) := wrap_nat (by simp) (by omega)
    have w2 : wrap64 (((r : Int) + 1) * ((r : Int) + 1)) = (((r + 1) * (r + 1) : Nat) : Int) := wrap_nat (by simp) (by omega)
    obtain ⟨s, hss⟩ : ∃ s, r * r = s := ⟨_, rfl⟩
    obtain ⟨t, htt⟩ : ∃ t, (r + 1) * (r + 1) = t := ⟨_, rfl⟩
    rw [htt] at w2 hr2
    rw [hss] at w1 hr1
    clear hss htt hq
    have d1 : decide ((0 : Int) ≤ (r : Int)) = true := decide_eq_true (by omega)
    have d2 : decide ((r : Int) ≤ 300000000) = true := decide_eq_true (by omega)
    have d3 : decide ((s : Int) ≤ (n : Int)) = true := decide_eq_true (by omega)
    have d4 : decide ((n : Int) < (t : Int)) = true := decide_eq_true (by omega)
    go_enter Try.func5, Try.ntmps5
    go_wp2_with (go_at_call 9; (with_reducible refine (G _).mono ?_); rintro e w1 ⟨rfl, hw1⟩; obtain rfl : w = w1 := hw1.symm)
    go_wp2_with (go_at_call 10; (with_reducible refine (Try.shown_calls _).mono ?_); rintro e w2 ⟨rfl, hb⟩)
    go_wp2_with (go_at_call 11; (with_reducible refine (F _).mono ?_); rintro e w3 ⟨rfl, hb3⟩)
    go_ret
    exact ⟨rfl, hb.trans (hb3.mono hb.size)⟩
  · rw [Bool.not_eq_true] at hg
    rw [hg] at G
    go_enter Try.func5, Try.ntmps5
    go_wp2_with (go_at_call 9; (with_reducible refine (G _).mono ?_); rintro e w1 ⟨rfl, hw1⟩; obtain rfl : w = w1 := hw1.symm)
    go_wp2_with (go_at_call 10; (with_reducible refine (Try.shown_calls _).mono ?_); rintro e w2 ⟨rfl, hb⟩)
    go_ret
    exact ⟨rfl, hb⟩

set_option maxRecDepth 100000 in
set_option maxHeartbeats 1000000 in
theorem Try.RootBetween_calls (n d : Int) (w : World) : Calls Try.prog 6 #[.int .i64 n, .int .i64 d] w fun e w' => e = .returned (.bool true) ∧ Below w.heap.size w w' := by
  have G := Try.good_calls n
  by_cases hg : goodB n = true
  · rw [hg] at G
    obtain ⟨h0, h9⟩ := goodB_true hg
    obtain ⟨n, rfl⟩ := nat_of h0
    clear hg h0
    by_cases hd : 1 ≤ d ∧ d ≤ 1000000
    · obtain ⟨hd1, hd2⟩ := hd
      obtain ⟨d, rfl⟩ := nat_of (show 0 ≤ d by omega)
      have c1 : decide ((d : Int) < 1) = false := decide_eq_false (by omega)
      have c2 : decide (1000000 < (d : Int)) = false := decide_eq_false (by omega)
      have F1 := fun (w : World) => Try.Down_calls n 1 d w (by omega) (by omega) (by omega) (by omega)
      have F2 := fun (w : World) => Try.Near_calls n d w (by omega) (by omega) (by omega)
      have F3 := fun (w : World) => Try.Ceil_calls n 1 d w (by omega) (by omega) (by omega) (by omega) (by omega)
      simp only [Int.cast_ofNat_Int] at F1 F3
      have q1 := down_le_near (n := n) (d := d) (by omega) (by omega)
      have q2 := near_le_ceil (n := n) (d := d) (by omega) (by omega)
      have q3 := ceil_le_down (n := n) (d := d) (by omega) (by omega)
      have q4 := near_small (n := n) (d := d) (by omega)
      obtain ⟨x, hx⟩ : ∃ x, down n 1 d = x := ⟨_, rfl⟩
      obtain ⟨y, hy⟩ : ∃ y, near n d = y := ⟨_, rfl⟩
      obtain ⟨z, hz⟩ : ∃ z, ceil n 1 d = z := ⟨_, rfl⟩
      simp only [hx] at F1 q1 q3
      simp only [hy] at F2 q1 q2 q4
      simp only [hz] at F3 q2 q3
      clear hx hy hz
      have d1 : decide ((0 : Int) ≤ (x : Int)) = true := decide_eq_true (by omega)
      have d2 : decide ((x : Int) ≤ (y : Int)) = true := decide_eq_true (by omega)
      have d3 : decide ((y : Int) ≤ (z : Int)) = true := decide_eq_true (by omega)
      have d4 : decide ((z : Int) ≤ (x : Int) + 1) = true := decide_eq_true (by omega)
      go_enter Try.func6, Try.ntmps6
      go_wp2_with (go_at_call 9; (with_reducible refine (G _).mono ?_); rintro e w1 ⟨rfl, hw1⟩; obtain rfl : w = w1 := hw1.symm)
      go_wp2_with (go_at_call 10; (with_reducible refine (Try.shown_calls _).mono ?_); rintro e w2 ⟨rfl, hb⟩)
      go_wp2_with (go_at_call 15; (with_reducible refine (F1 _).mono ?_); rintro e w3 ⟨rfl, hb3⟩)
      go_wp2_with (go_at_call 13; (with_reducible refine (F2 _).mono ?_); rintro e w4 ⟨rfl, hb4⟩)
      go_wp2_with (go_at_call 17; (with_reducible refine (F3 _).mono ?_); rintro e w5 ⟨rfl, hb5⟩)
      go_ret
      have hb' := hb.trans (hb3.mono hb.size)
      have hb'' := hb'.trans (hb4.mono hb'.size)
      exact ⟨rfl, hb''.trans (hb5.mono hb''.size)⟩
    · by_cases hd1 : d < 1
      · have c1 : decide (d < 1) = true := decide_eq_true hd1
        go_enter Try.func6, Try.ntmps6
        go_wp2_with (go_at_call 9; (with_reducible refine (G _).mono ?_); rintro e w1 ⟨rfl, hw1⟩; obtain rfl : w = w1 := hw1.symm)
        go_wp2_with (go_at_call 10; (with_reducible refine (Try.shown_calls _).mono ?_); rintro e w2 ⟨rfl, hb⟩)
        go_ret
        exact ⟨rfl, hb⟩
      · have c1 : decide (d < 1) = false := decide_eq_false hd1
        have c2 : decide (1000000 < d) = true := decide_eq_true (by omega)
        go_enter Try.func6, Try.ntmps6
        go_wp2_with (go_at_call 9; (with_reducible refine (G _).mono ?_); rintro e w1 ⟨rfl, hw1⟩; obtain rfl : w = w1 := hw1.symm)
        go_wp2_with (go_at_call 10; (with_reducible refine (Try.shown_calls _).mono ?_); rintro e w2 ⟨rfl, hb⟩)
        go_ret
        exact ⟨rfl, hb⟩
  · rw [Bool.not_eq_true] at hg
    rw [hg] at G
    go_enter Try.func6, Try.ntmps6
    go_wp2_with (go_at_call 9; (with_reducible refine (G _).mono ?_); rintro e w1 ⟨rfl, hw1⟩; obtain rfl : w = w1 := hw1.symm)
    go_wp2_with (go_at_call 10; (with_reducible refine (Try.shown_calls _).mono ?_); rintro e w2 ⟨rfl, hb⟩)
    go_ret
    exact ⟨rfl, hb⟩
#print axioms Try.RootBounds_calls
#print axioms Try.RootBetween_calls
end Go.Proofs
