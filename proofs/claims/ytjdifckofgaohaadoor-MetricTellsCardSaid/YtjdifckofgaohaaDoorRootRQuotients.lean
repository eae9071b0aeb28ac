/- The document's own answers for layer 5, Floor, Near, Down and Ceil: the same as the program's. Conditions: n of 0 to 8 * 10^16, d of 1 to 10^6, m and k of 1 to 10. -/
import Derived.Test.YtjdifckofgaohaaDoorRootRGreatest
namespace Go.Root
theorem asks_near {n m d q : Nat} (hn : n ≤ 80000000000000000) (hd : 1 ≤ d) (hq : 1 ≤ q) : asks 0 q n m d ↔ q ≤ near n d := by
  obtain ⟨q, rfl⟩ : ∃ c, q = c + 1 := ⟨q - 1, by omega⟩
  rw [le_near hd (by omega)]
  simp only [asks, if_pos, show 2 * (q + 1) - 1 = 2 * q + 1 by omega]
theorem asks_down {n m d q : Nat} (h : m * m * n ≤ 8000000000000000000) (hd : 1 ≤ d) : asks 1 q n m d ↔ q ≤ down n m d := by
  rw [le_down hd (by omega)]; simp [asks]
theorem asks_ceil {n k d q : Nat} (hn : n ≤ 80000000000000000) (hk : 1 ≤ k) (hd : 1 ≤ d) (h0 : 1 ≤ n) : asks 2 q n k d ↔ q ≤ ceil n k d - 1 := by
  have h1 := ceil_le hk hd (show n ≤ 9223372036854775807 by omega) q
  have h2 := ceil_le hk hd (show n ≤ 9223372036854775807 by omega) 0
  simp only [Nat.zero_mul, Nat.mul_zero] at h2
  have h3 : asks 2 q n k d ↔ ¬ n ≤ k * (q * d * (q * d)) := by simp [asks]
  rw [h3, ← h1]
  omega
theorem near_room {n d : Nat} (hn : n ≤ 80000000000000000) : near n d ≤ 3000000000 / d := by
  have h1 : rt (4 * n) ≤ 3000000000 := by
    have := (rt_lt (n := 4 * n) (by omega) 565685426).2 (by omega)
    omega
  have h2 := Nat.div_le_div_right (c := d) h1
  unfold near
  generalize rt (4 * n) / d = x at h2 ⊢
  generalize 3000000000 / d = y at h2 ⊢
  omega
theorem down_room {n m d : Nat} (h : m * m * n ≤ 8000000000000000000) : down n m d ≤ 3000000000 / d := by
  have h1 : rt (m * m * n) ≤ 3000000000 := by
    have := (rt_lt (n := m * m * n) (by omega) 2828427126).2 (by omega)
    omega
  exact Nat.div_le_div_right h1
theorem ceil_room {n k d q : Nat} (hn : n ≤ 80000000000000000) (hk : 1 ≤ k) (hd : 1 ≤ d) (h : 3000000000 / d < q) : ceil n k d ≤ q := by
  rw [ceil_le hk hd (by omega)]
  have h1 : 9000000000000000000 ≤ q * d * (q * d) := sq_le (Nat.le_of_lt (lt_of_div hd (Nat.not_le.2 h)))
  have h2 := Nat.le_mul_of_pos_left (q * d * (q * d)) hk
  generalize q * d * (q * d) = X at h1 h2
  generalize k * X = Y at h2
  clear h
  omega
theorem down_one {n : Nat} : down n 1 1 = rt n := by simp [down]
theorem ceil_zero {k d : Nat} (hk : 1 ≤ k) (hd : 1 ≤ d) : ceil 0 k d = 0 := by
  have := (ceil_le (n := 0) hk hd (by omega) 0).2 (by omega); omega
theorem ceil_pos {n k d : Nat} (hn : n ≤ 80000000000000000) (hk : 1 ≤ k) (hd : 1 ≤ d) (h0 : 1 ≤ n) : 1 ≤ ceil n k d := by
  have h2 := ceil_le hk hd (show n ≤ 9223372036854775807 by omega) 0
  simp only [Nat.zero_mul, Nat.mul_zero] at h2
  omega
end Go.Root
namespace Go.Proofs
open Go.RowKit Go.Shelf Go.Root
attribute [local go_sem] Oper.semAt_some

theorem Tryd.gnear_calls (n m d : Nat) (w : World) (hn : n ≤ 80000000000000000) (hd : 1 ≤ d) (hd9 : d ≤ 1000000) :
    Calls Tryd.prog 38 #[.int .i64 0, .int .i64 (n : Int), .int .i64 (m : Int), .int .i64 (d : Int)] w fun e w' => e = .returned (.int .i64 (near n d : Int)) ∧ w' = w := by
  have hr := near_room (d := d) hn
  have hs := near_small (d := d) hn
  refine Tryd.greatest_calls 0 n m d (near n d) w (by omega) fun q w h1 h2 => ?_
  by_cases h : q ≤ 3000000000 / d
  · have := Tryd.holds_near q n m d w hd hd9 h h1 hn
    rwa [decide_eq_decide.2 (asks_near hn hd h1)] at this
  · rw [decide_eq_false (show ¬ q ≤ near n d from fun k => h (Nat.le_trans k hr))]
    exact Tryd.holds_great 0 q n m d w hd (Nat.not_le.1 h)
theorem Tryd.gdown_calls (n m d : Nat) (w : World) (hn : n ≤ 80000000000000000) (hm9 : m ≤ 10) (hd : 1 ≤ d) :
    Calls Tryd.prog 38 #[.int .i64 1, .int .i64 (n : Int), .int .i64 (m : Int), .int .i64 (d : Int)] w fun e w' => e = .returned (.int .i64 (down n m d : Int)) ∧ w' = w := by
  have ht := times_of hn hm9
  have hr := down_room (d := d) ht
  have hs := down_small (d := d) ht
  refine Tryd.greatest_calls 1 n m d (down n m d) w (by omega) fun q w h1 h2 => ?_
  by_cases h : q ≤ 3000000000 / d
  · have := Tryd.holds_down q n m d w hd h hn hm9
    rwa [decide_eq_decide.2 (asks_down ht hd)] at this
  · rw [decide_eq_false (show ¬ q ≤ down n m d from fun k => h (Nat.le_trans k hr))]
    exact Tryd.holds_great 1 q n m d w hd (Nat.not_le.1 h)
theorem Tryd.gceil_calls (n k d : Nat) (w : World) (hn : n ≤ 80000000000000000) (hk : 1 ≤ k) (hk9 : k ≤ 10) (hd : 1 ≤ d) (h0 : 1 ≤ n) :
    Calls Tryd.prog 38 #[.int .i64 2, .int .i64 (n : Int), .int .i64 (k : Int), .int .i64 (d : Int)] w fun e w' => e = .returned (.int .i64 ((ceil n k d - 1 : Nat) : Int)) ∧ w' = w := by
  have hs := ceil_small hn hk hd
  have hp := ceil_pos hn hk hd h0
  refine Tryd.greatest_calls 2 n k d (ceil n k d - 1) w (by omega) fun q w h1 h2 => ?_
  by_cases h : q ≤ 3000000000 / d
  · have := Tryd.holds_ceil q n k d w hd h hn hk hk9
    rwa [decide_eq_decide.2 (asks_ceil hn hk hd h0)] at this
  · have h3 := ceil_room hn hk hd (Nat.not_le.1 h)
    rw [decide_eq_false (show ¬ q ≤ ceil n k d - 1 from fun k => by clear h; omega)]
    exact Tryd.holds_great 2 q n k d w hd (Nat.not_le.1 h)

theorem Tryd.RNear_calls (n d : Nat) (w : World) (hn : n ≤ 80000000000000000) (hd : 1 ≤ d) (hd9 : d ≤ 1000000) :
    Calls Tryd.prog 24 #[.int .i64 (n : Int), .int .i64 (d : Int)] w fun e w' => e = .returned (.int .i64 (near n d : Int)) ∧ w' = w := by
  have G := fun (w : World) => Tryd.gnear_calls n 0 d w hn hd hd9
  simp only [Int.cast_ofNat_Int] at G
  go_enter Tryd.func24, Tryd.ntmps24
  go_wp2_with (go_at_call 38; (with_reducible refine (G _).mono ?_); rintro e w1 ⟨rfl, hw1⟩; obtain rfl : w = w1 := hw1.symm)
  go_ret
  exact ⟨rfl, rfl⟩
theorem Tryd.RDown_calls (n m d : Nat) (w : World) (hn : n ≤ 80000000000000000) (hm9 : m ≤ 10) (hd : 1 ≤ d) :
    Calls Tryd.prog 27 #[.int .i64 (n : Int), .int .i64 (m : Int), .int .i64 (d : Int)] w fun e w' => e = .returned (.int .i64 (down n m d : Int)) ∧ w' = w := by
  have G := fun (w : World) => Tryd.gdown_calls n m d w hn hm9 hd
  go_enter Tryd.func27, Tryd.ntmps27
  go_wp2_with (go_at_call 38; (with_reducible refine (G _).mono ?_); rintro e w1 ⟨rfl, hw1⟩; obtain rfl : w = w1 := hw1.symm)
  go_ret
  exact ⟨rfl, rfl⟩
theorem Tryd.RCeil_calls (n k d : Nat) (w : World) (hn : n ≤ 80000000000000000) (hk : 1 ≤ k) (hk9 : k ≤ 10) (hd : 1 ≤ d) :
    Calls Tryd.prog 25 #[.int .i64 (n : Int), .int .i64 (k : Int), .int .i64 (d : Int)] w fun e w' => e = .returned (.int .i64 (ceil n k d : Int)) ∧ w' = w := by
  by_cases h0 : n = 0
  · subst h0
    rw [ceil_zero hk hd]
    go_enter Tryd.func25, Tryd.ntmps25
    go_wp2
    go_ret
    exact ⟨rfl, rfl⟩
  · have hs := ceil_small hn hk hd
    have hp := ceil_pos hn hk hd (by omega)
    have G := fun (w : World) => Tryd.gceil_calls n k d w hn hk hk9 hd (by omega)
    have c1 : ((n : Int) == 0) = false := beq_eq_false_iff_ne.2 (by omega)
    obtain ⟨c, hc⟩ : ∃ c, ceil n k d = c + 1 := ⟨ceil n k d - 1, by omega⟩
    simp only [hc, Nat.add_sub_cancel] at G hs ⊢
    clear hc hp
    go_enter Tryd.func25, Tryd.ntmps25
    go_wp2_with (go_at_call 38; (with_reducible refine (G _).mono ?_); rintro e w1 ⟨rfl, hw1⟩; obtain rfl : w = w1 := hw1.symm)
    go_ret
    exact ⟨by go_num, rfl⟩
#print axioms Tryd.RNear_calls
#print axioms Tryd.RDown_calls
#print axioms Tryd.RCeil_calls
end Go.Proofs
