/- The document's own answer for layer 5: the greatest number of which something holds, found bit by bit. Conditions: of all lesser ones it holds, too. -/
import Derived.Test.YthgagmndefaniaaG12
namespace Go.Proofs
open Go.RowKit Go.Shelf Go.Root
attribute [local go_sem] Oper.semAt_some

set_option maxRecDepth 100000 in
set_option maxHeartbeats 1000000 in
theorem Try.greatest_calls (way n m d v : Nat) (w : World) (hv : v ≤ 4294967295)
    (H : ∀ (q : Nat) (w : World), 1 ≤ q → q ≤ 4294967295 → Calls Try.prog 106 #[.int .i64 (way : Int), .int .i64 (q : Int), .int .i64 (n : Int), .int .i64 (m : Int), .int .i64 (d : Int)] w fun e w' => e = .returned (.bool (decide (q ≤ v))) ∧ w' = w) :
    Calls Try.prog 101 #[.int .i64 (way : Int), .int .i64 (n : Int), .int .i64 (m : Int), .int .i64 (d : Int)] w fun e w' => e = .returned (.int .i64 (v : Int)) ∧ w' = w := by
  have HA := fun (x : Int) (q : Nat) (w : World) (hx : x = (q : Int)) (h1 : 1 ≤ q) (h2 : q ≤ 4294967295) => (by subst hx; exact H q w h1 h2 : Calls Try.prog 106 #[.int .i64 (way : Int), .int .i64 x, .int .i64 (n : Int), .int .i64 (m : Int), .int .i64 (d : Int)] w fun e w' => e = .returned (.bool (decide (q ≤ v))) ∧ w' = w)
  clear H
  go_enter Try.func101, Try.ntmps101
  go_wp2
  go_loop [9, 10] (fun x y => ∃ q j : Nat, x = .int .i64 (q : Int) ∧ y = .int .i64 ((2 ^ j / 2 : Nat) : Int) ∧ j ≤ 32 ∧ q ≤ v ∧ v < q + 2 ^ j ∧ q + 2 ^ j ≤ 4294967296) (fun _ y => (intOf y).toNat)
  case atStart =>
    exact ⟨0, 32, rfl, rfl, by omega, by omega, by omega, by omega⟩
  case round =>
    obtain ⟨q, j, rfl, rfl, hj, hq, hqv, hq9⟩ := hrel
    cases j with
    | zero =>
      have hqv' : q = v := by omega
      subst hqv'
      have c1 : decide ((0 : Int) < ((2 ^ 0 / 2 : Nat) : Int)) = false := by decide
      go_wp2
      go_ret
      exact ⟨rfl, rfl⟩
    | succ i =>
      obtain ⟨p, hp⟩ : ∃ p, p = 2 ^ i := ⟨_, rfl⟩
      have hp1 : 1 ≤ p := by rw [hp]; exact Nat.two_pow_pos i
      have hp2 : 2 ^ (i + 1) = 2 * p := by rw [Nat.pow_succ, hp, Nat.mul_comm]
      rw [hp2] at hqv hq9 ⊢
      rw [show 2 * p / 2 = p by omega]
      have Hp := Lib.hid hp
      clear hp hp2
      have c1 : decide ((0 : Int) < (p : Int)) = true := decide_eq_true (by omega)
      by_cases hc : q + p ≤ v
      · have c2 : decide (q + p ≤ v) = true := decide_eq_true hc
        have HB := fun (x : Int) (w : World) (hx : x = ((q + p : Nat) : Int)) => HA x (q + p) w hx (by omega) (by omega)
        simp only [c2] at HB
        clear HA c2
        go_wp2_with (go_at_call 106; (with_reducible refine (HB _ _ (by omega)).mono ?_); rintro e w1 ⟨rfl, hw1⟩; obtain rfl : w = w1 := hw1.symm)
        go_round
        case rel => exact ⟨q + p, i, by go_num, by rw [← Hp.out]; go_num, by omega, by omega, by rw [← Hp.out]; omega, by rw [← Hp.out]; omega⟩
        case measure => simp [intOf]; omega
      · have c2 : decide (q + p ≤ v) = false := decide_eq_false hc
        have HB := fun (x : Int) (w : World) (hx : x = ((q + p : Nat) : Int)) => HA x (q + p) w hx (by omega) (by omega)
        simp only [c2] at HB
        clear HA c2
        go_wp2_with (go_at_call 106; (with_reducible refine (HB _ _ (by omega)).mono ?_); rintro e w1 ⟨rfl, hw1⟩; obtain rfl : w = w1 := hw1.symm)
        go_round
        case rel => exact ⟨q, i, by go_num, by rw [← Hp.out]; go_num, by omega, by omega, by rw [← Hp.out]; omega, by rw [← Hp.out]; omega⟩
        case measure => simp [intOf]; omega
#print axioms Try.greatest_calls
end Go.Proofs
/- The document's own answers for layer 5, Floor, Near, Down and Ceil: the same as the program's. Conditions: n of 0 to 8 * 10^16, d of 1 to 10^6, m and k of 1 to 10. -/
namespace Go.Root
theorem asks_near {n m d q : Nat} (hn : n ≤ 80000000000000000) (hd : 1 ≤ d) (hq : 1 ≤ q) : asks 0 q n m d ↔ q ≤ near n d := by
  obtain ⟨q, rfl⟩ : ∃ c, q = c + 1 := ⟨q - 1, by omega⟩
  rw [le_near hd (by omega)]
  simp only [asks, if_pos, show 2 * (q + 1) - 1 = 2 * q + 1 by omega]
theorem asks_down {n m d q : Nat} (h : m * m * n ≤ 8000000000000000000) (hd : 1 ≤ d) : asks 1 q n m d ↔ q ≤ down n m d := by
  rw [le_down hd (by omega)]; simp [asks]
theorem asks_ceil {n k d q : Nat} (hn : n ≤ 80000000000000000) (hk : 1 ≤ k) (hd : 1 ≤ d) (h0 : 1 ≤ n) : asks 2 q n k d ↔ q ≤ ceil n k d - 1 := by
  have h1 := ceil_le hk hd (show n ≤ 9223372036854775807 by omega) q
  have h2 := ceil_le hk hd (show n ≤ 9223372036854775807 by omega) 0
  simp only [Nat.zero_mul, Nat.mul_zero] at h2
  have h3 : asks 2 q n k d ↔ ¬ n ≤ k * (q * d * (q * d)) := by simp [asks]
  rw [h3, ← h1]
  omega
theorem near_room {n d : Nat} (hn : n ≤ 80000000000000000) : near n d ≤ 3000000000 / d := by
  have h1 : rt (4 * n) ≤ 3000000000 := by
    have := (rt_lt (n := 4 * n) (by omega) 565685426).2 (by omega)
    omega
  have h2 := Nat.div_le_div_right (c := d) h1
  unfold near
  generalize rt (4 * n) / d = x at h2 ⊢
  generalize 3000000000 / d = y at h2 ⊢
  omega
theorem down_room {n m d : Nat} (h : m * m * n ≤ 8000000000000000000) : down n m d ≤ 3000000000 / d := by
  have h1 : rt (m * m * n) ≤ 3000000000 := by
    have := (rt_lt (n := m * m * n) (by omega) 2828427126).2 (by omega)
    omega
  exact Nat.div_le_div_right h1
theorem ceil_room {n k d q : Nat} (hn : n ≤ 80000000000000000) (hk : 1 ≤ k) (hd : 1 ≤ d) (h : 3000000000 / d < q) : ceil n k d ≤ q := by
  rw [ceil_le hk hd (by omega)]
  have h1 : 9000000000000000000 ≤ q * d * (q * d) := sq_le (Nat.le_of_lt (lt_of_div hd (Nat.not_le.2 h)))
  have h2 := Nat.le_mul_of_pos_left (q * d * (q * d)) hk
  generalize q * d * (q * d) = X at h1 h2
  generalize k * X = Y at h2
  clear h
  omega
theorem down_one {n : Nat} : down n 1 1 = rt n := by simp [down]
theorem ceil_zero {k d : Nat} (hk : 1 ≤ k) (hd : 1 ≤ d) : ceil 0 k d = 0 := by
  have := (ceil_le (n := 0) hk hd (by omega) 0).2 (by omega); omega
theorem ceil_pos {n k d : Nat} (hn : n ≤ 80000000000000000) (hk : 1 ≤ k) (hd : 1 ≤ d) (h0 : 1 ≤ n) : 1 ≤ ceil n k d := by
  have h2 := ceil_le hk hd (show n ≤ 9223372036854775807 by omega) 0
  simp only [Nat.zero_mul, Nat.mul_zero] at h2
  omega
end Go.Root
namespace Go.Proofs
open Go.RowKit Go.Shelf Go.Root
attribute [local go_sem] Oper.semAt_some

theorem Try.gnear_calls (n m d : Nat) (w : World) (hn : n ≤ 80000000000000000) (hd : 1 ≤ d) (hd9 : d ≤ 1000000) :
    Calls Try.prog 101 #[.int .i64 0, .int .i64 (n : Int), .int .i64 (m : Int), .int .i64 (d : Int)] w fun e w' => e = .returned (.int .i64 (near n d : Int)) ∧ w' = w := by
  have hr := near_room (d := d) hn
  have hs := near_small (d := d) hn
  refine Try.greatest_calls 0 n m d (near n d) w (by omega) fun q w h1 h2 => ?_
  by_cases h : q ≤ 3000000000 / d
  · have := Try.holds_near q n m d w hd hd9 h h1 hn
    rwa [decide_eq_decide.2 (asks_near hn hd h1)] at this
  · rw [decide_eq_false (show ¬ q ≤ near n d from fun k => h (Nat.le_trans k hr))]
    exact Try.holds_great 0 q n m d w hd (Nat.not_le.1 h)
theorem Try.gdown_calls (n m d : Nat) (w : World) (hn : n ≤ 80000000000000000) (hm9 : m ≤ 10) (hd : 1 ≤ d) :
    Calls Try.prog 101 #[.int .i64 1, .int .i64 (n : Int), .int .i64 (m : Int), .int .i64 (d : Int)] w fun e w' => e = .returned (.int .i64 (down n m d : Int)) ∧ w' = w := by
  have ht := times_of hn hm9
  have hr := down_room (d := d) ht
  have hs := down_small (d := d) ht
  refine Try.greatest_calls 1 n m d (down n m d) w (by omega) fun q w h1 h2 => ?_
  by_cases h : q ≤ 3000000000 / d
  · have := Try.holds_down q n m d w hd h hn hm9
    rwa [decide_eq_decide.2 (asks_down ht hd)] at this
  · rw [decide_eq_false (show ¬ q ≤ down n m d from fun k => h (Nat.le_trans k hr))]
    exact Try.holds_great 1 q n m d w hd (Nat.not_le.1 h)
theorem Try.gceil_calls (n k d : Nat) (w : World) (hn : n ≤ 80000000000000000) (hk : 1 ≤ k) (hk9 : k ≤ 10) (hd : 1 ≤ d) (h0 : 1 ≤ n) :
    Calls Try.prog 101 #[.int .i64 2, .int .i64 (n : Int), .int .i64 (k : Int), .int .i64 (d : Int)] w fun e w' => e = .returned (.int .i64 ((ceil n k d - 1 : Nat) : Int)) ∧ w' = w := by
  have hs := ceil_small hn hk hd
  have hp := ceil_pos hn hk hd h0
  refine Try.greatest_calls 2 n k d (ceil n k d - 1) w (by omega) fun q w h1 h2 => ?_
  by_cases h : q ≤ 3000000000 / d
  · have := Try.holds_ceil q n k d w hd h hn hk hk9
    rwa [decide_eq_decide.2 (asks_ceil hn hk hd h0)] at this
  · have h3 := ceil_room hn hk hd (Nat.not_le.1 h)
    rw [decide_eq_false (show ¬ q ≤ ceil n k d - 1 from fun k => by clear h; omega)]
    exact Try.holds_great 2 q n k d w hd (Nat.not_le.1 h)

theorem Try.RNear_calls (n d : Nat) (w : World) (hn : n ≤ 80000000000000000) (hd : 1 ≤ d) (hd9 : d ≤ 1000000) :
    Calls Try.prog 85 #[.int .i64 (n : Int), .int .i64 (d : Int)] w fun e w' => e = .returned (.int .i64 (near n d : Int)) ∧ w' = w := by
  have G := fun (w : World) => Try.gnear_calls n 0 d w hn hd hd9
  simp only [Int.cast_ofNat_Int] at G
  go_enter Try.func85, Try.ntmps85
  go_wp2_with (go_at_call 101; (with_reducible refine (G _).mono ?_); rintro e w1 ⟨rfl, hw1⟩; obtain rfl : w = w1 := hw1.symm)
  go_ret
  exact ⟨rfl, rfl⟩
theorem Try.RDown_calls (n m d : Nat) (w : World) (hn : n ≤ 80000000000000000) (hm9 : m ≤ 10) (hd : 1 ≤ d) :
    Calls Try.prog 88 #[.int .i64 (n : Int), .int .i64 (m : Int), .int .i64 (d : Int)] w fun e w' => e = .returned (.int .i64 (down n m d : Int)) ∧ w' = w := by
  have G := fun (w : World) => Try.gdown_calls n m d w hn hm9 hd
  go_enter Try.func88, Try.ntmps88
  go_wp2_with (go_at_call 101; (with_reducible refine (G _).mono ?_); rintro e w1 ⟨rfl, hw1⟩; obtain rfl : w = w1 := hw1.symm)
  go_ret
  exact ⟨rfl, rfl⟩
theorem Try.RCeil_calls (n k d : Nat) (w : World) (hn : n ≤ 80000000000000000) (hk : 1 ≤ k) (hk9 : k ≤ 10) (hd : 1 ≤ d) :
    Calls Try.prog 86 #[.int .i64 (n : Int), .int .i64 (k : Int), .int .i64 (d : Int)] w fun e w' => e = .returned (.int .i64 (ceil n k d : Int)) ∧ w' = w := by
  by_cases h0 : n = 0
  · subst h0
    rw [ceil_zero hk hd]
    go_enter Try.func86, Try.ntmps86
    go_wp2
    go_ret
    exact ⟨rfl, rfl⟩
  · have hs := ceil_small hn hk hd
    have hp := ceil_pos hn hk hd (by omega)
    have G := fun (w : World) => Try.gceil_calls n k d w hn hk hk9 hd (by omega)
    have c1 : ((n : Int) == 0) = false := beq_eq_false_iff_ne.2 (by omega)
    obtain ⟨c, hc⟩ : ∃ c, ceil n k d = c + 1 := ⟨ceil n k d - 1, by omega⟩
    simp only [hc, Nat.add_sub_cancel] at G hs ⊢
    clear hc hp
    go_enter Try.func86, Try.ntmps86
    go_wp2_with (go_at_call 101; (with_reducible refine (G _).mono ?_); rintro e w1 ⟨rfl, hw1⟩; obtain rfl : w = w1 := hw1.symm)
    go_ret
    exact ⟨by go_num, rfl⟩
#print axioms Try.RNear_calls
#print axioms Try.RDown_calls
#print axioms Try.RCeil_calls
end Go.Proofs
/- The document's own answer for metric.Dist: the same as the program's. Conditions: none. -/
namespace Go.Proofs
open Go.RowKit Go.Shelf Go.Root Go.Metric
attribute [local go_sem] Oper.semAt_some

set_option maxRecDepth 100000 in
set_option maxHeartbeats 1000000 in
theorem Try.RDist_arg (kind scale dx dy : Int) (w : World) (h : kind < 1 ∨ 6 < kind ∨ scale < 0 ∨ 6 < scale) :
    Calls Try.prog 73 #[.int .i64 kind, .int .i64 scale, .int .i64 dx, .int .i64 dy] w fun e w' => e = .returned (.tuple #[.int .i64 0, .int .i64 1]) ∧ w' = w := by
  by_cases h1 : kind < 1
  · have c1 : decide (kind < 1) = true := decide_eq_true h1
    clear h
    go_enter Try.func73, Try.ntmps73
    go_wp2
    go_ret2
    exact ⟨rfl, rfl⟩
  · have c1 : decide (kind < 1) = false := decide_eq_false h1
    by_cases h2 : 6 < kind
    · have c2 : decide (6 < kind) = true := decide_eq_true h2
      clear h
      go_enter Try.func73, Try.ntmps73
      go_wp2
      go_ret2
      exact ⟨rfl, rfl⟩
    · have c2 : decide (6 < kind) = false := decide_eq_false h2
      by_cases h3 : scale < 0
      · have c3 : decide (scale < 0) = true := decide_eq_true h3
        clear h
        go_enter Try.func73, Try.ntmps73
        go_wp2
        go_ret2
        exact ⟨rfl, rfl⟩
      · have c3 : decide (scale < 0) = false := decide_eq_false h3
        have h4 : 6 < scale := by omega
        have c4 : decide (6 < scale) = true := decide_eq_true h4
        clear h
        go_enter Try.func73, Try.ntmps73
        go_wp2
        go_ret2
        exact ⟨rfl, rfl⟩

set_option maxRecDepth 100000 in
set_option maxHeartbeats 1000000 in
theorem Try.RDist_full (kind scale dx dy : Int) (w : World) (h : ¬ (kind < 1 ∨ 6 < kind ∨ scale < 0 ∨ 6 < scale)) (hf : ¬ (fitsB dx = true ∧ fitsB dy = true)) :
    Calls Try.prog 73 #[.int .i64 kind, .int .i64 scale, .int .i64 dx, .int .i64 dy] w fun e w' => e = .returned (.tuple #[.int .i64 0, .int .i64 2]) ∧ w' = w := by
  have c0 : decide (kind < 1) = false := decide_eq_false (by omega)
  have c3 : decide (6 < kind) = false := decide_eq_false (by omega)
  have c1 : decide (scale < 0) = false := decide_eq_false (by omega)
  have c2 : decide (6 < scale) = false := decide_eq_false (by omega)
  have X := fun (w : World) => Try.far_calls dx w
  have Y := fun (w : World) => Try.far_calls dy w
  cases hx : fitsB dx with
  | false =>
    rw [hx, Bool.not_false] at X
    clear h hf hx
    go_enter Try.func73, Try.ntmps73
    go_wp2_with (go_at_call 84; (with_reducible refine (X _).mono ?_); rintro e w2 ⟨rfl, hw2⟩; obtain rfl : w = w2 := hw2.symm)
    go_ret2
    exact ⟨rfl, rfl⟩
  | true =>
    have hy : fitsB dy = false := by cases hy : fitsB dy with | false => rfl | true => exact absurd ⟨hx, hy⟩ hf
    rw [hx, Bool.not_true] at X
    rw [hy, Bool.not_false] at Y
    clear h hf hx hy
    go_enter Try.func73, Try.ntmps73
    go_wp2_with (go_at_call 84; first
      | ((with_reducible refine (X _).mono ?_); rintro e w2 ⟨rfl, hw2⟩; obtain rfl : w = w2 := hw2.symm)
      | ((with_reducible refine (Y _).mono ?_); rintro e w3 ⟨rfl, hw3⟩; obtain rfl : w = w3 := hw3.symm))
    go_ret2
    exact ⟨rfl, rfl⟩

set_option maxRecDepth 100000 in
set_option maxHeartbeats 1000000 in
theorem Try.RDist_ok1 (k : Nat) (dx dy : Int) (w : World) (hk : k ≤ 6) (hx : fitsB dx = true) (hy : fitsB dy = true) :
    Calls Try.prog 73 #[.int .i64 1, .int .i64 (k : Int), .int .i64 dx, .int .i64 dy] w fun e w' => e = .returned (.tuple #[.int .i64 (dist 1 (10 ^ k) dx.natAbs dy.natAbs : Nat), .int .i64 0]) ∧ Below w.heap.size w w' := by
  have c1 : decide ((k : Int) < 0) = false := decide_eq_false (by omega)
  have c2 : decide (6 < (k : Int)) = false := decide_eq_false (by omega)
  have X := fun (w : World) => Try.far_calls dx w
  have Y := fun (w : World) => Try.far_calls dy w
  rw [hx, Bool.not_true] at X
  rw [hy, Bool.not_true] at Y
  have bx := fitsB_true hx
  have bY := fitsB_true hy
  have x9 := fitsB_abs hx
  have y9 := fitsB_abs hy
  have hs := sum_most x9 y9
  have mx : max dx (-dx) = (dx.natAbs : Int) := by omega
  have my : max dy (-dy) = (dy.natAbs : Int) := by omega
  obtain ⟨x, hxx⟩ : ∃ x, dx.natAbs = x := ⟨_, rfl⟩
  obtain ⟨y, hyy⟩ : ∃ y, dy.natAbs = y := ⟨_, rfl⟩
  rw [hxx] at x9 hs mx ⊢
  rw [hyy] at y9 hs my ⊢
  have x2 : x * x ≤ 40000000000000000 := sq_le x9
  have y2 : y * y ≤ 40000000000000000 := sq_le y9
  have wx : wrap64 ((x : Int) * (x : Int)) = ((x * x : Nat) : Int) := wrap_nat (by simp) (by omega)
  have wy : wrap64 ((y : Int) * (y : Int)) = ((y * y : Nat) : Int) := wrap_nat (by simp) (by omega)
  obtain ⟨p, hp⟩ : ∃ p, x * x = p := ⟨_, rfl⟩
  obtain ⟨q, hq⟩ : ∃ q, y * y = q := ⟨_, rfl⟩
  rw [hp] at x2 wx
  rw [hq] at y2 wy
  obtain ⟨n, hn⟩ : ∃ n, dist 1 (10 ^ k) x y = n := ⟨_, rfl⟩
  rw [hn]
  have Hn := Lib.hid hn
  have Hp := Lib.hid hp
  have Hq := Lib.hid hq
  clear hx hy hn hp hq hs hxx hyy
  go_enter Try.func73, Try.ntmps73
  go_wp2_with (go_at_call 84; first
    | ((with_reducible refine (X _).mono ?_); rintro e w2 ⟨rfl, hw2⟩; obtain rfl : w = w2 := hw2.symm)
    | ((with_reducible refine (Y _).mono ?_); rintro e w3 ⟨rfl, hw3⟩; obtain rfl : w = w3 := hw3.symm))
  clear X Y
  go_loop [13, 14] (fun t i => ∃ j : Nat, j ≤ k ∧ i = .int .i64 j ∧ t = .int .i64 ((10 ^ j : Nat) : Int)) (fun _ i => k - (intOf i).toNat)
  case atStart => exact ⟨0, Nat.zero_le _, rfl, rfl⟩
  case round =>
    obtain ⟨j, hj, rfl, rfl⟩ := hrel
    by_cases hlt : j < k
    · obtain ⟨t, ht⟩ : ∃ t : Nat, 10 ^ j = t := ⟨_, rfl⟩
      have t9 : t ≤ 1000000 := by rw [← ht]; exact pow_six (by omega)
      rw [ht]
      have Ht := Lib.hid ht
      clear ht
      go_wp2
      go_round
      case rel => exact ⟨j + 1, by omega, by go_num, by rw [Nat.pow_succ, Ht.out]; go_num⟩
      case measure => simp [intOf]; omega
    · obtain rfl : j = k := by omega
      have t1 := pow_pos' j
      have t9 := pow_six hk
      have hs := sum_most x9 y9
      have F := fun (w : World) => Try.RNear_calls (x * x + y * y) (10 ^ j) w hs t1 t9
      rw [← dist1, Hn.out] at F
      rw [Hp.out, Hq.out] at F
      obtain ⟨t, ht⟩ : ∃ t : Nat, 10 ^ j = t := ⟨_, rfl⟩
      rw [ht] at F t1 t9 ⊢
      simp only [Int.natCast_add] at F
      clear ht hlt hs
      go_wp2_with (go_at_call 85; (with_reducible refine (F _).mono ?_); rintro e w4 ⟨rfl, hw4⟩; obtain rfl : w = w4 := hw4.symm)
      go_ret2
      exact ⟨rfl, Below.refl _ _⟩

set_option maxRecDepth 100000 in
set_option maxHeartbeats 1000000 in
theorem Try.RDist_ok2 (k : Nat) (dx dy : Int) (w : World) (hk : k ≤ 6) (hx : fitsB dx = true) (hy : fitsB dy = true) :
    Calls Try.prog 73 #[.int .i64 2, .int .i64 (k : Int), .int .i64 dx, .int .i64 dy] w fun e w' => e = .returned (.tuple #[.int .i64 (dist 2 (10 ^ k) dx.natAbs dy.natAbs : Nat), .int .i64 0]) ∧ Below w.heap.size w w' := by
  have c1 : decide ((k : Int) < 0) = false := decide_eq_false (by omega)
  have c2 : decide (6 < (k : Int)) = false := decide_eq_false (by omega)
  have X := fun (w : World) => Try.far_calls dx w
  have Y := fun (w : World) => Try.far_calls dy w
  rw [hx, Bool.not_true] at X
  rw [hy, Bool.not_true] at Y
  have bx := fitsB_true hx
  have bY := fitsB_true hy
  have x9 := fitsB_abs hx
  have y9 := fitsB_abs hy
  have hs := sum_most x9 y9
  have mx : max dx (-dx) = (dx.natAbs : Int) := by omega
  have my : max dy (-dy) = (dy.natAbs : Int) := by omega
  obtain ⟨x, hxx⟩ : ∃ x, dx.natAbs = x := ⟨_, rfl⟩
  obtain ⟨y, hyy⟩ : ∃ y, dy.natAbs = y := ⟨_, rfl⟩
  rw [hxx] at x9 hs mx ⊢
  rw [hyy] at y9 hs my ⊢
  have x2 : x * x ≤ 40000000000000000 := sq_le x9
  have y2 : y * y ≤ 40000000000000000 := sq_le y9
  have wx : wrap64 ((x : Int) * (x : Int)) = ((x * x : Nat) : Int) := wrap_nat (by simp) (by omega)
  have wy : wrap64 ((y : Int) * (y : Int)) = ((y * y : Nat) : Int) := wrap_nat (by simp) (by omega)
  obtain ⟨p, hp⟩ : ∃ p, x * x = p := ⟨_, rfl⟩
  obtain ⟨q, hq⟩ : ∃ q, y * y = q := ⟨_, rfl⟩
  rw [hp] at x2 wx
  rw [hq] at y2 wy
  obtain ⟨n, hn⟩ : ∃ n, dist 2 (10 ^ k) x y = n := ⟨_, rfl⟩
  rw [hn]
  have Hn := Lib.hid hn
  have Hp := Lib.hid hp
  have Hq := Lib.hid hq
  clear hx hy hn hp hq hs hxx hyy
  go_enter Try.func73, Try.ntmps73
  go_wp2_with (go_at_call 84; first
    | ((with_reducible refine (X _).mono ?_); rintro e w2 ⟨rfl, hw2⟩; obtain rfl : w = w2 := hw2.symm)
    | ((with_reducible refine (Y _).mono ?_); rintro e w3 ⟨rfl, hw3⟩; obtain rfl : w = w3 := hw3.symm))
  clear X Y
  go_loop [13, 14] (fun t i => ∃ j : Nat, j ≤ k ∧ i = .int .i64 j ∧ t = .int .i64 ((10 ^ j : Nat) : Int)) (fun _ i => k - (intOf i).toNat)
  case atStart => exact ⟨0, Nat.zero_le _, rfl, rfl⟩
  case round =>
    obtain ⟨j, hj, rfl, rfl⟩ := hrel
    by_cases hlt : j < k
    · obtain ⟨t, ht⟩ : ∃ t : Nat, 10 ^ j = t := ⟨_, rfl⟩
      have t9 : t ≤ 1000000 := by rw [← ht]; exact pow_six (by omega)
      rw [ht]
      have Ht := Lib.hid ht
      clear ht
      go_wp2
      go_round
      case rel => exact ⟨j + 1, by omega, by go_num, by rw [Nat.pow_succ, Ht.out]; go_num⟩
      case measure => simp [intOf]; omega
    · obtain rfl : j = k := by omega
      have t1 := pow_pos' j
      have t9 := pow_six hk
      have hs := sum_most x9 y9
      have F := fun (w : World) => Try.RCeil_calls (x * x + y * y) 1 (10 ^ j) w hs (by omega) (by omega) t1
      rw [← dist2, Hn.out] at F
      rw [Hp.out, Hq.out] at F
      obtain ⟨t, ht⟩ : ∃ t : Nat, 10 ^ j = t := ⟨_, rfl⟩
      rw [ht] at F t1 t9 ⊢
      simp only [Int.cast_ofNat_Int, Int.natCast_add] at F
      clear ht hlt hs
      go_wp2_with (go_at_call 86; (with_reducible refine (F _).mono ?_); rintro e w4 ⟨rfl, hw4⟩; obtain rfl : w = w4 := hw4.symm)
      go_ret2
      exact ⟨rfl, Below.refl _ _⟩

set_option maxRecDepth 100000 in
set_option maxHeartbeats 1000000 in
theorem Try.RDist_ok3 (k : Nat) (dx dy : Int) (w : World) (hk : k ≤ 6) (hx : fitsB dx = true) (hy : fitsB dy = true) :
    Calls Try.prog 73 #[.int .i64 3, .int .i64 (k : Int), .int .i64 dx, .int .i64 dy] w fun e w' => e = .returned (.tuple #[.int .i64 (dist 3 (10 ^ k) dx.natAbs dy.natAbs : Nat), .int .i64 0]) ∧ Below w.heap.size w w' := by
  have c1 : decide ((k : Int) < 0) = false := decide_eq_false (by omega)
  have c2 : decide (6 < (k : Int)) = false := decide_eq_false (by omega)
  have X := fun (w : World) => Try.far_calls dx w
  have Y := fun (w : World) => Try.far_calls dy w
  rw [hx, Bool.not_true] at X
  rw [hy, Bool.not_true] at Y
  have bx := fitsB_true hx
  have bY := fitsB_true hy
  have x9 := fitsB_abs hx
  have y9 := fitsB_abs hy
  have hs := sum_most x9 y9
  have mx : max dx (-dx) = (dx.natAbs : Int) := by omega
  have my : max dy (-dy) = (dy.natAbs : Int) := by omega
  obtain ⟨x, hxx⟩ : ∃ x, dx.natAbs = x := ⟨_, rfl⟩
  obtain ⟨y, hyy⟩ : ∃ y, dy.natAbs = y := ⟨_, rfl⟩
  rw [hxx] at x9 hs mx ⊢
  rw [hyy] at y9 hs my ⊢
  have x2 : x * x ≤ 40000000000000000 := sq_le x9
  have y2 : y * y ≤ 40000000000000000 := sq_le y9
  have wx : wrap64 ((x : Int) * (x : Int)) = ((x * x : Nat) : Int) := wrap_nat (by simp) (by omega)
  have wy : wrap64 ((y : Int) * (y : Int)) = ((y * y : Nat) : Int) := wrap_nat (by simp) (by omega)
  obtain ⟨p, hp⟩ : ∃ p, x * x = p := ⟨_, rfl⟩
  obtain ⟨q, hq⟩ : ∃ q, y * y = q := ⟨_, rfl⟩
  rw [hp] at x2 wx
  rw [hq] at y2 wy
  obtain ⟨n, hn⟩ : ∃ n, dist 3 (10 ^ k) x y = n := ⟨_, rfl⟩
  rw [hn]
  have Hn := Lib.hid hn
  have Hp := Lib.hid hp
  have Hq := Lib.hid hq
  clear hx hy hn hp hq hs hxx hyy
  go_enter Try.func73, Try.ntmps73
  go_wp2_with (go_at_call 84; first
    | ((with_reducible refine (X _).mono ?_); rintro e w2 ⟨rfl, hw2⟩; obtain rfl : w = w2 := hw2.symm)
    | ((with_reducible refine (Y _).mono ?_); rintro e w3 ⟨rfl, hw3⟩; obtain rfl : w = w3 := hw3.symm))
  clear X Y
  go_loop [13, 14] (fun t i => ∃ j : Nat, j ≤ k ∧ i = .int .i64 j ∧ t = .int .i64 ((10 ^ j : Nat) : Int)) (fun _ i => k - (intOf i).toNat)
  case atStart => exact ⟨0, Nat.zero_le _, rfl, rfl⟩
  case round =>
    obtain ⟨j, hj, rfl, rfl⟩ := hrel
    by_cases hlt : j < k
    · obtain ⟨t, ht⟩ : ∃ t : Nat, 10 ^ j = t := ⟨_, rfl⟩
      have t9 : t ≤ 1000000 := by rw [← ht]; exact pow_six (by omega)
      rw [ht]
      have Ht := Lib.hid ht
      clear ht
      go_wp2
      go_round
      case rel => exact ⟨j + 1, by omega, by go_num, by rw [Nat.pow_succ, Ht.out]; go_num⟩
      case measure => simp [intOf]; omega
    · obtain rfl : j = k := by omega
      have t1 := pow_pos' j
      have t9 := pow_six hk
      have hs := sum_most x9 y9
      have F := fun (w : World) => Try.Rnearest_calls (x + y) (10 ^ j) w (by omega) t1 t9
      rw [← dist3, Hn.out] at F
      obtain ⟨t, ht⟩ : ∃ t : Nat, 10 ^ j = t := ⟨_, rfl⟩
      rw [ht] at F t1 t9 ⊢
      simp only [Int.natCast_add] at F
      clear ht hlt hs
      go_wp2_with (go_at_call 87; (with_reducible refine (F _).mono ?_); rintro e w4 ⟨rfl, hw4⟩; obtain rfl : w = w4 := hw4.symm)
      go_ret2
      exact ⟨rfl, Below.refl _ _⟩

set_option maxRecDepth 100000 in
set_option maxHeartbeats 1000000 in
theorem Try.RDist_ok4 (k : Nat) (dx dy : Int) (w : World) (hk : k ≤ 6) (hx : fitsB dx = true) (hy : fitsB dy = true) :
    Calls Try.prog 73 #[.int .i64 4, .int .i64 (k : Int), .int .i64 dx, .int .i64 dy] w fun e w' => e = .returned (.tuple #[.int .i64 (dist 4 (10 ^ k) dx.natAbs dy.natAbs : Nat), .int .i64 0]) ∧ Below w.heap.size w w' := by
  have c1 : decide ((k : Int) < 0) = false := decide_eq_false (by omega)
  have c2 : decide (6 < (k : Int)) = false := decide_eq_false (by omega)
  have X := fun (w : World) => Try.far_calls dx w
  have Y := fun (w : World) => Try.far_calls dy w
  rw [hx, Bool.not_true] at X
  rw [hy, Bool.not_true] at Y
  have bx := fitsB_true hx
  have bY := fitsB_true hy
  have x9 := fitsB_abs hx
  have y9 := fitsB_abs hy
  have hs := sum_most x9 y9
  have mx : max dx (-dx) = (dx.natAbs : Int) := by omega
  have my : max dy (-dy) = (dy.natAbs : Int) := by omega
  obtain ⟨x, hxx⟩ : ∃ x, dx.natAbs = x := ⟨_, rfl⟩
  obtain ⟨y, hyy⟩ : ∃ y, dy.natAbs = y := ⟨_, rfl⟩
  rw [hxx] at x9 hs mx ⊢
  rw [hyy] at y9 hs my ⊢
  have x2 : x * x ≤ 40000000000000000 := sq_le x9
  have y2 : y * y ≤ 40000000000000000 := sq_le y9
  have wx : wrap64 ((x : Int) * (x : Int)) = ((x * x : Nat) : Int) := wrap_nat (by simp) (by omega)
  have wy : wrap64 ((y : Int) * (y : Int)) = ((y * y : Nat) : Int) := wrap_nat (by simp) (by omega)
  obtain ⟨p, hp⟩ : ∃ p, x * x = p := ⟨_, rfl⟩
  obtain ⟨q, hq⟩ : ∃ q, y * y = q := ⟨_, rfl⟩
  rw [hp] at x2 wx
  rw [hq] at y2 wy
  obtain ⟨n, hn⟩ : ∃ n, dist 4 (10 ^ k) x y = n := ⟨_, rfl⟩
  rw [hn]
  have Hn := Lib.hid hn
  have Hp := Lib.hid hp
  have Hq := Lib.hid hq
  clear hx hy hn hp hq hs hxx hyy
  go_enter Try.func73, Try.ntmps73
  go_wp2_with (go_at_call 84; first
    | ((with_reducible refine (X _).mono ?_); rintro e w2 ⟨rfl, hw2⟩; obtain rfl : w = w2 := hw2.symm)
    | ((with_reducible refine (Y _).mono ?_); rintro e w3 ⟨rfl, hw3⟩; obtain rfl : w = w3 := hw3.symm))
  clear X Y
  go_loop [13, 14] (fun t i => ∃ j : Nat, j ≤ k ∧ i = .int .i64 j ∧ t = .int .i64 ((10 ^ j : Nat) : Int)) (fun _ i => k - (intOf i).toNat)
  case atStart => exact ⟨0, Nat.zero_le _, rfl, rfl⟩
  case round =>
    obtain ⟨j, hj, rfl, rfl⟩ := hrel
    by_cases hlt : j < k
    · obtain ⟨t, ht⟩ : ∃ t : Nat, 10 ^ j = t := ⟨_, rfl⟩
      have t9 : t ≤ 1000000 := by rw [← ht]; exact pow_six (by omega)
      rw [ht]
      have Ht := Lib.hid ht
      clear ht
      go_wp2
      go_round
      case rel => exact ⟨j + 1, by omega, by go_num, by rw [Nat.pow_succ, Ht.out]; go_num⟩
      case measure => simp [intOf]; omega
    · obtain rfl : j = k := by omega
      have t1 := pow_pos' j
      have t9 := pow_six hk
      have hs := sum_most x9 y9
      have F := fun (w : World) => Try.Rnearest_calls x (10 ^ j) w (by omega) t1 t9
      have G := fun (w : World) => Try.Rnearest_calls y (10 ^ j) w (by omega) t1 t9
      have hm := Hn.out
      rw [dist4] at hm
      obtain ⟨u, hu⟩ : ∃ u, nst x (10 ^ j) = u := ⟨_, rfl⟩
      obtain ⟨v, hv⟩ : ∃ v, nst y (10 ^ j) = v := ⟨_, rfl⟩
      rw [hu] at F hm
      rw [hv] at G hm
      obtain ⟨t, ht⟩ : ∃ t : Nat, 10 ^ j = t := ⟨_, rfl⟩
      rw [ht] at F G t1 t9 ⊢
      have Hm := Lib.hid hm
      clear ht hlt hs hu hv hm
      go_wp2_with (go_at_call 87; first
        | ((with_reducible refine (F _).mono ?_); rintro e w4 ⟨rfl, hw4⟩; obtain rfl : w = w4 := hw4.symm)
        | ((with_reducible refine (G _).mono ?_); rintro e w5 ⟨rfl, hw5⟩; obtain rfl : w = w5 := hw5.symm))
      go_ret2
      exact ⟨by rw [← Hm.out]; go_num, Below.refl _ _⟩

set_option maxRecDepth 100000 in
set_option maxHeartbeats 1000000 in
theorem Try.RDist_ok5 (k : Nat) (dx dy : Int) (w : World) (hk : k ≤ 6) (hx : fitsB dx = true) (hy : fitsB dy = true) :
    Calls Try.prog 73 #[.int .i64 5, .int .i64 (k : Int), .int .i64 dx, .int .i64 dy] w fun e w' => e = .returned (.tuple #[.int .i64 (dist 5 (10 ^ k) dx.natAbs dy.natAbs : Nat), .int .i64 0]) ∧ Below w.heap.size w w' := by
  have c1 : decide ((k : Int) < 0) = false := decide_eq_false (by omega)
  have c2 : decide (6 < (k : Int)) = false := decide_eq_false (by omega)
  have X := fun (w : World) => Try.far_calls dx w
  have Y := fun (w : World) => Try.far_calls dy w
  rw [hx, Bool.not_true] at X
  rw [hy, Bool.not_true] at Y
  have bx := fitsB_true hx
  have bY := fitsB_true hy
  have x9 := fitsB_abs hx
  have y9 := fitsB_abs hy
  have hs := sum_most x9 y9
  have mx : max dx (-dx) = (dx.natAbs : Int) := by omega
  have my : max dy (-dy) = (dy.natAbs : Int) := by omega
  obtain ⟨x, hxx⟩ : ∃ x, dx.natAbs = x := ⟨_, rfl⟩
  obtain ⟨y, hyy⟩ : ∃ y, dy.natAbs = y := ⟨_, rfl⟩
  rw [hxx] at x9 hs mx ⊢
  rw [hyy] at y9 hs my ⊢
  have x2 : x * x ≤ 40000000000000000 := sq_le x9
  have y2 : y * y ≤ 40000000000000000 := sq_le y9
  have wx : wrap64 ((x : Int) * (x : Int)) = ((x * x : Nat) : Int) := wrap_nat (by simp) (by omega)
  have wy : wrap64 ((y : Int) * (y : Int)) = ((y * y : Nat) : Int) := wrap_nat (by simp) (by omega)
  obtain ⟨p, hp⟩ : ∃ p, x * x = p := ⟨_, rfl⟩
  obtain ⟨q, hq⟩ : ∃ q, y * y = q := ⟨_, rfl⟩
  rw [hp] at x2 wx
  rw [hq] at y2 wy
  obtain ⟨n, hn⟩ : ∃ n, dist 5 (10 ^ k) x y = n := ⟨_, rfl⟩
  rw [hn]
  have Hn := Lib.hid hn
  have Hp := Lib.hid hp
  have Hq := Lib.hid hq
  clear hx hy hn hp hq hs hxx hyy
  go_enter Try.func73, Try.ntmps73
  go_wp2_with (go_at_call 84; first
    | ((with_reducible refine (X _).mono ?_); rintro e w2 ⟨rfl, hw2⟩; obtain rfl : w = w2 := hw2.symm)
    | ((with_reducible refine (Y _).mono ?_); rintro e w3 ⟨rfl, hw3⟩; obtain rfl : w = w3 := hw3.symm))
  clear X Y
  go_loop [13, 14] (fun t i => ∃ j : Nat, j ≤ k ∧ i = .int .i64 j ∧ t = .int .i64 ((10 ^ j : Nat) : Int)) (fun _ i => k - (intOf i).toNat)
  case atStart => exact ⟨0, Nat.zero_le _, rfl, rfl⟩
  case round =>
    obtain ⟨j, hj, rfl, rfl⟩ := hrel
    by_cases hlt : j < k
    · obtain ⟨t, ht⟩ : ∃ t : Nat, 10 ^ j = t := ⟨_, rfl⟩
      have t9 : t ≤ 1000000 := by rw [← ht]; exact pow_six (by omega)
      rw [ht]
      have Ht := Lib.hid ht
      clear ht
      go_wp2
      go_round
      case rel => exact ⟨j + 1, by omega, by go_num, by rw [Nat.pow_succ, Ht.out]; go_num⟩
      case measure => simp [intOf]; omega
    · obtain rfl : j = k := by omega
      have t1 := pow_pos' j
      have t9 := pow_six hk
      have hs := sum_most x9 y9
      have F := fun (w : World) => Try.RCeil_calls (x * x + y * y) 10 (10 ^ j) w hs (by omega) (by omega) t1
      rw [← dist5, Hn.out] at F
      rw [Hp.out, Hq.out] at F
      obtain ⟨t, ht⟩ : ∃ t : Nat, 10 ^ j = t := ⟨_, rfl⟩
      rw [ht] at F t1 t9 ⊢
      simp only [Int.cast_ofNat_Int, Int.natCast_add] at F
      clear ht hlt hs
      go_wp2_with (go_at_call 86; (with_reducible refine (F _).mono ?_); rintro e w4 ⟨rfl, hw4⟩; obtain rfl : w = w4 := hw4.symm)
      go_ret2
      exact ⟨rfl, Below.refl _ _⟩

set_option maxRecDepth 100000 in
set_option maxHeartbeats 1000000 in
theorem Try.RDist_ok6 (k : Nat) (dx dy : Int) (w : World) (hk : k ≤ 6) (hx : fitsB dx = true) (hy : fitsB dy = true) :
    Calls Try.prog 73 #[.int .i64 6, .int .i64 (k : Int), .int .i64 dx, .int .i64 dy] w fun e w' => e = .returned (.tuple #[.int .i64 (dist 6 (10 ^ k) dx.natAbs dy.natAbs : Nat), .int .i64 0]) ∧ Below w.heap.size w w' := by
  have c1 : decide ((k : Int) < 0) = false := decide_eq_false (by omega)
  have c2 : decide (6 < (k : Int)) = false := decide_eq_false (by omega)
  have X := fun (w : World) => Try.far_calls dx w
  have Y := fun (w : World) => Try.far_calls dy w
  rw [hx, Bool.not_true] at X
  rw [hy, Bool.not_true] at Y
  have bx := fitsB_true hx
  have bY := fitsB_true hy
  have x9 := fitsB_abs hx
  have y9 := fitsB_abs hy
  have hs := sum_most x9 y9
  have mx : max dx (-dx) = (dx.natAbs : Int) := by omega
  have my : max dy (-dy) = (dy.natAbs : Int) := by omega
  obtain ⟨x, hxx⟩ : ∃ x, dx.natAbs = x := ⟨_, rfl⟩
  obtain ⟨y, hyy⟩ : ∃ y, dy.natAbs = y := ⟨_, rfl⟩
  rw [hxx] at x9 hs mx ⊢
  rw [hyy] at y9 hs my ⊢
  have x2 : x * x ≤ 40000000000000000 := sq_le x9
  have y2 : y * y ≤ 40000000000000000 := sq_le y9
  have wx : wrap64 ((x : Int) * (x : Int)) = ((x * x : Nat) : Int) := wrap_nat (by simp) (by omega)
  have wy : wrap64 ((y : Int) * (y : Int)) = ((y * y : Nat) : Int) := wrap_nat (by simp) (by omega)
  obtain ⟨p, hp⟩ : ∃ p, x * x = p := ⟨_, rfl⟩
  obtain ⟨q, hq⟩ : ∃ q, y * y = q := ⟨_, rfl⟩
  rw [hp] at x2 wx
  rw [hq] at y2 wy
  obtain ⟨n, hn⟩ : ∃ n, dist 6 (10 ^ k) x y = n := ⟨_, rfl⟩
  rw [hn]
  have Hn := Lib.hid hn
  have Hp := Lib.hid hp
  have Hq := Lib.hid hq
  clear hx hy hn hp hq hs hxx hyy
  go_enter Try.func73, Try.ntmps73
  go_wp2_with (go_at_call 84; first
    | ((with_reducible refine (X _).mono ?_); rintro e w2 ⟨rfl, hw2⟩; obtain rfl : w = w2 := hw2.symm)
    | ((with_reducible refine (Y _).mono ?_); rintro e w3 ⟨rfl, hw3⟩; obtain rfl : w = w3 := hw3.symm))
  clear X Y
  go_loop [13, 14] (fun t i => ∃ j : Nat, j ≤ k ∧ i = .int .i64 j ∧ t = .int .i64 ((10 ^ j : Nat) : Int)) (fun _ i => k - (intOf i).toNat)
  case atStart => exact ⟨0, Nat.zero_le _, rfl, rfl⟩
  case round =>
    obtain ⟨j, hj, rfl, rfl⟩ := hrel
    by_cases hlt : j < k
    · obtain ⟨t, ht⟩ : ∃ t : Nat, 10 ^ j = t := ⟨_, rfl⟩
      have t9 : t ≤ 1000000 := by rw [← ht]; exact pow_six (by omega)
      rw [ht]
      have Ht := Lib.hid ht
      clear ht
      go_wp2
      go_round
      case rel => exact ⟨j + 1, by omega, by go_num, by rw [Nat.pow_succ, Ht.out]; go_num⟩
      case measure => simp [intOf]; omega
    · obtain rfl : j = k := by omega
      have t1 := pow_pos' j
      have t9 := pow_six hk
      have hs := sum_most x9 y9
      have F := fun (w : World) => Try.RDown_calls (x * x + y * y) 10 (10 ^ j) w hs (by omega) t1
      rw [← dist6, Hn.out] at F
      rw [Hp.out, Hq.out] at F
      obtain ⟨t, ht⟩ : ∃ t : Nat, 10 ^ j = t := ⟨_, rfl⟩
      rw [ht] at F t1 t9 ⊢
      simp only [Int.cast_ofNat_Int, Int.natCast_add] at F
      clear ht hlt hs
      go_wp2_with (go_at_call 88; (with_reducible refine (F _).mono ?_); rintro e w4 ⟨rfl, hw4⟩; obtain rfl : w = w4 := hw4.symm)
      go_ret2
      exact ⟨rfl, Below.refl _ _⟩

theorem Try.RDist_calls (kind scale dx dy : Int) (w : World) :
    Calls Try.prog 73 #[.int .i64 kind, .int .i64 scale, .int .i64 dx, .int .i64 dy] w fun e w' => e = .returned (.tuple #[.int .i64 (distE kind scale dx dy).1, .int .i64 (distE kind scale dx dy).2]) ∧ Below w.heap.size w w' := by
  by_cases h : kind < 1 ∨ 6 < kind ∨ scale < 0 ∨ 6 < scale
  · rw [distE_arg h]
    exact (Try.RDist_arg kind scale dx dy w h).mono fun e w' ⟨h1, h2⟩ => ⟨h1, h2 ▸ Below.refl _ _⟩
  · by_cases hf : fitsB dx = true ∧ fitsB dy = true
    · obtain ⟨hx, hy⟩ := hf
      rw [distE_ok h hx hy]
      obtain ⟨k, rfl⟩ := nat_of (show 0 ≤ scale by omega)
      have hk : k ≤ 6 := by omega
      rcases (show kind = 1 ∨ kind = 2 ∨ kind = 3 ∨ kind = 4 ∨ kind = 5 ∨ kind = 6 by omega) with rfl | rfl | rfl | rfl | rfl | rfl
      · exact Try.RDist_ok1 k dx dy w hk hx hy
      · exact Try.RDist_ok2 k dx dy w hk hx hy
      · exact Try.RDist_ok3 k dx dy w hk hx hy
      · exact Try.RDist_ok4 k dx dy w hk hx hy
      · exact Try.RDist_ok5 k dx dy w hk hx hy
      · exact Try.RDist_ok6 k dx dy w hk hx hy
    · rw [distE_full h hf]
      exact (Try.RDist_full kind scale dx dy w h hf).mono fun e w' ⟨h1, h2⟩ => ⟨h1, h2 ▸ Below.refl _ _⟩
#print axioms Try.RDist_calls
end Go.Proofs
