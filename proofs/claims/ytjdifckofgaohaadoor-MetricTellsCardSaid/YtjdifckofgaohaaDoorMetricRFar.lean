/- The document's own answer for metric.Dist: the same as the program's. Conditions: none. -/
import Derived.Test.YtjdifckofgaohaaDoorMetricFar
import Derived.Test.YtjdifckofgaohaaDoorRootRQuotients
namespace Go.Proofs
open Go.RowKit Go.Shelf Go.Root Go.Metric
attribute [local go_sem] Oper.semAt_some

set_option maxRecDepth 100000 in
set_option maxHeartbeats 1000000 in
theorem Tryd.RDist_arg (kind scale dx dy : Int) (w : World) (h : kind < 1 ∨ 6 < kind ∨ scale < 0 ∨ 6 < scale) :
    Calls Tryd.prog 10 #[.int .i64 kind, .int .i64 scale, .int .i64 dx, .int .i64 dy] w fun e w' => e = .returned (.tuple #[.int .i64 0, .int .i64 1]) ∧ w' = w := by
  by_cases h1 : kind < 1
  · have c1 : decide (kind < 1) = true := decide_eq_true h1
    clear h
    go_enter Tryd.func10, Tryd.ntmps10
    go_wp2
    go_ret2
    exact ⟨rfl, rfl⟩
  · have c1 : decide (kind < 1) = false := decide_eq_false h1
    by_cases h2 : 6 < kind
    · have c2 : decide (6 < kind) = true := decide_eq_true h2
      clear h
      go_enter Tryd.func10, Tryd.ntmps10
      go_wp2
      go_ret2
      exact ⟨rfl, rfl⟩
    · have c2 : decide (6 < kind) = false := decide_eq_false h2
      by_cases h3 : scale < 0
      · have c3 : decide (scale < 0) = true := decide_eq_true h3
        clear h
        go_enter Tryd.func10, Tryd.ntmps10
        go_wp2
        go_ret2
        exact ⟨rfl, rfl⟩
      · have c3 : decide (scale < 0) = false := decide_eq_false h3
        have h4 : 6 < scale := by omega
        have c4 : decide (6 < scale) = true := decide_eq_true h4
        clear h
        go_enter Tryd.func10, Tryd.ntmps10
        go_wp2
        go_ret2
        exact ⟨rfl, rfl⟩

set_option maxRecDepth 100000 in
set_option maxHeartbeats 1000000 in
theorem Tryd.RDist_full (kind scale dx dy : Int) (w : World) (h : ¬ (kind < 1 ∨ 6 < kind ∨ scale < 0 ∨ 6 < scale)) (hf : ¬ (fitsB dx = true ∧ fitsB dy = true)) :
    Calls Tryd.prog 10 #[.int .i64 kind, .int .i64 scale, .int .i64 dx, .int .i64 dy] w fun e w' => e = .returned (.tuple #[.int .i64 0, .int .i64 2]) ∧ w' = w := by
  have c0 : decide (kind < 1) = false := decide_eq_false (by omega)
  have c3 : decide (6 < kind) = false := decide_eq_false (by omega)
  have c1 : decide (scale < 0) = false := decide_eq_false (by omega)
  have c2 : decide (6 < scale) = false := decide_eq_false (by omega)
  have X := fun (w : World) => Tryd.far_calls dx w
  have Y := fun (w : World) => Tryd.far_calls dy w
  cases hx : fitsB dx with
  | false =>
    rw [hx, Bool.not_false] at X
    clear h hf hx
    go_enter Tryd.func10, Tryd.ntmps10
    go_wp2_with (go_at_call 23; (with_reducible refine (X _).mono ?_); rintro e w2 ⟨rfl, hw2⟩; obtain rfl : w = w2 := hw2.symm)
    go_ret2
    exact ⟨rfl, rfl⟩
  | true =>
    have hy : fitsB dy = false := by cases hy : fitsB dy with | false => rfl | true => exact absurd ⟨hx, hy⟩ hf
    rw [hx, Bool.not_true] at X
    rw [hy, Bool.not_false] at Y
    clear h hf hx hy
    go_enter Tryd.func10, Tryd.ntmps10
    go_wp2_with (go_at_call 23; first
      | ((with_reducible refine (X _).mono ?_); rintro e w2 ⟨rfl, hw2⟩; obtain rfl : w = w2 := hw2.symm)
      | ((with_reducible refine (Y _).mono ?_); rintro e w3 ⟨rfl, hw3⟩; obtain rfl : w = w3 := hw3.symm))
    go_ret2
    exact ⟨rfl, rfl⟩

set_option maxRecDepth 100000 in
set_option maxHeartbeats 1000000 in
theorem Tryd.RDist_ok1 (k : Nat) (dx dy : Int) (w : World) (hk : k ≤ 6) (hx : fitsB dx = true) (hy : fitsB dy = true) :
    Calls Tryd.prog 10 #[.int .i64 1, .int .i64 (k : Int), .int .i64 dx, .int .i64 dy] w fun e w' => e = .returned (.tuple #[.int .i64 (dist 1 (10 ^ k) dx.natAbs dy.natAbs : Nat), .int .i64 0]) ∧ Below w.heap.size w w' := by
  have c1 : decide ((k : Int) < 0) = false := decide_eq_false (by omega)
  have c2 : decide (6 < (k : Int)) = false := decide_eq_false (by omega)
  have X := fun (w : World) => Tryd.far_calls dx w
  have Y := fun (w : World) => Tryd.far_calls dy w
  rw [hx, Bool.not_true] at X
  rw [hy, Bool.not_true] at Y
  have bx := fitsB_true hx
  have bY := fitsB_true hy
  have x9 := fitsB_abs hx
  have y9 := fitsB_abs hy
  have hs := sum_most x9 y9
  have mx : max dx (-dx) = (dx.natAbs : Int) := by omega
  have my : max dy (-dy) = (dy.natAbs : Int) := by omega
  obtain ⟨x, hxx⟩ : ∃ x, dx.natAbs = x := ⟨_, rfl⟩
  obtain ⟨y, hyy⟩ : ∃ y, dy.natAbs = y := ⟨_, rfl⟩
  rw [hxx] at x9 hs mx ⊢
  rw [hyy] at y9 hs my ⊢
  have x2 : x * x ≤ 40000000000000000 := sq_le x9
  have y2 : y * y ≤ 40000000000000000 := sq_le y9
  have wx : wrap64 ((x : Int) * (x : Int)) = ((x * x : Nat) : Int) := wrap_nat (by simp) (by omega)
  have wy : wrap64 ((y : Int) * (y : Int)) = ((y * y : Nat) : Int) := wrap_nat (by simp) (by omega)
  obtain ⟨p, hp⟩ : ∃ p, x * x = p := ⟨_, rfl⟩
  obtain ⟨q, hq⟩ : ∃ q, y * y = q := ⟨_, rfl⟩
  rw [hp] at x2 wx
  rw [hq] at y2 wy
  obtain ⟨n, hn⟩ : ∃ n, dist 1 (10 ^ k) x y = n := ⟨_, rfl⟩
  rw [hn]
  have Hn := Lib.hid hn
  have Hp := Lib.hid hp
  have Hq := Lib.hid hq
  clear hx hy hn hp hq hs hxx hyy
  go_enter Tryd.func10, Tryd.ntmps10
  go_wp2_with (go_at_call 23; first
    | ((with_reducible refine (X _).mono ?_); rintro e w2 ⟨rfl, hw2⟩; obtain rfl : w = w2 := hw2.symm)
    | ((with_reducible refine (Y _).mono ?_); rintro e w3 ⟨rfl, hw3⟩; obtain rfl : w = w3 := hw3.symm))
  clear X Y
  go_loop [13, 14] (fun t i => ∃ j : Nat, j ≤ k ∧ i = .int .i64 j ∧ t = .int .i64 ((10 ^ j : Nat) : Int)) (fun _ i => k - (intOf i).toNat)
  case atStart => exact ⟨0, Nat.zero_le _, rfl, rfl⟩
  case round =>
    obtain ⟨j, hj, rfl, rfl⟩ := hrel
    by_cases hlt : j < k
    · obtain ⟨t, ht⟩ : ∃ t : Nat, 10 ^ j = t := ⟨_, rfl⟩
      have t9 : t ≤ 1000000 := by rw [← ht]; exact pow_six (by omega)
      rw [ht]
      have Ht := Lib.hid ht
      clear ht
      go_wp2
      go_round
      case rel => exact ⟨j + 1, by omega, by go_num, by rw [Nat.pow_succ, Ht.out]; go_num⟩
      case measure => simp [intOf]; omega
    · obtain rfl : j = k := by omega
      have t1 := pow_pos' j
      have t9 := pow_six hk
      have hs := sum_most x9 y9
      have F := fun (w : World) => Tryd.RNear_calls (x * x + y * y) (10 ^ j) w hs t1 t9
      rw [← dist1, Hn.out] at F
      rw [Hp.out, Hq.out] at F
      obtain ⟨t, ht⟩ : ∃ t : Nat, 10 ^ j = t := ⟨_, rfl⟩
      rw [ht] at F t1 t9 ⊢
      simp only [Int.natCast_add] at F
      clear ht hlt hs
      go_wp2_with (go_at_call 24; (with_reducible refine (F _).mono ?_); rintro e w4 ⟨rfl, hw4⟩; obtain rfl : w = w4 := hw4.symm)
      go_ret2
      exact ⟨rfl, Below.refl _ _⟩

set_option maxRecDepth 100000 in
set_option maxHeartbeats 1000000 in
theorem Tryd.RDist_ok2 (k : Nat) (dx dy : Int) (w : World) (hk : k ≤ 6) (hx : fitsB dx = true) (hy : fitsB dy = true) :
    Calls Tryd.prog 10 #[.int .i64 2, .int .i64 (k : Int), .int .i64 dx, .int .i64 dy] w fun e w' => e = .returned (.tuple #[.int .i64 (dist 2 (10 ^ k) dx.natAbs dy.natAbs : Nat), .int .i64 0]) ∧ Below w.heap.size w w' := by
  have c1 : decide ((k : Int) < 0) = false := decide_eq_false (by omega)
  have c2 : decide (6 < (k : Int)) = false := decide_eq_false (by omega)
  have X := fun (w : World) => Tryd.far_calls dx w
  have Y := fun (w : World) => Tryd.far_calls dy w
  rw [hx, Bool.not_true] at X
  rw [hy, Bool.not_true] at Y
  have bx := fitsB_true hx
  have bY := fitsB_true hy
  have x9 := fitsB_abs hx
  have y9 := fitsB_abs hy
  have hs := sum_most x9 y9
  have mx : max dx (-dx) = (dx.natAbs : Int) := by omega
  have my : max dy (-dy) = (dy.natAbs : Int) := by omega
  obtain ⟨x, hxx⟩ : ∃ x, dx.natAbs = x := ⟨_, rfl⟩
  obtain ⟨y, hyy⟩ : ∃ y, dy.natAbs = y := ⟨_, rfl⟩
  rw [hxx] at x9 hs mx ⊢
  rw [hyy] at y9 hs my ⊢
  have x2 : x * x ≤ 40000000000000000 := sq_le x9
  have y2 : y * y ≤ 40000000000000000 := sq_le y9
  have wx : wrap64 ((x : Int) * (x : Int)) = ((x * x : Nat) : Int) := wrap_nat (by simp) (by omega)
  have wy : wrap64 ((y : Int) * (y : Int)) = ((y * y : Nat) : Int) := wrap_nat (by simp) (by omega)
  obtain ⟨p, hp⟩ : ∃ p, x * x = p := ⟨_, rfl⟩
  obtain ⟨q, hq⟩ : ∃ q, y * y = q := ⟨_, rfl⟩
  rw [hp] at x2 wx
  rw [hq] at y2 wy
  obtain ⟨n, hn⟩ : ∃ n, dist 2 (10 ^ k) x y = n := ⟨_, rfl⟩
  rw [hn]
  have Hn := Lib.hid hn
  have Hp := Lib.hid hp
  have Hq := Lib.hid hq
  clear hx hy hn hp hq hs hxx hyy
  go_enter Tryd.func10, Tryd.ntmps10
  go_wp2_with (go_at_call 23; first
    | ((with_reducible refine (X _).mono ?_); rintro e w2 ⟨rfl, hw2⟩; obtain rfl : w = w2 := hw2.symm)
    | ((with_reducible refine (Y _).mono ?_); rintro e w3 ⟨rfl, hw3⟩; obtain rfl : w = w3 := hw3.symm))
  clear X Y
  go_loop [13, 14] (fun t i => ∃ j : Nat, j ≤ k ∧ i = .int .i64 j ∧ t = .int .i64 ((10 ^ j : Nat) : Int)) (fun _ i => k - (intOf i).toNat)
  case atStart => exact ⟨0, Nat.zero_le _, rfl, rfl⟩
  case round =>
    obtain ⟨j, hj, rfl, rfl⟩ := hrel
    by_cases hlt : j < k
    · obtain ⟨t, ht⟩ : ∃ t : Nat, 10 ^ j = t := ⟨_, rfl⟩
      have t9 : t ≤ 1000000 := by rw [← ht]; exact pow_six (by omega)
      rw [ht]
      have Ht := Lib.hid ht
      clear ht
      go_wp2
      go_round
      case rel => exact ⟨j + 1, by omega, by go_num, by rw [Nat.pow_succ, Ht.out]; go_num⟩
      case measure => simp [intOf]; omega
    · obtain rfl : j = k := by omega
      have t1 := pow_pos' j
      have t9 := pow_six hk
      have hs := sum_most x9 y9
      have F := fun (w : World) => Tryd.RCeil_calls (x * x + y * y) 1 (10 ^ j) w hs (by omega) (by omega) t1
      rw [← dist2, Hn.out] at F
      rw [Hp.out, Hq.out] at F
      obtain ⟨t, ht⟩ : ∃ t : Nat, 10 ^ j = t := ⟨_, rfl⟩
      rw [ht] at F t1 t9 ⊢
      simp only [Int.cast_ofNat_Int, Int.natCast_add] at F
      clear ht hlt hs
      go_wp2_with (go_at_call 25; (with_reducible refine (F _).mono ?_); rintro e w4 ⟨rfl, hw4⟩; obtain rfl : w = w4 := hw4.symm)
      go_ret2
      exact ⟨rfl, Below.refl _ _⟩

set_option maxRecDepth 100000 in
set_option maxHeartbeats 1000000 in
theorem Tryd.RDist_ok3 (k : Nat) (dx dy : Int) (w : World) (hk : k ≤ 6) (hx : fitsB dx = true) (hy : fitsB dy = true) :
    Calls Tryd.prog 10 #[.int .i64 3, .int .i64 (k : Int), .int .i64 dx, .int .i64 dy] w fun e w' => e = .returned (.tuple #[.int .i64 (dist 3 (10 ^ k) dx.natAbs dy.natAbs : Nat), .int .i64 0]) ∧ Below w.heap.size w w' := by
  have c1 : decide ((k : Int) < 0) = false := decide_eq_false (by omega)
  have c2 : decide (6 < (k : Int)) = false := decide_eq_false (by omega)
  have X := fun (w : World) => Tryd.far_calls dx w
  have Y := fun (w : World) => Tryd.far_calls dy w
  rw [hx, Bool.not_true] at X
  rw [hy, Bool.not_true] at Y
  have bx := fitsB_true hx
  have bY := fitsB_true hy
  have x9 := fitsB_abs hx
  have y9 := fitsB_abs hy
  have hs := sum_most x9 y9
  have mx : max dx (-dx) = (dx.natAbs : Int) := by omega
  have my : max dy (-dy) = (dy.natAbs : Int) := by omega
  obtain ⟨x, hxx⟩ : ∃ x, dx.natAbs = x := ⟨_, rfl⟩
  obtain ⟨y, hyy⟩ : ∃ y, dy.natAbs = y := ⟨_, rfl⟩
  rw [hxx] at x9 hs mx ⊢
  rw [hyy] at y9 hs my ⊢
  have x2 : x * x ≤ 40000000000000000 := sq_le x9
  have y2 : y * y ≤ 40000000000000000 := sq_le y9
  have wx : wrap64 ((x : Int) * (x : Int)) = ((x * x : Nat) : Int) := wrap_nat (by simp) (by omega)
  have wy : wrap64 ((y : Int) * (y : Int)) = ((y * y : Nat) : Int) := wrap_nat (by simp) (by omega)
  obtain ⟨p, hp⟩ : ∃ p, x * x = p := ⟨_, rfl⟩
  obtain ⟨q, hq⟩ : ∃ q, y * y = q := ⟨_, rfl⟩
  rw [hp] at x2 wx
  rw [hq] at y2 wy
  obtain ⟨n, hn⟩ : ∃ n, dist 3 (10 ^ k) x y = n := ⟨_, rfl⟩
  rw [hn]
  have Hn := Lib.hid hn
  have Hp := Lib.hid hp
  have Hq := Lib.hid hq
  clear hx hy hn hp hq hs hxx hyy
  go_enter Tryd.func10, Tryd.ntmps10
  go_wp2_with (go_at_call 23; first
    | ((with_reducible refine (X _).mono ?_); rintro e w2 ⟨rfl, hw2⟩; obtain rfl : w = w2 := hw2.symm)
    | ((with_reducible refine (Y _).mono ?_); rintro e w3 ⟨rfl, hw3⟩; obtain rfl : w = w3 := hw3.symm))
  clear X Y
  go_loop [13, 14] (fun t i => ∃ j : Nat, j ≤ k ∧ i = .int .i64 j ∧ t = .int .i64 ((10 ^ j : Nat) : Int)) (fun _ i => k - (intOf i).toNat)
  case atStart => exact ⟨0, Nat.zero_le _, rfl, rfl⟩
  case round =>
    obtain ⟨j, hj, rfl, rfl⟩ := hrel
    by_cases hlt : j < k
    · obtain ⟨t, ht⟩ : ∃ t : Nat, 10 ^ j = t := ⟨_, rfl⟩
      have t9 : t ≤ 1000000 := by rw [← ht]; exact pow_six (by omega)
      rw [ht]
      have Ht := Lib.hid ht
      clear ht
      go_wp2
      go_round
      case rel => exact ⟨j + 1, by omega, by go_num, by rw [Nat.pow_succ, Ht.out]; go_num⟩
      case measure => simp [intOf]; omega
    · obtain rfl : j = k := by omega
      have t1 := pow_pos' j
      have t9 := pow_six hk
      have hs := sum_most x9 y9
      have F := fun (w : World) => Tryd.Rnearest_calls (x + y) (10 ^ j) w (by omega) t1 t9
      rw [← dist3, Hn.out] at F
      obtain ⟨t, ht⟩ : ∃ t : Nat, 10 ^ j = t := ⟨_, rfl⟩
      rw [ht] at F t1 t9 ⊢
      simp only [Int.natCast_add] at F
      clear ht hlt hs
      go_wp2_with (go_at_call 26; (with_reducible refine (F _).mono ?_); rintro e w4 ⟨rfl, hw4⟩; obtain rfl : w = w4 := hw4.symm)
      go_ret2
      exact ⟨rfl, Below.refl _ _⟩

set_option maxRecDepth 100000 in
set_option maxHeartbeats 1000000 in
theorem Tryd.RDist_ok4 (k : Nat) (dx dy : Int) (w : World) (hk : k ≤ 6) (hx : fitsB dx = true) (hy : fitsB dy = true) :
    Calls Tryd.prog 10 #[.int .i64 4, .int .i64 (k : Int), .int .i64 dx, .int .i64 dy] w fun e w' => e = .returned (.tuple #[.int .i64 (dist 4 (10 ^ k) dx.natAbs dy.natAbs : Nat), .int .i64 0]) ∧ Below w.heap.size w w' := by
  have c1 : decide ((k : Int) < 0) = false := decide_eq_false (by omega)
  have c2 : decide (6 < (k : Int)) = false := decide_eq_false (by omega)
  have X := fun (w : World) => Tryd.far_calls dx w
  have Y := fun (w : World) => Tryd.far_calls dy w
  rw [hx, Bool.not_true] at X
  rw [hy, Bool.not_true] at Y
  have bx := fitsB_true hx
  have bY := fitsB_true hy
  have x9 := fitsB_abs hx
  have y9 := fitsB_abs hy
  have hs := sum_most x9 y9
  have mx : max dx (-dx) = (dx.natAbs : Int) := by omega
  have my : max dy (-dy) = (dy.natAbs : Int) := by omega
  obtain ⟨x, hxx⟩ : ∃ x, dx.natAbs = x := ⟨_, rfl⟩
  obtain ⟨y, hyy⟩ : ∃ y, dy.natAbs = y := ⟨_, rfl⟩
  rw [hxx] at x9 hs mx ⊢
  rw [hyy] at y9 hs my ⊢
  have x2 : x * x ≤ 40000000000000000 := sq_le x9
  have y2 : y * y ≤ 40000000000000000 := sq_le y9
  have wx : wrap64 ((x : Int) * (x : Int)) = ((x * x : Nat) : Int) := wrap_nat (by simp) (by omega)
  have wy : wrap64 ((y : Int) * (y : Int)) = ((y * y : Nat) : Int) := wrap_nat (by simp) (by omega)
  obtain ⟨p, hp⟩ : ∃ p, x * x = p := ⟨_, rfl⟩
  obtain ⟨q, hq⟩ : ∃ q, y * y = q := ⟨_, rfl⟩
  rw [hp] at x2 wx
  rw [hq] at y2 wy
  obtain ⟨n, hn⟩ : ∃ n, dist 4 (10 ^ k) x y = n := ⟨_, rfl⟩
  rw [hn]
  have Hn := Lib.hid hn
  have Hp := Lib.hid hp
  have Hq := Lib.hid hq
  clear hx hy hn hp hq hs hxx hyy
  go_enter Tryd.func10, Tryd.ntmps10
  go_wp2_with (go_at_call 23; first
    | ((with_reducible refine (X _).mono ?_); rintro e w2 ⟨rfl, hw2⟩; obtain rfl : w = w2 := hw2.symm)
    | ((with_reducible refine (Y _).mono ?_); rintro e w3 ⟨rfl, hw3⟩; obtain rfl : w = w3 := hw3.symm))
  clear X Y
  go_loop [13, 14] (fun t i => ∃ j : Nat, j ≤ k ∧ i = .int .i64 j ∧ t = .int .i64 ((10 ^ j : Nat) : Int)) (fun _ i => k - (intOf i).toNat)
  case atStart => exact ⟨0, Nat.zero_le _, rfl, rfl⟩
  case round =>
    obtain ⟨j, hj, rfl, rfl⟩ := hrel
    by_cases hlt : j < k
    · obtain ⟨t, ht⟩ : ∃ t : Nat, 10 ^ j = t := ⟨_, rfl⟩
      have t9 : t ≤ 1000000 := by rw [← ht]; exact pow_six (by omega)
      rw [ht]
      have Ht := Lib.hid ht
      clear ht
      go_wp2
      go_round
      case rel => exact ⟨j + 1, by omega, by go_num, by rw [Nat.pow_succ, Ht.out]; go_num⟩
      case measure => simp [intOf]; omega
    · obtain rfl : j = k := by omega
      have t1 := pow_pos' j
      have t9 := pow_six hk
      have hs := sum_most x9 y9
      have F := fun (w : World) => Tryd.Rnearest_calls x (10 ^ j) w (by omega) t1 t9
      have G := fun (w : World) => Tryd.Rnearest_calls y (10 ^ j) w (by omega) t1 t9
      have hm := Hn.out
      rw [dist4] at hm
      obtain ⟨u, hu⟩ : ∃ u, nst x (10 ^ j) = u := ⟨_, rfl⟩
      obtain ⟨v, hv⟩ : ∃ v, nst y (10 ^ j) = v := ⟨_, rfl⟩
      rw [hu] at F hm
      rw [hv] at G hm
      obtain ⟨t, ht⟩ : ∃ t : Nat, 10 ^ j = t := ⟨_, rfl⟩
      rw [ht] at F G t1 t9 ⊢
      have Hm := Lib.hid hm
      clear ht hlt hs hu hv hm
      go_wp2_with (go_at_call 26; first
        | ((with_reducible refine (F _).mono ?_); rintro e w4 ⟨rfl, hw4⟩; obtain rfl : w = w4 := hw4.symm)
        | ((with_reducible refine (G _).mono ?_); rintro e w5 ⟨rfl, hw5⟩; obtain rfl : w = w5 := hw5.symm))
      go_ret2
      exact ⟨by rw [← Hm.out]; go_num, Below.refl _ _⟩

set_option maxRecDepth 100000 in
set_option maxHeartbeats 1000000 in
theorem Tryd.RDist_ok5 (k : Nat) (dx dy : Int) (w : World) (hk : k ≤ 6) (hx : fitsB dx = true) (hy : fitsB dy = true) :
    Calls Tryd.prog 10 #[.int .i64 5, .int .i64 (k : Int), .int .i64 dx, .int .i64 dy] w fun e w' => e = .returned (.tuple #[.int .i64 (dist 5 (10 ^ k) dx.natAbs dy.natAbs : Nat), .int .i64 0]) ∧ Below w.heap.size w w' := by
  have c1 : decide ((k : Int) < 0) = false := decide_eq_false (by omega)
  have c2 : decide (6 < (k : Int)) = false := decide_eq_false (by omega)
  have X := fun (w : World) => Tryd.far_calls dx w
  have Y := fun (w : World) => Tryd.far_calls dy w
  rw [hx, Bool.not_true] at X
  rw [hy, Bool.not_true] at Y
  have bx := fitsB_true hx
  have bY := fitsB_true hy
  have x9 := fitsB_abs hx
  have y9 := fitsB_abs hy
  have hs := sum_most x9 y9
  have mx : max dx (-dx) = (dx.natAbs : Int) := by omega
  have my : max dy (-dy) = (dy.natAbs : Int) := by omega
  obtain ⟨x, hxx⟩ : ∃ x, dx.natAbs = x := ⟨_, rfl⟩
  obtain ⟨y, hyy⟩ : ∃ y, dy.natAbs = y := ⟨_, rfl⟩
  rw [hxx] at x9 hs mx ⊢
  rw [hyy] at y9 hs my ⊢
  have x2 : x * x ≤ 40000000000000000 := sq_le x9
  have y2 : y * y ≤ 40000000000000000 := sq_le y9
  have wx : wrap64 ((x : Int) * (x : Int)) = ((x * x : Nat) : Int) := wrap_nat (by simp) (by omega)
  have wy : wrap64 ((y : Int) * (y : Int)) = ((y * y : Nat) : Int) := wrap_nat (by simp) (by omega)
  obtain ⟨p, hp⟩ : ∃ p, x * x = p := ⟨_, rfl⟩
  obtain ⟨q, hq⟩ : ∃ q, y * y = q := ⟨_, rfl⟩
  rw [hp] at x2 wx
  rw [hq] at y2 wy
  obtain ⟨n, hn⟩ : ∃ n, dist 5 (10 ^ k) x y = n := ⟨_, rfl⟩
  rw [hn]
  have Hn := Lib.hid hn
  have Hp := Lib.hid hp
  have Hq := Lib.hid hq
  clear hx hy hn hp hq hs hxx hyy
  go_enter Tryd.func10, Tryd.ntmps10
  go_wp2_with (go_at_call 23; first
    | ((with_reducible refine (X _).mono ?_); rintro e w2 ⟨rfl, hw2⟩; obtain rfl : w = w2 := hw2.symm)
    | ((with_reducible refine (Y _).mono ?_); rintro e w3 ⟨rfl, hw3⟩; obtain rfl : w = w3 := hw3.symm))
  clear X Y
  go_loop [13, 14] (fun t i => ∃ j : Nat, j ≤ k ∧ i = .int .i64 j ∧ t = .int .i64 ((10 ^ j : Nat) : Int)) (fun _ i => k - (intOf i).toNat)
  case atStart => exact ⟨0, Nat.zero_le _, rfl, rfl⟩
  case round =>
    obtain ⟨j, hj, rfl, rfl⟩ := hrel
    by_cases hlt : j < k
    · obtain ⟨t, ht⟩ : ∃ t : Nat, 10 ^ j = t := ⟨_, rfl⟩
      have t9 : t ≤ 1000000 := by rw [← ht]; exact pow_six (by omega)
      rw [ht]
      have Ht := Lib.hid ht
      clear ht
      go_wp2
      go_round
      case rel => exact ⟨j + 1, by omega, by go_num, by rw [Nat.pow_succ, Ht.out]; go_num⟩
      case measure => simp [intOf]; omega
    · obtain rfl : j = k := by omega
      have t1 := pow_pos' j
      have t9 := pow_six hk
      have hs := sum_most x9 y9
      have F := fun (w : World) => Tryd.RCeil_calls (x * x + y * y) 10 (10 ^ j) w hs (by omega) (by omega) t1
      rw [← dist5, Hn.out] at F
      rw [Hp.out, Hq.out] at F
      obtain ⟨t, ht⟩ : ∃ t : Nat, 10 ^ j = t := ⟨_, rfl⟩
      rw [ht] at F t1 t9 ⊢
      simp only [Int.cast_ofNat_Int, Int.natCast_add] at F
      clear ht hlt hs
      go_wp2_with (go_at_call 25; (with_reducible refine (F _).mono ?_); rintro e w4 ⟨rfl, hw4⟩; obtain rfl : w = w4 := hw4.symm)
      go_ret2
      exact ⟨rfl, Below.refl _ _⟩

set_option maxRecDepth 100000 in
set_option maxHeartbeats 1000000 in
theorem Tryd.RDist_ok6 (k : Nat) (dx dy : Int) (w : World) (hk : k ≤ 6) (hx : fitsB dx = true) (hy : fitsB dy = true) :
    Calls Tryd.prog 10 #[.int .i64 6, .int .i64 (k : Int), .int .i64 dx, .int .i64 dy] w fun e w' => e = .returned (.tuple #[.int .i64 (dist 6 (10 ^ k) dx.natAbs dy.natAbs : Nat), .int .i64 0]) ∧ Below w.heap.size w w' := by
  have c1 : decide ((k : Int) < 0) = false := decide_eq_false (by omega)
  have c2 : decide (6 < (k : Int)) = false := decide_eq_false (by omega)
  have X := fun (w : World) => Tryd.far_calls dx w
  have Y := fun (w : World) => Tryd.far_calls dy w
  rw [hx, Bool.not_true] at X
  rw [hy, Bool.not_true] at Y
  have bx := fitsB_true hx
  have bY := fitsB_true hy
  have x9 := fitsB_abs hx
  have y9 := fitsB_abs hy
  have hs := sum_most x9 y9
  have mx : max dx (-dx) = (dx.natAbs : Int) := by omega
  have my : max dy (-dy) = (dy.natAbs : Int) := by omega
  obtain ⟨x, hxx⟩ : ∃ x, dx.natAbs = x := ⟨_, rfl⟩
  obtain ⟨y, hyy⟩ : ∃ y, dy.natAbs = y := ⟨_, rfl⟩
  rw [hxx] at x9 hs mx ⊢
  rw [hyy] at y9 hs my ⊢
  have x2 : x * x ≤ 40000000000000000 := sq_le x9
  have y2 : y * y ≤ 40000000000000000 := sq_le y9
  have wx : wrap64 ((x : Int) * (x : Int)) = ((x * x : Nat) : Int) := wrap_nat (by simp) (by omega)
  have wy : wrap64 ((y : Int) * (y : Int)) = ((y * y : Nat) : Int) := wrap_nat (by simp) (by omega)
  obtain ⟨p, hp⟩ : ∃ p, x * x = p := ⟨_, rfl⟩
  obtain ⟨q, hq⟩ : ∃ q, y * y = q := ⟨_, rfl⟩
  rw [hp] at x2 wx
  rw [hq] at y2 wy
  obtain ⟨n, hn⟩ : ∃ n, dist 6 (10 ^ k) x y = n := ⟨_, rfl⟩
  rw [hn]
  have Hn := Lib.hid hn
  have Hp := Lib.hid hp
  have Hq := Lib.hid hq
  clear hx hy hn hp hq hs hxx hyy
  go_enter Tryd.func10, Tryd.ntmps10
  go_wp2_with (go_at_call 23; first
    | ((with_reducible refine (X _).mono ?_); rintro e w2 ⟨rfl, hw2⟩; obtain rfl : w = w2 := hw2.symm)
    | ((with_reducible refine (Y _).mono ?_); rintro e w3 ⟨rfl, hw3⟩; obtain rfl : w = w3 := hw3.symm))
  clear X Y
  go_loop [13, 14] (fun t i => ∃ j : Nat, j ≤ k ∧ i = .int .i64 j ∧ t = .int .i64 ((10 ^ j : Nat) : Int)) (fun _ i => k - (intOf i).toNat)
  case atStart => exact ⟨0, Nat.zero_le _, rfl, rfl⟩
  case round =>
    obtain ⟨j, hj, rfl, rfl⟩ := hrel
    by_cases hlt : j < k
    · obtain ⟨t, ht⟩ : ∃ t : Nat, 10 ^ j = t := ⟨_, rfl⟩
      have t9 : t ≤ 1000000 := by rw [← ht]; exact pow_six (by omega)
      rw [ht]
      have Ht := Lib.hid ht
      clear ht
      go_wp2
      go_round
      case rel => exact ⟨j + 1, by omega, by go_num, by rw [Nat.pow_succ, Ht.out]; go_num⟩
      case measure => simp [intOf]; omega
    · obtain rfl : j = k := by omega
      have t1 := pow_pos' j
      have t9 := pow_six hk
      have hs := sum_most x9 y9
      have F := fun (w : World) => Tryd.RDown_calls (x * x + y * y) 10 (10 ^ j) w hs (by omega) t1
      rw [← dist6, Hn.out] at F
      rw [Hp.out, Hq.out] at F
      obtain ⟨t, ht⟩ : ∃ t : Nat, 10 ^ j = t := ⟨_, rfl⟩
      rw [ht] at F t1 t9 ⊢
      simp only [Int.cast_ofNat_Int, Int.natCast_add] at F
      clear ht hlt hs
      go_wp2_with (go_at_call 27; (with_reducible refine (F _).mono ?_); rintro e w4 ⟨rfl, hw4⟩; obtain rfl : w = w4 := hw4.symm)
      go_ret2
      exact ⟨rfl, Below.refl _ _⟩

theorem Tryd.RDist_calls (kind scale dx dy : Int) (w : World) :
    Calls Tryd.prog 10 #[.int .i64 kind, .int .i64 scale, .int .i64 dx, .int .i64 dy] w fun e w' => e = .returned (.tuple #[.int .i64 (distE kind scale dx dy).1, .int .i64 (distE kind scale dx dy).2]) ∧ Below w.heap.size w w' := by
  by_cases h : kind < 1 ∨ 6 < kind ∨ scale < 0 ∨ 6 < scale
  · rw [distE_arg h]
    exact (Tryd.RDist_arg kind scale dx dy w h).mono fun e w' ⟨h1, h2⟩ => ⟨h1, h2 ▸ Below.refl _ _⟩
  · by_cases hf : fitsB dx = true ∧ fitsB dy = true
    · obtain ⟨hx, hy⟩ := hf
      rw [distE_ok h hx hy]
      obtain ⟨k, rfl⟩ := nat_of (show 0 ≤ scale by omega)
      have hk : k ≤ 6 := by omega
      rcases (show kind = 1 ∨ kind = 2 ∨ kind = 3 ∨ kind = 4 ∨ kind = 5 ∨ kind = 6 by omega) with rfl | rfl | rfl | rfl | rfl | rfl
      · exact Tryd.RDist_ok1 k dx dy w hk hx hy
      · exact Tryd.RDist_ok2 k dx dy w hk hx hy
      · exact Tryd.RDist_ok3 k dx dy w hk hx hy
      · exact Tryd.RDist_ok4 k dx dy w hk hx hy
      · exact Tryd.RDist_ok5 k dx dy w hk hx hy
      · exact Tryd.RDist_ok6 k dx dy w hk hx hy
    · rw [distE_full h hf]
      exact (Tryd.RDist_full kind scale dx dy w h hf).mono fun e w' ⟨h1, h2⟩ => ⟨h1, h2 ▸ Below.refl _ _⟩
#print axioms Tryd.RDist_calls
end Go.Proofs
