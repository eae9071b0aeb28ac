/- The law MetricTriangle of layer 6, as a contract: it answers true at every input. Conditions: the array of keywords holds what the card lays. -/
import Derived.Test.YtjdifckofgaohaaDoorMetricShown
namespace Go.Metric
theorem distE_most {kind s x y : Int} : 0 ≤ (distE kind s x y).1 ∧ (distE kind s x y).1 ≤ 3000000000 := by
  by_cases h : kind < 1 ∨ 6 < kind ∨ s < 0 ∨ 6 < s
  · rw [distE_arg h]; exact ⟨by decide, by decide⟩
  · by_cases hf : fitsB x = true ∧ fitsB y = true
    · rw [distE_ok h hf.1 hf.2]
      have := dist_most (kind := kind.toNat) (fitsB_abs hf.1) (fitsB_abs hf.2) (pow_pos' s.toNat)
      exact ⟨by simp only; omega, by simp only; omega⟩
    · rw [distE_full h hf]; exact ⟨by decide, by decide⟩
/-- The way through a third point, of the kinds that the law names. -/
theorem distE_through {kind s ax ay bx b_y : Int} (hk : kind = 2 ∨ kind = 5 ∨ ((kind = 3 ∨ kind = 4) ∧ s = 0))
    (h1 : fitsB ax = true) (h2 : fitsB ay = true) (h3 : fitsB bx = true) (h4 : fitsB b_y = true) (h5 : fitsB (ax + bx) = true) (h6 : fitsB (ay + b_y) = true) :
    (distE kind s ax ay).2 = (distE kind s bx b_y).2 ∧ (distE kind s bx b_y).2 = (distE kind s (ax + bx) (ay + b_y)).2 ∧ (distE kind s (ax + bx) (ay + b_y)).1 ≤ (distE kind s ax ay).1 + (distE kind s bx b_y).1 := by
  by_cases h : kind < 1 ∨ 6 < kind ∨ s < 0 ∨ 6 < s
  · rw [distE_arg h, distE_arg h, distE_arg h]; exact ⟨rfl, rfl, by decide⟩
  · rw [distE_ok h h1 h2, distE_ok h h3 h4, distE_ok h h5 h6]
    refine ⟨rfl, rfl, ?_⟩
    have c1 := sum_most (fitsB_abs h1) (fitsB_abs h2)
    have c2 := sum_most (fitsB_abs h3) (fitsB_abs h4)
    have c3 := sum_most (fitsB_abs h5) (fitsB_abs h6)
    rcases hk with rfl | rfl | ⟨rfl | rfl, rfl⟩
    · simp only [show (2 : Int).toNat = 2 from rfl, Go.Proofs.dist2]
      have := ceil_through (k := 1) (Nat.le_refl 1) (pow_pos' s.toNat) c1 c2 c3
      omega
    · simp only [show (5 : Int).toNat = 5 from rfl, Go.Proofs.dist5]
      have := ceil_through (k := 10) (by omega) (pow_pos' s.toNat) c1 c2 c3
      omega
    · simp only [show (3 : Int).toNat = 3 from rfl, Go.Proofs.dist3, show (0 : Int).toNat = 0 from rfl, Nat.pow_zero]
      have := sides_through ax ay bx b_y
      omega
    · simp only [show (4 : Int).toNat = 4 from rfl, Go.Proofs.dist4, show (0 : Int).toNat = 0 from rfl, Nat.pow_zero]
      have := most_through ax ay bx b_y
      omega
end Go.Metric
namespace Go.Proofs
open Go.RowKit Go.Shelf Go.Root Go.Metric Go.TextTab
attribute [local go_sem] Oper.semAt_some

theorem Tryd.near_at (a n : Int) (w : World) (h : a = n) : Calls Tryd.prog 18 #[.int .i64 a] w fun e w' => e = .returned (.bool (fitsB n)) ∧ w' = w := by
  subst h; exact Tryd.near_calls a w

set_option maxRecDepth 100000 in
set_option maxHeartbeats 4000000 in
theorem Tryd.MetricTriangle_out (kind scale ax ay bx b_y : Int) (w : World) (hT : Words w)
    (h : ¬ (fitsB ax = true ∧ fitsB ay = true ∧ fitsB bx = true ∧ fitsB b_y = true ∧ fitsB (ax + bx) = true ∧ fitsB (ay + b_y) = true)) :
    Calls Tryd.prog 7 #[.int .i64 kind, .int .i64 scale, .int .i64 ax, .int .i64 ay, .int .i64 bx, .int .i64 b_y] w fun e w' => e = .returned (.bool true) ∧ Below w.heap.size w w' := by
  have S := Tryd.shown_calls w hT
  have N1 := fun (w : World) => Tryd.near_calls ax w
  have N2 := fun (w : World) => Tryd.near_calls ay w
  have N3 := fun (w : World) => Tryd.near_calls bx w
  have N4 := fun (w : World) => Tryd.near_calls b_y w
  have N5 := fun (a : Int) (w : World) (ha : a = ax + bx) => Tryd.near_at a (ax + bx) w ha
  have N6 := fun (a : Int) (w : World) (ha : a = ay + b_y) => Tryd.near_at a (ay + b_y) w ha
  cases k1 : fitsB ax with
  | false =>
    rw [k1] at N1
    clear h k1 N2 N3 N4 N5 N6
    go_enter Tryd.func7, Tryd.ntmps7
    go_wp2_with (first | (go_at_call 18; first | ((with_reducible refine (N1 _).mono ?_); rintro e u1 ⟨rfl, g1⟩; obtain rfl : w = u1 := g1.symm)) | (go_at_call 11; (with_reducible refine S.mono ?_); rintro e w1 ⟨rfl, hb⟩))
    go_ret
    exact ⟨rfl, hb⟩
  | true =>
    cases k2 : fitsB ay with
    | false =>
      rw [k2] at N2
      rw [k1] at N1
      clear h k1 k2 N3 N4 N5 N6
      go_enter Tryd.func7, Tryd.ntmps7
      go_wp2_with (first | (go_at_call 18; first | ((with_reducible refine (N1 _).mono ?_); rintro e u1 ⟨rfl, g1⟩; obtain rfl : w = u1 := g1.symm) | ((with_reducible refine (N2 _).mono ?_); rintro e u2 ⟨rfl, g2⟩; obtain rfl : w = u2 := g2.symm)) | (go_at_call 11; (with_reducible refine S.mono ?_); rintro e w1 ⟨rfl, hb⟩))
      go_ret
      exact ⟨rfl, hb⟩
    | true =>
      cases k3 : fitsB bx with
      | false =>
        rw [k3] at N3
        rw [k1] at N1
        rw [k2] at N2
        clear h k1 k2 k3 N4 N5 N6
        go_enter Tryd.func7, Tryd.ntmps7
        go_wp2_with (first | (go_at_call 18; first | ((with_reducible refine (N1 _).mono ?_); rintro e u1 ⟨rfl, g1⟩; obtain rfl : w = u1 := g1.symm) | ((with_reducible refine (N2 _).mono ?_); rintro e u2 ⟨rfl, g2⟩; obtain rfl : w = u2 := g2.symm) | ((with_reducible refine (N3 _).mono ?_); rintro e u3 ⟨rfl, g3⟩; obtain rfl : w = u3 := g3.symm)) | (go_at_call 11; (with_reducible refine S.mono ?_); rintro e w1 ⟨rfl, hb⟩))
        go_ret
        exact ⟨rfl, hb⟩
      | true =>
        cases k4 : fitsB b_y with
        | false =>
          rw [k4] at N4
          rw [k1] at N1
          rw [k2] at N2
          rw [k3] at N3
          clear h k1 k2 k3 k4 N5 N6
          go_enter Tryd.func7, Tryd.ntmps7
          go_wp2_with (first | (go_at_call 18; first | ((with_reducible refine (N1 _).mono ?_); rintro e u1 ⟨rfl, g1⟩; obtain rfl : w = u1 := g1.symm) | ((with_reducible refine (N2 _).mono ?_); rintro e u2 ⟨rfl, g2⟩; obtain rfl : w = u2 := g2.symm) | ((with_reducible refine (N3 _).mono ?_); rintro e u3 ⟨rfl, g3⟩; obtain rfl : w = u3 := g3.symm) | ((with_reducible refine (N4 _).mono ?_); rintro e u4 ⟨rfl, g4⟩; obtain rfl : w = u4 := g4.symm)) | (go_at_call 11; (with_reducible refine S.mono ?_); rintro e w1 ⟨rfl, hb⟩))
          go_ret
          exact ⟨rfl, hb⟩
        | true =>
          cases k5 : fitsB (ax + bx) with
          | false =>
            rw [k5] at N5
            rw [k1] at N1
            rw [k2] at N2
            rw [k3] at N3
            rw [k4] at N4
            have b1 := fitsB_true k1
            have b3 := fitsB_true k3
            have b2 := fitsB_true k2
            have b4 := fitsB_true k4
            clear h k1 k2 k3 k4 k5 N6
            go_enter Tryd.func7, Tryd.ntmps7
            go_wp2_with (first | (go_at_call 18; first | ((with_reducible refine (N1 _).mono ?_); rintro e u1 ⟨rfl, g1⟩; obtain rfl : w = u1 := g1.symm) | ((with_reducible refine (N2 _).mono ?_); rintro e u2 ⟨rfl, g2⟩; obtain rfl : w = u2 := g2.symm) | ((with_reducible refine (N3 _).mono ?_); rintro e u3 ⟨rfl, g3⟩; obtain rfl : w = u3 := g3.symm) | ((with_reducible refine (N4 _).mono ?_); rintro e u4 ⟨rfl, g4⟩; obtain rfl : w = u4 := g4.symm) | ((with_reducible refine (N5 _ _ (by omega)).mono ?_); rintro e u5 ⟨rfl, g5⟩; obtain rfl : w = u5 := g5.symm)) | (go_at_call 11; (with_reducible refine S.mono ?_); rintro e w1 ⟨rfl, hb⟩))
            go_ret
            exact ⟨rfl, hb⟩
          | true =>
            cases k6 : fitsB (ay + b_y) with
            | false =>
              rw [k6] at N6
              rw [k1] at N1
              rw [k2] at N2
              rw [k3] at N3
              rw [k4] at N4
              rw [k5] at N5
              have b1 := fitsB_true k1
              have b3 := fitsB_true k3
              have b2 := fitsB_true k2
              have b4 := fitsB_true k4
              clear h k1 k2 k3 k4 k5 k6
              go_enter Tryd.func7, Tryd.ntmps7
              go_wp2_with (first | (go_at_call 18; first | ((with_reducible refine (N1 _).mono ?_); rintro e u1 ⟨rfl, g1⟩; obtain rfl : w = u1 := g1.symm) | ((with_reducible refine (N2 _).mono ?_); rintro e u2 ⟨rfl, g2⟩; obtain rfl : w = u2 := g2.symm) | ((with_reducible refine (N3 _).mono ?_); rintro e u3 ⟨rfl, g3⟩; obtain rfl : w = u3 := g3.symm) | ((with_reducible refine (N4 _).mono ?_); rintro e u4 ⟨rfl, g4⟩; obtain rfl : w = u4 := g4.symm) | ((with_reducible refine (N5 _ _ (by omega)).mono ?_); rintro e u5 ⟨rfl, g5⟩; obtain rfl : w = u5 := g5.symm) | ((with_reducible refine (N6 _ _ (by omega)).mono ?_); rintro e u6 ⟨rfl, g6⟩; obtain rfl : w = u6 := g6.symm)) | (go_at_call 11; (with_reducible refine S.mono ?_); rintro e w1 ⟨rfl, hb⟩))
              go_ret
              exact ⟨rfl, hb⟩
            | true =>
              exact absurd ⟨k1, k2, k3, k4, k5, k6⟩ h

set_option maxRecDepth 100000 in
set_option maxHeartbeats 4000000 in
theorem Tryd.MetricTriangle_two (scale ax ay bx b_y : Int) (w : World) (hT : Words w)
    (h1 : fitsB ax = true) (h2 : fitsB ay = true) (h3 : fitsB bx = true) (h4 : fitsB b_y = true) (h5 : fitsB (ax + bx) = true) (h6 : fitsB (ay + b_y) = true) :
    Calls Tryd.prog 7 #[.int .i64 2, .int .i64 scale, .int .i64 ax, .int .i64 ay, .int .i64 bx, .int .i64 b_y] w fun e w' => e = .returned (.bool true) ∧ Below w.heap.size w w' := by
  have S := Tryd.shown_calls w hT
  have N1 := fun (w : World) => Tryd.near_calls ax w
  have N2 := fun (w : World) => Tryd.near_calls ay w
  have N3 := fun (w : World) => Tryd.near_calls bx w
  have N4 := fun (w : World) => Tryd.near_calls b_y w
  have N5 := fun (a : Int) (w : World) (ha : a = ax + bx) => Tryd.near_at a (ax + bx) w ha
  have N6 := fun (a : Int) (w : World) (ha : a = ay + b_y) => Tryd.near_at a (ay + b_y) w ha
  rw [h1] at N1
  rw [h2] at N2
  rw [h3] at N3
  rw [h4] at N4
  rw [h5] at N5
  rw [h6] at N6
  have b1 := fitsB_true h1
  have b2 := fitsB_true h2
  have b3 := fitsB_true h3
  have b4 := fitsB_true h4
  have T := distE_through (kind := 2) (s := scale) (.inl rfl) h1 h2 h3 h4 h5 h6
  have A9 := distE_most (kind := 2) (s := scale) (x := ax) (y := ay)
  have B9 := distE_most (kind := 2) (s := scale) (x := bx) (y := b_y)
  have A := fun (w : World) => Tryd.Dist_calls 2 scale ax ay w
  have B := fun (w : World) => Tryd.Dist_calls 2 scale bx b_y w
  have C := fun (c d : Int) (w : World) (hc : c = ax + bx) (hd : d = ay + b_y) => Tryd.Dist_at scale c d 2 scale (ax + bx) (ay + b_y) w rfl hc hd
  obtain ⟨a, e, hz⟩ : ∃ n e, distE 2 scale ax ay = (n, e) := ⟨_, _, rfl⟩
  obtain ⟨b, f, hz2⟩ : ∃ n e, distE 2 scale bx b_y = (n, e) := ⟨_, _, rfl⟩
  obtain ⟨c, g, hz3⟩ : ∃ n e, distE 2 scale (ax + bx) (ay + b_y) = (n, e) := ⟨_, _, rfl⟩
  rw [hz] at A A9 T
  rw [hz2] at B B9 T
  rw [hz3] at C T
  simp only at A B C A9 B9 T
  obtain ⟨rfl, rfl, t3⟩ := T
  have t4 : decide (c ≤ a + b) = true := decide_eq_true t3
  clear hT h1 h2 h3 h4 h5 h6 hz hz2 hz3
  go_enter Tryd.func7, Tryd.ntmps7
  go_wp2_with (first | (go_at_call 18; first | ((with_reducible refine (N1 _).mono ?_); rintro e u1 ⟨rfl, g1⟩; obtain rfl : w = u1 := g1.symm) | ((with_reducible refine (N2 _).mono ?_); rintro e u2 ⟨rfl, g2⟩; obtain rfl : w = u2 := g2.symm) | ((with_reducible refine (N3 _).mono ?_); rintro e u3 ⟨rfl, g3⟩; obtain rfl : w = u3 := g3.symm) | ((with_reducible refine (N4 _).mono ?_); rintro e u4 ⟨rfl, g4⟩; obtain rfl : w = u4 := g4.symm) | ((with_reducible refine (N5 _ _ (by omega)).mono ?_); rintro e u5 ⟨rfl, g5⟩; obtain rfl : w = u5 := g5.symm) | ((with_reducible refine (N6 _ _ (by omega)).mono ?_); rintro e u6 ⟨rfl, g6⟩; obtain rfl : w = u6 := g6.symm)) | (go_at_call 11; (with_reducible refine S.mono ?_); rintro e w1 ⟨rfl, hb⟩))
  clear S N1 N2 N3 N4 N5 N6
  go_wp2_with (go_at_call 9; (with_reducible refine (A _).mono ?_); rintro e v1 ⟨rfl, h1⟩; clear A; replace hb := below_next hb h1 (Nat.le_refl _); clear h1)
  go_wp2_with (go_at_call 9; (with_reducible refine (B _).mono ?_); rintro e v2 ⟨rfl, h1⟩; clear B; replace hb := below_next hb h1 (Nat.le_refl _); clear h1)
  go_wp2_with (go_at_call 9; (with_reducible refine (C _ _ _ (by omega) (by omega)).mono ?_); rintro e v3 ⟨rfl, h1⟩; clear C; replace hb := below_next hb h1 (Nat.le_refl _); clear h1)
  go_ret
  exact ⟨rfl, hb⟩

set_option maxRecDepth 100000 in
set_option maxHeartbeats 4000000 in
theorem Tryd.MetricTriangle_five (scale ax ay bx b_y : Int) (w : World) (hT : Words w)
    (h1 : fitsB ax = true) (h2 : fitsB ay = true) (h3 : fitsB bx = true) (h4 : fitsB b_y = true) (h5 : fitsB (ax + bx) = true) (h6 : fitsB (ay + b_y) = true) :
    Calls Tryd.prog 7 #[.int .i64 5, .int .i64 scale, .int .i64 ax, .int .i64 ay, .int .i64 bx, .int .i64 b_y] w fun e w' => e = .returned (.bool true) ∧ Below w.heap.size w w' := by
  have S := Tryd.shown_calls w hT
  have N1 := fun (w : World) => Tryd.near_calls ax w
  have N2 := fun (w : World) => Tryd.near_calls ay w
  have N3 := fun (w : World) => Tryd.near_calls bx w
  have N4 := fun (w : World) => Tryd.near_calls b_y w
  have N5 := fun (a : Int) (w : World) (ha : a = ax + bx) => Tryd.near_at a (ax + bx) w ha
  have N6 := fun (a : Int) (w : World) (ha : a = ay + b_y) => Tryd.near_at a (ay + b_y) w ha
  rw [h1] at N1
  rw [h2] at N2
  rw [h3] at N3
  rw [h4] at N4
  rw [h5] at N5
  rw [h6] at N6
  have b1 := fitsB_true h1
  have b2 := fitsB_true h2
  have b3 := fitsB_true h3
  have b4 := fitsB_true h4
  have T := distE_through (kind := 5) (s := scale) (.inr (.inl rfl)) h1 h2 h3 h4 h5 h6
  have A9 := distE_most (kind := 5) (s := scale) (x := ax) (y := ay)
  have B9 := distE_most (kind := 5) (s := scale) (x := bx) (y := b_y)
  have A := fun (w : World) => Tryd.Dist_calls 5 scale ax ay w
  have B := fun (w : World) => Tryd.Dist_calls 5 scale bx b_y w
  have C := fun (c d : Int) (w : World) (hc : c = ax + bx) (hd : d = ay + b_y) => Tryd.Dist_at scale c d 5 scale (ax + bx) (ay + b_y) w rfl hc hd
  obtain ⟨a, e, hz⟩ : ∃ n e, distE 5 scale ax ay = (n, e) := ⟨_, _, rfl⟩
  obtain ⟨b, f, hz2⟩ : ∃ n e, distE 5 scale bx b_y = (n, e) := ⟨_, _, rfl⟩
  obtain ⟨c, g, hz3⟩ : ∃ n e, distE 5 scale (ax + bx) (ay + b_y) = (n, e) := ⟨_, _, rfl⟩
  rw [hz] at A A9 T
  rw [hz2] at B B9 T
  rw [hz3] at C T
  simp only at A B C A9 B9 T
  obtain ⟨rfl, rfl, t3⟩ := T
  have t4 : decide (c ≤ a + b) = true := decide_eq_true t3
  clear hT h1 h2 h3 h4 h5 h6 hz hz2 hz3
  go_enter Tryd.func7, Tryd.ntmps7
  go_wp2_with (first | (go_at_call 18; first | ((with_reducible refine (N1 _).mono ?_); rintro e u1 ⟨rfl, g1⟩; obtain rfl : w = u1 := g1.symm) | ((with_reducible refine (N2 _).mono ?_); rintro e u2 ⟨rfl, g2⟩; obtain rfl : w = u2 := g2.symm) | ((with_reducible refine (N3 _).mono ?_); rintro e u3 ⟨rfl, g3⟩; obtain rfl : w = u3 := g3.symm) | ((with_reducible refine (N4 _).mono ?_); rintro e u4 ⟨rfl, g4⟩; obtain rfl : w = u4 := g4.symm) | ((with_reducible refine (N5 _ _ (by omega)).mono ?_); rintro e u5 ⟨rfl, g5⟩; obtain rfl : w = u5 := g5.symm) | ((with_reducible refine (N6 _ _ (by omega)).mono ?_); rintro e u6 ⟨rfl, g6⟩; obtain rfl : w = u6 := g6.symm)) | (go_at_call 11; (with_reducible refine S.mono ?_); rintro e w1 ⟨rfl, hb⟩))
  clear S N1 N2 N3 N4 N5 N6
  go_wp2_with (go_at_call 9; (with_reducible refine (A _).mono ?_); rintro e v1 ⟨rfl, h1⟩; clear A; replace hb := below_next hb h1 (Nat.le_refl _); clear h1)
  go_wp2_with (go_at_call 9; (with_reducible refine (B _).mono ?_); rintro e v2 ⟨rfl, h1⟩; clear B; replace hb := below_next hb h1 (Nat.le_refl _); clear h1)
  go_wp2_with (go_at_call 9; (with_reducible refine (C _ _ _ (by omega) (by omega)).mono ?_); rintro e v3 ⟨rfl, h1⟩; clear C; replace hb := below_next hb h1 (Nat.le_refl _); clear h1)
  go_ret
  exact ⟨rfl, hb⟩

set_option maxRecDepth 100000 in
set_option maxHeartbeats 4000000 in
theorem Tryd.MetricTriangle_three ( ax ay bx b_y : Int) (w : World) (hT : Words w)
    (h1 : fitsB ax = true) (h2 : fitsB ay = true) (h3 : fitsB bx = true) (h4 : fitsB b_y = true) (h5 : fitsB (ax + bx) = true) (h6 : fitsB (ay + b_y) = true) :
    Calls Tryd.prog 7 #[.int .i64 3, .int .i64 0, .int .i64 ax, .int .i64 ay, .int .i64 bx, .int .i64 b_y] w fun e w' => e = .returned (.bool true) ∧ Below w.heap.size w w' := by
  have S := Tryd.shown_calls w hT
  have N1 := fun (w : World) => Tryd.near_calls ax w
  have N2 := fun (w : World) => Tryd.near_calls ay w
  have N3 := fun (w : World) => Tryd.near_calls bx w
  have N4 := fun (w : World) => Tryd.near_calls b_y w
  have N5 := fun (a : Int) (w : World) (ha : a = ax + bx) => Tryd.near_at a (ax + bx) w ha
  have N6 := fun (a : Int) (w : World) (ha : a = ay + b_y) => Tryd.near_at a (ay + b_y) w ha
  rw [h1] at N1
  rw [h2] at N2
  rw [h3] at N3
  rw [h4] at N4
  rw [h5] at N5
  rw [h6] at N6
  have b1 := fitsB_true h1
  have b2 := fitsB_true h2
  have b3 := fitsB_true h3
  have b4 := fitsB_true h4
  have T := distE_through (kind := 3) (s := 0) (.inr (.inr ⟨.inl rfl, rfl⟩)) h1 h2 h3 h4 h5 h6
  have A9 := distE_most (kind := 3) (s := 0) (x := ax) (y := ay)
  have B9 := distE_most (kind := 3) (s := 0) (x := bx) (y := b_y)
  have A := fun (w : World) => Tryd.Dist_calls 3 0 ax ay w
  have B := fun (w : World) => Tryd.Dist_calls 3 0 bx b_y w
  have C := fun (c d : Int) (w : World) (hc : c = ax + bx) (hd : d = ay + b_y) => Tryd.Dist_at 0 c d 3 0 (ax + bx) (ay + b_y) w rfl hc hd
  obtain ⟨a, e, hz⟩ : ∃ n e, distE 3 0 ax ay = (n, e) := ⟨_, _, rfl⟩
  obtain ⟨b, f, hz2⟩ : ∃ n e, distE 3 0 bx b_y = (n, e) := ⟨_, _, rfl⟩
  obtain ⟨c, g, hz3⟩ : ∃ n e, distE 3 0 (ax + bx) (ay + b_y) = (n, e) := ⟨_, _, rfl⟩
  rw [hz] at A A9 T
  rw [hz2] at B B9 T
  rw [hz3] at C T
  simp only at A B C A9 B9 T
  obtain ⟨rfl, rfl, t3⟩ := T
  have t4 : decide (c ≤ a + b) = true := decide_eq_true t3
  clear hT h1 h2 h3 h4 h5 h6 hz hz2 hz3
  go_enter Tryd.func7, Tryd.ntmps7
  go_wp2_with (first | (go_at_call 18; first | ((with_reducible refine (N1 _).mono ?_); rintro e u1 ⟨rfl, g1⟩; obtain rfl : w = u1 := g1.symm) | ((with_reducible refine (N2 _).mono ?_); rintro e u2 ⟨rfl, g2⟩; obtain rfl : w = u2 := g2.symm) | ((with_reducible refine (N3 _).mono ?_); rintro e u3 ⟨rfl, g3⟩; obtain rfl : w = u3 := g3.symm) | ((with_reducible refine (N4 _).mono ?_); rintro e u4 ⟨rfl, g4⟩; obtain rfl : w = u4 := g4.symm) | ((with_reducible refine (N5 _ _ (by omega)).mono ?_); rintro e u5 ⟨rfl, g5⟩; obtain rfl : w = u5 := g5.symm) | ((with_reducible refine (N6 _ _ (by omega)).mono ?_); rintro e u6 ⟨rfl, g6⟩; obtain rfl : w = u6 := g6.symm)) | (go_at_call 11; (with_reducible refine S.mono ?_); rintro e w1 ⟨rfl, hb⟩))
  clear S N1 N2 N3 N4 N5 N6
  go_wp2_with (go_at_call 9; (with_reducible refine (A _).mono ?_); rintro e v1 ⟨rfl, h1⟩; clear A; replace hb := below_next hb h1 (Nat.le_refl _); clear h1)
  go_wp2_with (go_at_call 9; (with_reducible refine (B _).mono ?_); rintro e v2 ⟨rfl, h1⟩; clear B; replace hb := below_next hb h1 (Nat.le_refl _); clear h1)
  go_wp2_with (go_at_call 9; (with_reducible refine (C _ _ _ (by omega) (by omega)).mono ?_); rintro e v3 ⟨rfl, h1⟩; clear C; replace hb := below_next hb h1 (Nat.le_refl _); clear h1)
  go_ret
  exact ⟨rfl, hb⟩

set_option maxRecDepth 100000 in
set_option maxHeartbeats 4000000 in
theorem Tryd.MetricTriangle_four ( ax ay bx b_y : Int) (w : World) (hT : Words w)
    (h1 : fitsB ax = true) (h2 : fitsB ay = true) (h3 : fitsB bx = true) (h4 : fitsB b_y = true) (h5 : fitsB (ax + bx) = true) (h6 : fitsB (ay + b_y) = true) :
    Calls Tryd.prog 7 #[.int .i64 4, .int .i64 0, .int .i64 ax, .int .i64 ay, .int .i64 bx, .int .i64 b_y] w fun e w' => e = .returned (.bool true) ∧ Below w.heap.size w w' := by
  have S := Tryd.shown_calls w hT
  have N1 := fun (w : World) => Tryd.near_calls ax w
  have N2 := fun (w : World) => Tryd.near_calls ay w
  have N3 := fun (w : World) => Tryd.near_calls bx w
  have N4 := fun (w : World) => Tryd.near_calls b_y w
  have N5 := fun (a : Int) (w : World) (ha : a = ax + bx) => Tryd.near_at a (ax + bx) w ha
  have N6 := fun (a : Int) (w : World) (ha : a = ay + b_y) => Tryd.near_at a (ay + b_y) w ha
  rw [h1] at N1
  rw [h2] at N2
  rw [h3] at N3
  rw [h4] at N4
  rw [h5] at N5
  rw [h6] at N6
  have b1 := fitsB_true h1
  have b2 := fitsB_true h2
  have b3 := fitsB_true h3
  have b4 := fitsB_true h4
  have T := distE_through (kind := 4) (s := 0) (.inr (.inr ⟨.inr rfl, rfl⟩)) h1 h2 h3 h4 h5 h6
  have A9 := distE_most (kind := 4) (s := 0) (x := ax) (y := ay)
  have B9 := distE_most (kind := 4) (s := 0) (x := bx) (y := b_y)
  have A := fun (w : World) => Tryd.Dist_calls 4 0 ax ay w
  have B := fun (w : World) => Tryd.Dist_calls 4 0 bx b_y w
  have C := fun (c d : Int) (w : World) (hc : c = ax + bx) (hd : d = ay + b_y) => Tryd.Dist_at 0 c d 4 0 (ax + bx) (ay + b_y) w rfl hc hd
  obtain ⟨a, e, hz⟩ : ∃ n e, distE 4 0 ax ay = (n, e) := ⟨_, _, rfl⟩
  obtain ⟨b, f, hz2⟩ : ∃ n e, distE 4 0 bx b_y = (n, e) := ⟨_, _, rfl⟩
  obtain ⟨c, g, hz3⟩ : ∃ n e, distE 4 0 (ax + bx) (ay + b_y) = (n, e) := ⟨_, _, rfl⟩
  rw [hz] at A A9 T
  rw [hz2] at B B9 T
  rw [hz3] at C T
  simp only at A B C A9 B9 T
  obtain ⟨rfl, rfl, t3⟩ := T
  have t4 : decide (c ≤ a + b) = true := decide_eq_true t3
  clear hT h1 h2 h3 h4 h5 h6 hz hz2 hz3
  go_enter Tryd.func7, Tryd.ntmps7
  go_wp2_with (first | (go_at_call 18; first | ((with_reducible refine (N1 _).mono ?_); rintro e u1 ⟨rfl, g1⟩; obtain rfl : w = u1 := g1.symm) | ((with_reducible refine (N2 _).mono ?_); rintro e u2 ⟨rfl, g2⟩; obtain rfl : w = u2 := g2.symm) | ((with_reducible refine (N3 _).mono ?_); rintro e u3 ⟨rfl, g3⟩; obtain rfl : w = u3 := g3.symm) | ((with_reducible refine (N4 _).mono ?_); rintro e u4 ⟨rfl, g4⟩; obtain rfl : w = u4 := g4.symm) | ((with_reducible refine (N5 _ _ (by omega)).mono ?_); rintro e u5 ⟨rfl, g5⟩; obtain rfl : w = u5 := g5.symm) | ((with_reducible refine (N6 _ _ (by omega)).mono ?_); rintro e u6 ⟨rfl, g6⟩; obtain rfl : w = u6 := g6.symm)) | (go_at_call 11; (with_reducible refine S.mono ?_); rintro e w1 ⟨rfl, hb⟩))
  clear S N1 N2 N3 N4 N5 N6
  go_wp2_with (go_at_call 9; (with_reducible refine (A _).mono ?_); rintro e v1 ⟨rfl, h1⟩; clear A; replace hb := below_next hb h1 (Nat.le_refl _); clear h1)
  go_wp2_with (go_at_call 9; (with_reducible refine (B _).mono ?_); rintro e v2 ⟨rfl, h1⟩; clear B; replace hb := below_next hb h1 (Nat.le_refl _); clear h1)
  go_wp2_with (go_at_call 9; (with_reducible refine (C _ _ _ (by omega) (by omega)).mono ?_); rintro e v3 ⟨rfl, h1⟩; clear C; replace hb := below_next hb h1 (Nat.le_refl _); clear h1)
  go_ret
  exact ⟨rfl, hb⟩

set_option maxRecDepth 100000 in
set_option maxHeartbeats 4000000 in
theorem Tryd.MetricTriangle_noneThree (scale ax ay bx b_y : Int) (w : World) (hT : Words w) (hs : ¬ scale = 0)
    (h1 : fitsB ax = true) (h2 : fitsB ay = true) (h3 : fitsB bx = true) (h4 : fitsB b_y = true) (h5 : fitsB (ax + bx) = true) (h6 : fitsB (ay + b_y) = true) :
    Calls Tryd.prog 7 #[.int .i64 3, .int .i64 scale, .int .i64 ax, .int .i64 ay, .int .i64 bx, .int .i64 b_y] w fun e w' => e = .returned (.bool true) ∧ Below w.heap.size w w' := by
  have S := Tryd.shown_calls w hT
  have N1 := fun (w : World) => Tryd.near_calls ax w
  have N2 := fun (w : World) => Tryd.near_calls ay w
  have N3 := fun (w : World) => Tryd.near_calls bx w
  have N4 := fun (w : World) => Tryd.near_calls b_y w
  have N5 := fun (a : Int) (w : World) (ha : a = ax + bx) => Tryd.near_at a (ax + bx) w ha
  have N6 := fun (a : Int) (w : World) (ha : a = ay + b_y) => Tryd.near_at a (ay + b_y) w ha
  rw [h1] at N1
  rw [h2] at N2
  rw [h3] at N3
  rw [h4] at N4
  rw [h5] at N5
  rw [h6] at N6
  have b1 := fitsB_true h1
  have b2 := fitsB_true h2
  have b3 := fitsB_true h3
  have b4 := fitsB_true h4
  have c0 : (scale == 0) = false := beq_eq_false_iff_ne.2 hs
  clear hT h1 h2 h3 h4 h5 h6 hs
  go_enter Tryd.func7, Tryd.ntmps7
  go_wp2_with (first | (go_at_call 18; first | ((with_reducible refine (N1 _).mono ?_); rintro e u1 ⟨rfl, g1⟩; obtain rfl : w = u1 := g1.symm) | ((with_reducible refine (N2 _).mono ?_); rintro e u2 ⟨rfl, g2⟩; obtain rfl : w = u2 := g2.symm) | ((with_reducible refine (N3 _).mono ?_); rintro e u3 ⟨rfl, g3⟩; obtain rfl : w = u3 := g3.symm) | ((with_reducible refine (N4 _).mono ?_); rintro e u4 ⟨rfl, g4⟩; obtain rfl : w = u4 := g4.symm) | ((with_reducible refine (N5 _ _ (by omega)).mono ?_); rintro e u5 ⟨rfl, g5⟩; obtain rfl : w = u5 := g5.symm) | ((with_reducible refine (N6 _ _ (by omega)).mono ?_); rintro e u6 ⟨rfl, g6⟩; obtain rfl : w = u6 := g6.symm)) | (go_at_call 11; (with_reducible refine S.mono ?_); rintro e w1 ⟨rfl, hb⟩))
  go_ret
  exact ⟨rfl, hb⟩

set_option maxRecDepth 100000 in
set_option maxHeartbeats 4000000 in
theorem Tryd.MetricTriangle_noneFour (scale ax ay bx b_y : Int) (w : World) (hT : Words w) (hs : ¬ scale = 0)
    (h1 : fitsB ax = true) (h2 : fitsB ay = true) (h3 : fitsB bx = true) (h4 : fitsB b_y = true) (h5 : fitsB (ax + bx) = true) (h6 : fitsB (ay + b_y) = true) :
    Calls Tryd.prog 7 #[.int .i64 4, .int .i64 scale, .int .i64 ax, .int .i64 ay, .int .i64 bx, .int .i64 b_y] w fun e w' => e = .returned (.bool true) ∧ Below w.heap.size w w' := by
  have S := Tryd.shown_calls w hT
  have N1 := fun (w : World) => Tryd.near_calls ax w
  have N2 := fun (w : World) => Tryd.near_calls ay w
  have N3 := fun (w : World) => Tryd.near_calls bx w
  have N4 := fun (w : World) => Tryd.near_calls b_y w
  have N5 := fun (a : Int) (w : World) (ha : a = ax + bx) => Tryd.near_at a (ax + bx) w ha
  have N6 := fun (a : Int) (w : World) (ha : a = ay + b_y) => Tryd.near_at a (ay + b_y) w ha
  rw [h1] at N1
  rw [h2] at N2
  rw [h3] at N3
  rw [h4] at N4
  rw [h5] at N5
  rw [h6] at N6
  have b1 := fitsB_true h1
  have b2 := fitsB_true h2
  have b3 := fitsB_true h3
  have b4 := fitsB_true h4
  have c0 : (scale == 0) = false := beq_eq_false_iff_ne.2 hs
  clear hT h1 h2 h3 h4 h5 h6 hs
  go_enter Tryd.func7, Tryd.ntmps7
  go_wp2_with (first | (go_at_call 18; first | ((with_reducible refine (N1 _).mono ?_); rintro e u1 ⟨rfl, g1⟩; obtain rfl : w = u1 := g1.symm) | ((with_reducible refine (N2 _).mono ?_); rintro e u2 ⟨rfl, g2⟩; obtain rfl : w = u2 := g2.symm) | ((with_reducible refine (N3 _).mono ?_); rintro e u3 ⟨rfl, g3⟩; obtain rfl : w = u3 := g3.symm) | ((with_reducible refine (N4 _).mono ?_); rintro e u4 ⟨rfl, g4⟩; obtain rfl : w = u4 := g4.symm) | ((with_reducible refine (N5 _ _ (by omega)).mono ?_); rintro e u5 ⟨rfl, g5⟩; obtain rfl : w = u5 := g5.symm) | ((with_reducible refine (N6 _ _ (by omega)).mono ?_); rintro e u6 ⟨rfl, g6⟩; obtain rfl : w = u6 := g6.symm)) | (go_at_call 11; (with_reducible refine S.mono ?_); rintro e w1 ⟨rfl, hb⟩))
  go_ret
  exact ⟨rfl, hb⟩

set_option maxRecDepth 100000 in
set_option maxHeartbeats 4000000 in
theorem Tryd.MetricTriangle_none (kind scale ax ay bx b_y : Int) (w : World) (hT : Words w) (k2 : ¬ kind = 2) (k3 : ¬ kind = 3) (k4 : ¬ kind = 4) (k5 : ¬ kind = 5)
    (h1 : fitsB ax = true) (h2 : fitsB ay = true) (h3 : fitsB bx = true) (h4 : fitsB b_y = true) (h5 : fitsB (ax + bx) = true) (h6 : fitsB (ay + b_y) = true) :
    Calls Tryd.prog 7 #[.int .i64 kind, .int .i64 scale, .int .i64 ax, .int .i64 ay, .int .i64 bx, .int .i64 b_y] w fun e w' => e = .returned (.bool true) ∧ Below w.heap.size w w' := by
  have S := Tryd.shown_calls w hT
  have N1 := fun (w : World) => Tryd.near_calls ax w
  have N2 := fun (w : World) => Tryd.near_calls ay w
  have N3 := fun (w : World) => Tryd.near_calls bx w
  have N4 := fun (w : World) => Tryd.near_calls b_y w
  have N5 := fun (a : Int) (w : World) (ha : a = ax + bx) => Tryd.near_at a (ax + bx) w ha
  have N6 := fun (a : Int) (w : World) (ha : a = ay + b_y) => Tryd.near_at a (ay + b_y) w ha
  rw [h1] at N1
  rw [h2] at N2
  rw [h3] at N3
  rw [h4] at N4
  rw [h5] at N5
  rw [h6] at N6
  have b1 := fitsB_true h1
  have b2 := fitsB_true h2
  have b3 := fitsB_true h3
  have b4 := fitsB_true h4
  have c2 : (kind == 2) = false := beq_eq_false_iff_ne.2 k2
  have n2 : (kind != 2) = true := bne_iff_ne.2 k2
  have c3 : (kind == 3) = false := beq_eq_false_iff_ne.2 k3
  have n3 : (kind != 3) = true := bne_iff_ne.2 k3
  have c4 : (kind == 4) = false := beq_eq_false_iff_ne.2 k4
  have n4 : (kind != 4) = true := bne_iff_ne.2 k4
  have c5 : (kind == 5) = false := beq_eq_false_iff_ne.2 k5
  have n5 : (kind != 5) = true := bne_iff_ne.2 k5
  clear hT h1 h2 h3 h4 h5 h6 k2 k3 k4 k5
  go_enter Tryd.func7, Tryd.ntmps7
  go_wp2_with (first | (go_at_call 18; first | ((with_reducible refine (N1 _).mono ?_); rintro e u1 ⟨rfl, g1⟩; obtain rfl : w = u1 := g1.symm) | ((with_reducible refine (N2 _).mono ?_); rintro e u2 ⟨rfl, g2⟩; obtain rfl : w = u2 := g2.symm) | ((with_reducible refine (N3 _).mono ?_); rintro e u3 ⟨rfl, g3⟩; obtain rfl : w = u3 := g3.symm) | ((with_reducible refine (N4 _).mono ?_); rintro e u4 ⟨rfl, g4⟩; obtain rfl : w = u4 := g4.symm) | ((with_reducible refine (N5 _ _ (by omega)).mono ?_); rintro e u5 ⟨rfl, g5⟩; obtain rfl : w = u5 := g5.symm) | ((with_reducible refine (N6 _ _ (by omega)).mono ?_); rintro e u6 ⟨rfl, g6⟩; obtain rfl : w = u6 := g6.symm)) | (go_at_call 11; (with_reducible refine S.mono ?_); rintro e w1 ⟨rfl, hb⟩))
  go_ret
  exact ⟨rfl, hb⟩

theorem Tryd.MetricTriangle_calls (kind scale ax ay bx b_y : Int) (w : World) (hT : Words w) :
    Calls Tryd.prog 7 #[.int .i64 kind, .int .i64 scale, .int .i64 ax, .int .i64 ay, .int .i64 bx, .int .i64 b_y] w fun e w' => e = .returned (.bool true) ∧ Below w.heap.size w w' := by
  by_cases h : fitsB ax = true ∧ fitsB ay = true ∧ fitsB bx = true ∧ fitsB b_y = true ∧ fitsB (ax + bx) = true ∧ fitsB (ay + b_y) = true
  · obtain ⟨h1, h2, h3, h4, h5, h6⟩ := h
    by_cases k2 : kind = 2
    · subst k2; exact Tryd.MetricTriangle_two scale ax ay bx b_y w hT h1 h2 h3 h4 h5 h6
    by_cases k5 : kind = 5
    · subst k5; exact Tryd.MetricTriangle_five scale ax ay bx b_y w hT h1 h2 h3 h4 h5 h6
    by_cases k3 : kind = 3
    · subst k3
      by_cases hs : scale = 0
      · subst hs; exact Tryd.MetricTriangle_three ax ay bx b_y w hT h1 h2 h3 h4 h5 h6
      · exact Tryd.MetricTriangle_noneThree scale ax ay bx b_y w hT hs h1 h2 h3 h4 h5 h6
    by_cases k4 : kind = 4
    · subst k4
      by_cases hs : scale = 0
      · subst hs; exact Tryd.MetricTriangle_four ax ay bx b_y w hT h1 h2 h3 h4 h5 h6
      · exact Tryd.MetricTriangle_noneFour scale ax ay bx b_y w hT hs h1 h2 h3 h4 h5 h6
    exact Tryd.MetricTriangle_none kind scale ax ay bx b_y w hT k2 k3 k4 k5 h1 h2 h3 h4 h5 h6
  · exact Tryd.MetricTriangle_out kind scale ax ay bx b_y w hT h
#print axioms Tryd.MetricTriangle_calls
end Go.Proofs
