/- metric.Dist of this program: the distance, or its error. Conditions: none. -/
import Derived.Test.YtjdifckofgaohaaDoorMetricDist
namespace Go.Metric
/-- metric.Dist: the distance and the error. -/
def distE (kind scale dx dy : Int) : Int × Int :=
  if kind < 1 ∨ 6 < kind ∨ scale < 0 ∨ 6 < scale then (0, 1)
  else if fitsB dx = true ∧ fitsB dy = true then (((dist kind.toNat (10 ^ scale.toNat) dx.natAbs dy.natAbs : Nat) : Int), 0)
  else (0, 2)
theorem distE_arg {kind scale dx dy : Int} (h : kind < 1 ∨ 6 < kind ∨ scale < 0 ∨ 6 < scale) : distE kind scale dx dy = (0, 1) := by unfold distE; rw [if_pos h]
theorem distE_full {kind scale dx dy : Int} (h : ¬ (kind < 1 ∨ 6 < kind ∨ scale < 0 ∨ 6 < scale)) (hf : ¬ (fitsB dx = true ∧ fitsB dy = true)) : distE kind scale dx dy = (0, 2) := by
  unfold distE; rw [if_neg h, if_neg hf]
theorem distE_ok {kind scale dx dy : Int} (h : ¬ (kind < 1 ∨ 6 < kind ∨ scale < 0 ∨ 6 < scale)) (hx : fitsB dx = true) (hy : fitsB dy = true) :
    distE kind scale dx dy = (((dist kind.toNat (10 ^ scale.toNat) dx.natAbs dy.natAbs : Nat) : Int), 0) := by
  unfold distE; rw [if_neg h, if_pos ⟨hx, hy⟩]
theorem pow_pos' (k : Nat) : 1 ≤ 10 ^ k := Nat.pow_pos (by omega)
theorem pow_six {k : Nat} (h : k ≤ 6) : 10 ^ k ≤ 1000000 := Nat.pow_le_pow_right (n := 10) (by omega) h
end Go.Metric
namespace Go.Proofs
open Go.RowKit Go.Shelf Go.Root Go.Metric
attribute [local go_sem] Oper.semAt_some

theorem ret_two {a b : Int} {x : Int × Int} (h : x = (a, b)) : Ending.returned (.tuple #[.int .i64 a, .int .i64 b]) = .returned (.tuple #[.int .i64 x.1, .int .i64 x.2]) := by rw [h]
theorem Boxes.later {w W : World} {b x y t : Nat} (h : Boxes w b x y t) (hn : b + 5 ≤ w.heap.size) (hb : Below w.heap.size w W) : Boxes W b x y t :=
  ⟨h.bx.below hb (by omega), h.bY.below hb (by omega), h.bt.below hb (by omega), h.bd.below hb (by omega)⟩

set_option maxRecDepth 100000 in
set_option maxHeartbeats 1000000 in
theorem Tryd.Dist_arg (kind scale dx dy : Int) (w : World) (h : kind < 1 ∨ 6 < kind ∨ scale < 0 ∨ 6 < scale) :
    Calls Tryd.prog 9 #[.int .i64 kind, .int .i64 scale, .int .i64 dx, .int .i64 dy] w fun e w' => e = .returned (.tuple #[.int .i64 0, .int .i64 1]) ∧ w' = w := by
  have K := fun (w : World) => Tryd.Known_calls kind w
  cases hk : knownB kind with
  | false =>
    rw [hk] at K
    clear h hk
    go_enter Tryd.func9, Tryd.ntmps9
    go_wp2_with (go_at_call 14; (with_reducible refine (K _).mono ?_); rintro e w1 ⟨rfl, hw1⟩; obtain rfl : w = w1 := hw1.symm)
    go_ret2
    exact ⟨rfl, rfl⟩
  | true =>
    rw [hk] at K
    have hkk := knownB_true hk
    clear hk
    by_cases h0 : kind = 0
    · subst h0
      clear h hkk
      go_enter Tryd.func9, Tryd.ntmps9
      go_wp2_with (go_at_call 14; (with_reducible refine (K _).mono ?_); rintro e w1 ⟨rfl, hw1⟩; obtain rfl : w = w1 := hw1.symm)
      go_ret2
      exact ⟨rfl, rfl⟩
    · have c0 : (kind == 0) = false := beq_eq_false_iff_ne.2 h0
      by_cases h1 : scale < 0
      · have c1 : decide (scale < 0) = true := decide_eq_true h1
        clear h hkk h0
        go_enter Tryd.func9, Tryd.ntmps9
        go_wp2_with (go_at_call 14; (with_reducible refine (K _).mono ?_); rintro e w1 ⟨rfl, hw1⟩; obtain rfl : w = w1 := hw1.symm)
        go_ret2
        exact ⟨rfl, rfl⟩
      · have c1 : decide (scale < 0) = false := decide_eq_false h1
        have h2 : 6 < scale := by omega
        have c2 : decide (6 < scale) = true := decide_eq_true h2
        clear h hkk h0
        go_enter Tryd.func9, Tryd.ntmps9
        go_wp2_with (go_at_call 14; (with_reducible refine (K _).mono ?_); rintro e w1 ⟨rfl, hw1⟩; obtain rfl : w = w1 := hw1.symm)
        go_ret2
        exact ⟨rfl, rfl⟩

set_option maxRecDepth 100000 in
set_option maxHeartbeats 1000000 in
theorem Tryd.Dist_full (kind scale dx dy : Int) (w : World) (h : ¬ (kind < 1 ∨ 6 < kind ∨ scale < 0 ∨ 6 < scale)) (hf : ¬ (fitsB dx = true ∧ fitsB dy = true)) :
    Calls Tryd.prog 9 #[.int .i64 kind, .int .i64 scale, .int .i64 dx, .int .i64 dy] w fun e w' => e = .returned (.tuple #[.int .i64 0, .int .i64 2]) ∧ w' = w := by
  have K := fun (w : World) => Tryd.Known_calls kind w
  rw [show knownB kind = true from by simp [knownB]; omega] at K
  have c0 : (kind == 0) = false := beq_eq_false_iff_ne.2 (by omega)
  have c1 : decide (scale < 0) = false := decide_eq_false (by omega)
  have c2 : decide (6 < scale) = false := decide_eq_false (by omega)
  have X := fun (w : World) => Tryd.fits_calls dx w
  have Y := fun (w : World) => Tryd.fits_calls dy w
  cases hx : fitsB dx with
  | false =>
    rw [hx] at X
    clear h hf hx
    go_enter Tryd.func9, Tryd.ntmps9
    go_wp2_with (first
      | (go_at_call 14; (with_reducible refine (K _).mono ?_); rintro e w1 ⟨rfl, hw1⟩; obtain rfl : w = w1 := hw1.symm)
      | (go_at_call 19; (with_reducible refine (X _).mono ?_); rintro e w2 ⟨rfl, hw2⟩; obtain rfl : w = w2 := hw2.symm))
    go_ret2
    exact ⟨rfl, rfl⟩
  | true =>
    have hy : fitsB dy = false := by cases hy : fitsB dy with | false => rfl | true => exact absurd ⟨hx, hy⟩ hf
    rw [hx] at X
    rw [hy] at Y
    clear h hf hx hy
    go_enter Tryd.func9, Tryd.ntmps9
    go_wp2_with (go_at_call 14; (with_reducible refine (K _).mono ?_); rintro e w1 ⟨rfl, hw1⟩; obtain rfl : w = w1 := hw1.symm)
    go_wp2_with (go_at_call 19; first
      | ((with_reducible refine (X _).mono ?_); rintro e w2 ⟨rfl, hw2⟩; obtain rfl : w = w2 := hw2.symm)
      | ((with_reducible refine (Y _).mono ?_); rintro e w3 ⟨rfl, hw3⟩; obtain rfl : w = w3 := hw3.symm))
    go_ret2
    exact ⟨rfl, rfl⟩

set_option maxRecDepth 100000 in
set_option maxHeartbeats 1000000 in
theorem Tryd.Dist_ok1 (k : Nat) (dx dy : Int) (w : World) (hk : k ≤ 6) (hx : fitsB dx = true) (hy : fitsB dy = true) :
    Calls Tryd.prog 9 #[.int .i64 1, .int .i64 (k : Int), .int .i64 dx, .int .i64 dy] w fun e w' => e = .returned (.tuple #[.int .i64 (dist 1 (10 ^ k) dx.natAbs dy.natAbs : Nat), .int .i64 0]) ∧ Below w.heap.size w w' := by
  have K := fun (w : World) => Tryd.Known_calls 1 w
  rw [show knownB 1 = true from by decide] at K
  have c1 : decide ((k : Int) < 0) = false := decide_eq_false (by omega)
  have c2 : decide (6 < (k : Int)) = false := decide_eq_false (by omega)
  have X := fun (w : World) => Tryd.fits_calls dx w
  have Y := fun (w : World) => Tryd.fits_calls dy w
  rw [hx] at X
  rw [hy] at Y
  have bx := fitsB_true hx
  have bY := fitsB_true hy
  have SX := fun (w : World) => Tryd.size_calls dx w bx.1 bx.2
  have SY := fun (w : World) => Tryd.size_calls dy w bY.1 bY.2
  have P := fun (w : World) => Tryd.power_calls k w hk
  have x9 := fitsB_abs hx
  have y9 := fitsB_abs hy
  have t1 := pow_pos' k
  have t9 := pow_six hk
  generalize dx.natAbs = x at SX x9
  generalize dy.natAbs = y at SY y9
  generalize 10 ^ k = t at P t1 t9
  have D := fun (w : World) => Tryd.distances_calls x y t w x9 y9
  simp only [Tryd.tabV, ptr] at D
  have W := fun (b : Nat) (W : World) (hB : Boxes W b x y t) => Tryd.way1 b x y t W hB x9 y9 t1 t9
  generalize dist 1 t x y = n at W
  simp only [ptr] at W
  clear hx hy bx bY x9 y9 t1 t9 hk
  go_enter Tryd.func9, Tryd.ntmps9
  go_wp2_with (go_at_call 14; (with_reducible refine (K _).mono ?_); rintro e w1 ⟨rfl, hw1⟩; obtain rfl : w = w1 := hw1.symm)
  go_wp2_with (go_at_call 19; first
    | ((with_reducible refine (X _).mono ?_); rintro e w2 ⟨rfl, hw2⟩; obtain rfl : w = w2 := hw2.symm)
    | ((with_reducible refine (Y _).mono ?_); rintro e w3 ⟨rfl, hw3⟩; obtain rfl : w = w3 := hw3.symm))
  go_wp2_with (go_at_call 21; first
    | ((with_reducible refine (SX _).mono ?_); rintro e w4 ⟨rfl, hw4⟩; obtain rfl : w = w4 := hw4.symm)
    | ((with_reducible refine (SY _).mono ?_); rintro e w5 ⟨rfl, hw5⟩; obtain rfl : w = w5 := hw5.symm))
  go_wp2_with (go_at_call 22; (with_reducible refine (P _).mono ?_); rintro e w6 ⟨rfl, hw6⟩; obtain rfl : w = w6 := hw6.symm)
  go_wp2_with (go_at_call 20; (with_reducible refine (D _).mono ?_); rintro e w7 ⟨rfl, hb7, hB7, hs7⟩)
  have hB8 := fun (o : Obj) => hB7.later (Nat.le_of_eq hs7.symm) ((Below.refl _ w7).alloc (Nat.le_refl _) o)
  go_wp2_with (fail)
  refine (W _ _ (hB8 _)).mono ?_
  rintro e w8 ⟨rfl, hb8⟩
  go_wp2
  go_ret2
  exact ⟨rfl, hb7.trans ((((Below.refl _ _).alloc (Nat.le_refl _) _).trans (hb8.mono (by simp))).mono (by omega))⟩

set_option maxRecDepth 100000 in
set_option maxHeartbeats 1000000 in
theorem Tryd.Dist_ok2 (k : Nat) (dx dy : Int) (w : World) (hk : k ≤ 6) (hx : fitsB dx = true) (hy : fitsB dy = true) :
    Calls Tryd.prog 9 #[.int .i64 2, .int .i64 (k : Int), .int .i64 dx, .int .i64 dy] w fun e w' => e = .returned (.tuple #[.int .i64 (dist 2 (10 ^ k) dx.natAbs dy.natAbs : Nat), .int .i64 0]) ∧ Below w.heap.size w w' := by
  have K := fun (w : World) => Tryd.Known_calls 2 w
  rw [show knownB 2 = true from by decide] at K
  have c1 : decide ((k : Int) < 0) = false := decide_eq_false (by omega)
  have c2 : decide (6 < (k : Int)) = false := decide_eq_false (by omega)
  have X := fun (w : World) => Tryd.fits_calls dx w
  have Y := fun (w : World) => Tryd.fits_calls dy w
  rw [hx] at X
  rw [hy] at Y
  have bx := fitsB_true hx
  have bY := fitsB_true hy
  have SX := fun (w : World) => Tryd.size_calls dx w bx.1 bx.2
  have SY := fun (w : World) => Tryd.size_calls dy w bY.1 bY.2
  have P := fun (w : World) => Tryd.power_calls k w hk
  have x9 := fitsB_abs hx
  have y9 := fitsB_abs hy
  have t1 := pow_pos' k
  have t9 := pow_six hk
  generalize dx.natAbs = x at SX x9
  generalize dy.natAbs = y at SY y9
  generalize 10 ^ k = t at P t1 t9
  have D := fun (w : World) => Tryd.distances_calls x y t w x9 y9
  simp only [Tryd.tabV, ptr] at D
  have W := fun (b : Nat) (W : World) (hB : Boxes W b x y t) => Tryd.way2 b x y t W hB x9 y9 t1 t9
  generalize dist 2 t x y = n at W
  simp only [ptr] at W
  clear hx hy bx bY x9 y9 t1 t9 hk
  go_enter Tryd.func9, Tryd.ntmps9
  go_wp2_with (go_at_call 14; (with_reducible refine (K _).mono ?_); rintro e w1 ⟨rfl, hw1⟩; obtain rfl : w = w1 := hw1.symm)
  go_wp2_with (go_at_call 19; first
    | ((with_reducible refine (X _).mono ?_); rintro e w2 ⟨rfl, hw2⟩; obtain rfl : w = w2 := hw2.symm)
    | ((with_reducible refine (Y _).mono ?_); rintro e w3 ⟨rfl, hw3⟩; obtain rfl : w = w3 := hw3.symm))
  go_wp2_with (go_at_call 21; first
    | ((with_reducible refine (SX _).mono ?_); rintro e w4 ⟨rfl, hw4⟩; obtain rfl : w = w4 := hw4.symm)
    | ((with_reducible refine (SY _).mono ?_); rintro e w5 ⟨rfl, hw5⟩; obtain rfl : w = w5 := hw5.symm))
  go_wp2_with (go_at_call 22; (with_reducible refine (P _).mono ?_); rintro e w6 ⟨rfl, hw6⟩; obtain rfl : w = w6 := hw6.symm)
  go_wp2_with (go_at_call 20; (with_reducible refine (D _).mono ?_); rintro e w7 ⟨rfl, hb7, hB7, hs7⟩)
  have hB8 := fun (o : Obj) => hB7.later (Nat.le_of_eq hs7.symm) ((Below.refl _ w7).alloc (Nat.le_refl _) o)
  go_wp2_with (fail)
  refine (W _ _ (hB8 _)).mono ?_
  rintro e w8 ⟨rfl, hb8⟩
  go_wp2
  go_ret2
  exact ⟨rfl, hb7.trans ((((Below.refl _ _).alloc (Nat.le_refl _) _).trans (hb8.mono (by simp))).mono (by omega))⟩

set_option maxRecDepth 100000 in
set_option maxHeartbeats 1000000 in
theorem Tryd.Dist_ok3 (k : Nat) (dx dy : Int) (w : World) (hk : k ≤ 6) (hx : fitsB dx = true) (hy : fitsB dy = true) :
    Calls Tryd.prog 9 #[.int .i64 3, .int .i64 (k : Int), .int .i64 dx, .int .i64 dy] w fun e w' => e = .returned (.tuple #[.int .i64 (dist 3 (10 ^ k) dx.natAbs dy.natAbs : Nat), .int .i64 0]) ∧ Below w.heap.size w w' := by
  have K := fun (w : World) => Tryd.Known_calls 3 w
  rw [show knownB 3 = true from by decide] at K
  have c1 : decide ((k : Int) < 0) = false := decide_eq_false (by omega)
  have c2 : decide (6 < (k : Int)) = false := decide_eq_false (by omega)
  have X := fun (w : World) => Tryd.fits_calls dx w
  have Y := fun (w : World) => Tryd.fits_calls dy w
  rw [hx] at X
  rw [hy] at Y
  have bx := fitsB_true hx
  have bY := fitsB_true hy
  have SX := fun (w : World) => Tryd.size_calls dx w bx.1 bx.2
  have SY := fun (w : World) => Tryd.size_calls dy w bY.1 bY.2
  have P := fun (w : World) => Tryd.power_calls k w hk
  have x9 := fitsB_abs hx
  have y9 := fitsB_abs hy
  have t1 := pow_pos' k
  have t9 := pow_six hk
  generalize dx.natAbs = x at SX x9
  generalize dy.natAbs = y at SY y9
  generalize 10 ^ k = t at P t1 t9
  have D := fun (w : World) => Tryd.distances_calls x y t w x9 y9
  simp only [Tryd.tabV, ptr] at D
  have W := fun (b : Nat) (W : World) (hB : Boxes W b x y t) => Tryd.way3 b x y t W hB x9 y9 t1 t9
  generalize dist 3 t x y = n at W
  simp only [ptr] at W
  clear hx hy bx bY x9 y9 t1 t9 hk
  go_enter Tryd.func9, Tryd.ntmps9
  go_wp2_with (go_at_call 14; (with_reducible refine (K _).mono ?_); rintro e w1 ⟨rfl, hw1⟩; obtain rfl : w = w1 := hw1.symm)
  go_wp2_with (go_at_call 19; first
    | ((with_reducible refine (X _).mono ?_); rintro e w2 ⟨rfl, hw2⟩; obtain rfl : w = w2 := hw2.symm)
    | ((with_reducible refine (Y _).mono ?_); rintro e w3 ⟨rfl, hw3⟩; obtain rfl : w = w3 := hw3.symm))
  go_wp2_with (go_at_call 21; first
    | ((with_reducible refine (SX _).mono ?_); rintro e w4 ⟨rfl, hw4⟩; obtain rfl : w = w4 := hw4.symm)
    | ((with_reducible refine (SY _).mono ?_); rintro e w5 ⟨rfl, hw5⟩; obtain rfl : w = w5 := hw5.symm))
  go_wp2_with (go_at_call 22; (with_reducible refine (P _).mono ?_); rintro e w6 ⟨rfl, hw6⟩; obtain rfl : w = w6 := hw6.symm)
  go_wp2_with (go_at_call 20; (with_reducible refine (D _).mono ?_); rintro e w7 ⟨rfl, hb7, hB7, hs7⟩)
  have hB8 := fun (o : Obj) => hB7.later (Nat.le_of_eq hs7.symm) ((Below.refl _ w7).alloc (Nat.le_refl _) o)
  go_wp2_with (fail)
  refine (W _ _ (hB8 _)).mono ?_
  rintro e w8 ⟨rfl, hb8⟩
  go_wp2
  go_ret2
  exact ⟨rfl, hb7.trans ((((Below.refl _ _).alloc (Nat.le_refl _) _).trans (hb8.mono (by simp))).mono (by omega))⟩

set_option maxRecDepth 100000 in
set_option maxHeartbeats 1000000 in
theorem Tryd.Dist_ok4 (k : Nat) (dx dy : Int) (w : World) (hk : k ≤ 6) (hx : fitsB dx = true) (hy : fitsB dy = true) :
    Calls Tryd.prog 9 #[.int .i64 4, .int .i64 (k : Int), .int .i64 dx, .int .i64 dy] w fun e w' => e = .returned (.tuple #[.int .i64 (dist 4 (10 ^ k) dx.natAbs dy.natAbs : Nat), .int .i64 0]) ∧ Below w.heap.size w w' := by
  have K := fun (w : World) => Tryd.Known_calls 4 w
  rw [show knownB 4 = true from by decide] at K
  have c1 : decide ((k : Int) < 0) = false := decide_eq_false (by omega)
  have c2 : decide (6 < (k : Int)) = false := decide_eq_false (by omega)
  have X := fun (w : World) => Tryd.fits_calls dx w
  have Y := fun (w : World) => Tryd.fits_calls dy w
  rw [hx] at X
  rw [hy] at Y
  have bx := fitsB_true hx
  have bY := fitsB_true hy
  have SX := fun (w : World) => Tryd.size_calls dx w bx.1 bx.2
  have SY := fun (w : World) => Tryd.size_calls dy w bY.1 bY.2
  have P := fun (w : World) => Tryd.power_calls k w hk
  have x9 := fitsB_abs hx
  have y9 := fitsB_abs hy
  have t1 := pow_pos' k
  have t9 := pow_six hk
  generalize dx.natAbs = x at SX x9
  generalize dy.natAbs = y at SY y9
  generalize 10 ^ k = t at P t1 t9
  have D := fun (w : World) => Tryd.distances_calls x y t w x9 y9
  simp only [Tryd.tabV, ptr] at D
  have W := fun (b : Nat) (W : World) (hB : Boxes W b x y t) => Tryd.way4 b x y t W hB x9 y9 t1 t9
  generalize dist 4 t x y = n at W
  simp only [ptr] at W
  clear hx hy bx bY x9 y9 t1 t9 hk
  go_enter Tryd.func9, Tryd.ntmps9
  go_wp2_with (go_at_call 14; (with_reducible refine (K _).mono ?_); rintro e w1 ⟨rfl, hw1⟩; obtain rfl : w = w1 := hw1.symm)
  go_wp2_with (go_at_call 19; first
    | ((with_reducible refine (X _).mono ?_); rintro e w2 ⟨rfl, hw2⟩; obtain rfl : w = w2 := hw2.symm)
    | ((with_reducible refine (Y _).mono ?_); rintro e w3 ⟨rfl, hw3⟩; obtain rfl : w = w3 := hw3.symm))
  go_wp2_with (go_at_call 21; first
    | ((with_reducible refine (SX _).mono ?_); rintro e w4 ⟨rfl, hw4⟩; obtain rfl : w = w4 := hw4.symm)
    | ((with_reducible refine (SY _).mono ?_); rintro e w5 ⟨rfl, hw5⟩; obtain rfl : w = w5 := hw5.symm))
  go_wp2_with (go_at_call 22; (with_reducible refine (P _).mono ?_); rintro e w6 ⟨rfl, hw6⟩; obtain rfl : w = w6 := hw6.symm)
  go_wp2_with (go_at_call 20; (with_reducible refine (D _).mono ?_); rintro e w7 ⟨rfl, hb7, hB7, hs7⟩)
  have hB8 := fun (o : Obj) => hB7.later (Nat.le_of_eq hs7.symm) ((Below.refl _ w7).alloc (Nat.le_refl _) o)
  go_wp2_with (fail)
  refine (W _ _ (hB8 _)).mono ?_
  rintro e w8 ⟨rfl, hb8⟩
  go_wp2
  go_ret2
  exact ⟨rfl, hb7.trans ((((Below.refl _ _).alloc (Nat.le_refl _) _).trans (hb8.mono (by simp))).mono (by omega))⟩

set_option maxRecDepth 100000 in
set_option maxHeartbeats 1000000 in
theorem Tryd.Dist_ok5 (k : Nat) (dx dy : Int) (w : World) (hk : k ≤ 6) (hx : fitsB dx = true) (hy : fitsB dy = true) :
    Calls Tryd.prog 9 #[.int .i64 5, .int .i64 (k : Int), .int .i64 dx, .int .i64 dy] w fun e w' => e = .returned (.tuple #[.int .i64 (dist 5 (10 ^ k) dx.natAbs dy.natAbs : Nat), .int .i64 0]) ∧ Below w.heap.size w w' := by
  have K := fun (w : World) => Tryd.Known_calls 5 w
  rw [show knownB 5 = true from by decide] at K
  have c1 : decide ((k : Int) < 0) = false := decide_eq_false (by omega)
  have c2 : decide (6 < (k : Int)) = false := decide_eq_false (by omega)
  have X := fun (w : World) => Tryd.fits_calls dx w
  have Y := fun (w : World) => Tryd.fits_calls dy w
  rw [hx] at X
  rw [hy] at Y
  have bx := fitsB_true hx
  have bY := fitsB_true hy
  have SX := fun (w : World) => Tryd.size_calls dx w bx.1 bx.2
  have SY := fun (w : World) => Tryd.size_calls dy w bY.1 bY.2
  have P := fun (w : World) => Tryd.power_calls k w hk
  have x9 := fitsB_abs hx
  have y9 := fitsB_abs hy
  have t1 := pow_pos' k
  have t9 := pow_six hk
  generalize dx.natAbs = x at SX x9
  generalize dy.natAbs = y at SY y9
  generalize 10 ^ k = t at P t1 t9
  have D := fun (w : World) => Tryd.distances_calls x y t w x9 y9
  simp only [Tryd.tabV, ptr] at D
  have W := fun (b : Nat) (W : World) (hB : Boxes W b x y t) => Tryd.way5 b x y t W hB x9 y9 t1 t9
  generalize dist 5 t x y = n at W
  simp only [ptr] at W
  clear hx hy bx bY x9 y9 t1 t9 hk
  go_enter Tryd.func9, Tryd.ntmps9
  go_wp2_with (go_at_call 14; (with_reducible refine (K _).mono ?_); rintro e w1 ⟨rfl, hw1⟩; obtain rfl : w = w1 := hw1.symm)
  go_wp2_with (go_at_call 19; first
    | ((with_reducible refine (X _).mono ?_); rintro e w2 ⟨rfl, hw2⟩; obtain rfl : w = w2 := hw2.symm)
    | ((with_reducible refine (Y _).mono ?_); rintro e w3 ⟨rfl, hw3⟩; obtain rfl : w = w3 := hw3.symm))
  go_wp2_with (go_at_call 21; first
    | ((with_reducible refine (SX _).mono ?_); rintro e w4 ⟨rfl, hw4⟩; obtain rfl : w = w4 := hw4.symm)
    | ((with_reducible refine (SY _).mono ?_); rintro e w5 ⟨rfl, hw5⟩; obtain rfl : w = w5 := hw5.symm))
  go_wp2_with (go_at_call 22; (with_reducible refine (P _).mono ?_); rintro e w6 ⟨rfl, hw6⟩; obtain rfl : w = w6 := hw6.symm)
  go_wp2_with (go_at_call 20; (with_reducible refine (D _).mono ?_); rintro e w7 ⟨rfl, hb7, hB7, hs7⟩)
  have hB8 := fun (o : Obj) => hB7.later (Nat.le_of_eq hs7.symm) ((Below.refl _ w7).alloc (Nat.le_refl _) o)
  go_wp2_with (fail)
  refine (W _ _ (hB8 _)).mono ?_
  rintro e w8 ⟨rfl, hb8⟩
  go_wp2
  go_ret2
  exact ⟨rfl, hb7.trans ((((Below.refl _ _).alloc (Nat.le_refl _) _).trans (hb8.mono (by simp))).mono (by omega))⟩

set_option maxRecDepth 100000 in
set_option maxHeartbeats 1000000 in
theorem Tryd.Dist_ok6 (k : Nat) (dx dy : Int) (w : World) (hk : k ≤ 6) (hx : fitsB dx = true) (hy : fitsB dy = true) :
    Calls Tryd.prog 9 #[.int .i64 6, .int .i64 (k : Int), .int .i64 dx, .int .i64 dy] w fun e w' => e = .returned (.tuple #[.int .i64 (dist 6 (10 ^ k) dx.natAbs dy.natAbs : Nat), .int .i64 0]) ∧ Below w.heap.size w w' := by
  have K := fun (w : World) => Tryd.Known_calls 6 w
  rw [show knownB 6 = true from by decide] at K
  have c1 : decide ((k : Int) < 0) = false := decide_eq_false (by omega)
  have c2 : decide (6 < (k : Int)) = false := decide_eq_false (by omega)
  have X := fun (w : World) => Tryd.fits_calls dx w
  have Y := fun (w : World) => Tryd.fits_calls dy w
  rw [hx] at X
  rw [hy] at Y
  have bx := fitsB_true hx
  have bY := fitsB_true hy
  have SX := fun (w : World) => Tryd.size_calls dx w bx.1 bx.2
  have SY := fun (w : World) => Tryd.size_calls dy w bY.1 bY.2
  have P := fun (w : World) => Tryd.power_calls k w hk
  have x9 := fitsB_abs hx
  have y9 := fitsB_abs hy
  have t1 := pow_pos' k
  have t9 := pow_six hk
  generalize dx.natAbs = x at SX x9
  generalize dy.natAbs = y at SY y9
  generalize 10 ^ k = t at P t1 t9
  have D := fun (w : World) => Tryd.distances_calls x y t w x9 y9
  simp only [Tryd.tabV, ptr] at D
  have W := fun (b : Nat) (W : World) (hB : Boxes W b x y t) => Tryd.way6 b x y t W hB x9 y9 t1 t9
  generalize dist 6 t x y = n at W
  simp only [ptr] at W
  clear hx hy bx bY x9 y9 t1 t9 hk
  go_enter Tryd.func9, Tryd.ntmps9
  go_wp2_with (go_at_call 14; (with_reducible refine (K _).mono ?_); rintro e w1 ⟨rfl, hw1⟩; obtain rfl : w = w1 := hw1.symm)
  go_wp2_with (go_at_call 19; first
    | ((with_reducible refine (X _).mono ?_); rintro e w2 ⟨rfl, hw2⟩; obtain rfl : w = w2 := hw2.symm)
    | ((with_reducible refine (Y _).mono ?_); rintro e w3 ⟨rfl, hw3⟩; obtain rfl : w = w3 := hw3.symm))
  go_wp2_with (go_at_call 21; first
    | ((with_reducible refine (SX _).mono ?_); rintro e w4 ⟨rfl, hw4⟩; obtain rfl : w = w4 := hw4.symm)
    | ((with_reducible refine (SY _).mono ?_); rintro e w5 ⟨rfl, hw5⟩; obtain rfl : w = w5 := hw5.symm))
  go_wp2_with (go_at_call 22; (with_reducible refine (P _).mono ?_); rintro e w6 ⟨rfl, hw6⟩; obtain rfl : w = w6 := hw6.symm)
  go_wp2_with (go_at_call 20; (with_reducible refine (D _).mono ?_); rintro e w7 ⟨rfl, hb7, hB7, hs7⟩)
  have hB8 := fun (o : Obj) => hB7.later (Nat.le_of_eq hs7.symm) ((Below.refl _ w7).alloc (Nat.le_refl _) o)
  go_wp2_with (fail)
  refine (W _ _ (hB8 _)).mono ?_
  rintro e w8 ⟨rfl, hb8⟩
  go_wp2
  go_ret2
  exact ⟨rfl, hb7.trans ((((Below.refl _ _).alloc (Nat.le_refl _) _).trans (hb8.mono (by simp))).mono (by omega))⟩

theorem Tryd.Dist_calls (kind scale dx dy : Int) (w : World) :
    Calls Tryd.prog 9 #[.int .i64 kind, .int .i64 scale, .int .i64 dx, .int .i64 dy] w fun e w' => e = .returned (.tuple #[.int .i64 (distE kind scale dx dy).1, .int .i64 (distE kind scale dx dy).2]) ∧ Below w.heap.size w w' := by
  by_cases h : kind < 1 ∨ 6 < kind ∨ scale < 0 ∨ 6 < scale
  · rw [distE_arg h]
    exact (Tryd.Dist_arg kind scale dx dy w h).mono fun e w' ⟨h1, h2⟩ => ⟨h1, h2 ▸ Below.refl _ _⟩
  · by_cases hf : fitsB dx = true ∧ fitsB dy = true
    · obtain ⟨hx, hy⟩ := hf
      rw [distE_ok h hx hy]
      obtain ⟨k, rfl⟩ := nat_of (show 0 ≤ scale by omega)
      have hk : k ≤ 6 := by omega
      rcases (show kind = 1 ∨ kind = 2 ∨ kind = 3 ∨ kind = 4 ∨ kind = 5 ∨ kind = 6 by omega) with rfl | rfl | rfl | rfl | rfl | rfl
      · exact Tryd.Dist_ok1 k dx dy w hk hx hy
      · exact Tryd.Dist_ok2 k dx dy w hk hx hy
      · exact Tryd.Dist_ok3 k dx dy w hk hx hy
      · exact Tryd.Dist_ok4 k dx dy w hk hx hy
      · exact Tryd.Dist_ok5 k dx dy w hk hx hy
      · exact Tryd.Dist_ok6 k dx dy w hk hx hy
    · rw [distE_full h hf]
      exact (Tryd.Dist_full kind scale dx dy w h hf).mono fun e w' ⟨h1, h2⟩ => ⟨h1, h2 ▸ Below.refl _ _⟩
/-- The same, at numbers however they are told. -/
theorem Tryd.Dist_at (b c d : Int) (kind scale dx dy : Int) (w : World) (hb : b = scale) (hc : c = dx) (hd : d = dy) :
    Calls Tryd.prog 9 #[.int .i64 kind, .int .i64 b, .int .i64 c, .int .i64 d] w fun e w' => e = .returned (.tuple #[.int .i64 (distE kind scale dx dy).1, .int .i64 (distE kind scale dx dy).2]) ∧ Below w.heap.size w w' := by
  subst hb; subst hc; subst hd; exact Tryd.Dist_calls kind b c d w
#print axioms Tryd.Dist_calls
end Go.Proofs
