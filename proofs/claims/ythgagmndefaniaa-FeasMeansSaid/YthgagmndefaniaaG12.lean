/- metric.Dist of this program: the distance, or its error. Conditions: none. -/
import Derived.Test.YthgagmndefaniaaG11
namespace Go.Metric
/-- metric.Dist: the distance and the error. -/
def distE (kind scale dx dy : Int) : Int × Int :=
  if kind < 1 ∨ 6 < kind ∨ scale < 0 ∨ 6 < scale then (0, 1)
  else if fitsB dx = true ∧ fitsB dy = true then (((dist kind.toNat (10 ^ scale.toNat) dx.natAbs dy.natAbs : Nat) : Int), 0)
  else (0, 2)
theorem distE_arg {kind scale dx dy : Int} (h : kind < 1 ∨ 6 < kind ∨ scale < 0 ∨ 6 < scale) : distE kind scale dx dy = (0, 1) := by unfold distE; rw [if_pos h]
theorem distE_full {kind scale dx dy : Int} (h : ¬ (kind < 1 ∨ 6 < kind ∨ scale < 0 ∨ 6 < scale)) (hf : ¬ (fitsB dx = true ∧ fitsB dy = true)) : distE kind scale dx dy = (0, 2) := by
  unfold distE; rw [if_neg h, if_neg hf]
theorem distE_ok {kind scale dx dy : Int} (h : ¬ (kind < 1 ∨ 6 < kind ∨ scale < 0 ∨ 6 < scale)) (hx : fitsB dx = true) (hy : fitsB dy = true) :
    distE kind scale dx dy = (((dist kind.toNat (10 ^ scale.toNat) dx.natAbs dy.natAbs : Nat) : Int), 0) := by
  unfold distE; rw [if_neg h, if_pos ⟨hx, hy⟩]
theorem pow_pos' (k : Nat) : 1 ≤ 10 ^ k := Nat.pow_pos (by omega)
theorem pow_six {k : Nat} (h : k ≤ 6) : 10 ^ k ≤ 1000000 := Nat.pow_le_pow_right (n := 10) (by omega) h
end Go.Metric
namespace Go.Proofs
open Go.RowKit Go.Shelf Go.Root Go.Metric
attribute [local go_sem] Oper.semAt_some

theorem mret_two {a b : Int} {x : Int × Int} (h : x = (a, b)) : Ending.returned (.tuple #[.int .i64 a, .int .i64 b]) = .returned (.tuple #[.int .i64 x.1, .int .i64 x.2]) := by rw [h]
theorem Boxes.later {w W : World} {b x y t : Nat} (h : Boxes w b x y t) (hn : b + 5 ≤ w.heap.size) (hb : Below w.heap.size w W) : Boxes W b x y t :=
  ⟨h.bx.below hb (by omega), h.bY.below hb (by omega), h.bt.below hb (by omega), h.bd.below hb (by omega)⟩

set_option maxRecDepth 100000 in
set_option maxHeartbeats 1000000 in
theorem Try.Dist_arg (kind scale dx dy : Int) (w : World) (h : kind < 1 ∨ 6 < kind ∨ scale < 0 ∨ 6 < scale) :
    Calls Try.prog 61 #[.int .i64 kind, .int .i64 scale, .int .i64 dx, .int .i64 dy] w fun e w' => e = .returned (.tuple #[.int .i64 0, .int .i64 1]) ∧ w' = w := by
  have K := fun (w : World) => Try.Known_calls kind w
  cases hk : knownB kind with
  | false =>
    rw [hk] at K
    clear h hk
    go_enter Try.func61, Try.ntmps61
    go_wp2_with (go_at_call 74; (with_reducible refine (K _).mono ?_); rintro e w1 ⟨rfl, hw1⟩; obtain rfl : w = w1 := hw1.symm)
    go_ret2
    exact ⟨rfl, rfl⟩
  | true =>
    rw [hk] at K
    have hkk := knownB_true hk
    clear hk
    by_cases h0 : kind = 0
    · subst h0
      clear h hkk
      go_enter Try.func61, Try.ntmps61
      go_wp2_with (go_at_call 74; (with_reducible refine (K _).mono ?_); rintro e w1 ⟨rfl, hw1⟩; obtain rfl : w = w1 := hw1.symm)
      go_ret2
      exact ⟨rfl, rfl⟩
    · have c0 : (kind == 0) = false := beq_eq_false_iff_ne.2 h0
      by_cases h1 : scale < 0
      · have c1 : decide (scale < 0) = true := decide_eq_true h1
        clear h hkk h0
        go_enter Try.func61, Try.ntmps61
        go_wp2_with (go_at_call 74; (with_reducible refine (K _).mono ?_); rintro e w1 ⟨rfl, hw1⟩; obtain rfl : w = w1 := hw1.symm)
        go_ret2
        exact ⟨rfl, rfl⟩
      · have c1 : decide (scale < 0) = false := decide_eq_false h1
        have h2 : 6 < scale := by omega
        have c2 : decide (6 < scale) = true := decide_eq_true h2
        clear h hkk h0
        go_enter Try.func61, Try.ntmps61
        go_wp2_with (go_at_call 74; (with_reducible refine (K _).mono ?_); rintro e w1 ⟨rfl, hw1⟩; obtain rfl : w = w1 := hw1.symm)
        go_ret2
        exact ⟨rfl, rfl⟩

set_option maxRecDepth 100000 in
set_option maxHeartbeats 1000000 in
theorem Try.Dist_full (kind scale dx dy : Int) (w : World) (h : ¬ (kind < 1 ∨ 6 < kind ∨ scale < 0 ∨ 6 < scale)) (hf : ¬ (fitsB dx = true ∧ fitsB dy = true)) :
    Calls Try.prog 61 #[.int .i64 kind, .int .i64 scale, .int .i64 dx, .int .i64 dy] w fun e w' => e = .returned (.tuple #[.int .i64 0, .int .i64 2]) ∧ w' = w := by
  have K := fun (w : World) => Try.Known_calls kind w
  rw [show knownB kind = true from by simp [knownB]; omega] at K
  have c0 : (kind == 0) = false := beq_eq_false_iff_ne.2 (by omega)
  have c1 : decide (scale < 0) = false := decide_eq_false (by omega)
  have c2 : decide (6 < scale) = false := decide_eq_false (by omega)
  have X := fun (w : World) => Try.mfits_calls dx w
  have Y := fun (w : World) => Try.mfits_calls dy w
  cases hx : fitsB dx with
  | false =>
    rw [hx] at X
    clear h hf hx
    go_enter Try.func61, Try.ntmps61
    go_wp2_with (first
      | (go_at_call 74; (with_reducible refine (K _).mono ?_); rintro e w1 ⟨rfl, hw1⟩; obtain rfl : w = w1 := hw1.symm)
      | (go_at_call 75; (with_reducible refine (X _).mono ?_); rintro e w2 ⟨rfl, hw2⟩; obtain rfl : w = w2 := hw2.symm))
    go_ret2
    exact ⟨rfl, rfl⟩
  | true =>
    have hy : fitsB dy = false := by cases hy : fitsB dy with | false => rfl | true => exact absurd ⟨hx, hy⟩ hf
    rw [hx] at X
    rw [hy] at Y
    clear h hf hx hy
    go_enter Try.func61, Try.ntmps61
    go_wp2_with (go_at_call 74; (with_reducible refine (K _).mono ?_); rintro e w1 ⟨rfl, hw1⟩; obtain rfl : w = w1 := hw1.symm)
    go_wp2_with (go_at_call 75; first
      | ((with_reducible refine (X _).mono ?_); rintro e w2 ⟨rfl, hw2⟩; obtain rfl : w = w2 := hw2.symm)
      | ((with_reducible refine (Y _).mono ?_); rintro e w3 ⟨rfl, hw3⟩; obtain rfl : w = w3 := hw3.symm))
    go_ret2
    exact ⟨rfl, rfl⟩

set_option maxRecDepth 100000 in
set_option maxHeartbeats 1000000 in
theorem Try.Dist_ok1 (k : Nat) (dx dy : Int) (w : World) (hk : k ≤ 6) (hx : fitsB dx = true) (hy : fitsB dy = true) :
    Calls Try.prog 61 #[.int .i64 1, .int .i64 (k : Int), .int .i64 dx, .int .i64 dy] w fun e w' => e = .returned (.tuple #[.int .i64 (dist 1 (10 ^ k) dx.natAbs dy.natAbs : Nat), .int .i64 0]) ∧ Below w.heap.size w w' := by
  have K := fun (w : World) => Try.Known_calls 1 w
  rw [show knownB 1 = true from by decide] at K
  have c1 : decide ((k : Int) < 0) = false := decide_eq_false (by omega)
  have c2 : decide (6 < (k : Int)) = false := decide_eq_false (by omega)
  have X := fun (w : World) => Try.mfits_calls dx w
  have Y := fun (w : World) => Try.mfits_calls dy w
  rw [hx] at X
  rw [hy] at Y
  have bx := fitsB_true hx
  have bY := fitsB_true hy
  have SX := fun (w : World) => Try.size_calls dx w bx.1 bx.2
  have SY := fun (w : World) => Try.size_calls dy w bY.1 bY.2
  have P := fun (w : World) => Try.power_calls k w hk
  have x9 := fitsB_abs hx
  have y9 := fitsB_abs hy
  have t1 := pow_pos' k
  have t9 := pow_six hk
  generalize dx.natAbs = x at SX x9
  generalize dy.natAbs = y at SY y9
  generalize 10 ^ k = t at P t1 t9
  have D := fun (w : World) => Try.distances_calls x y t w x9 y9
  simp only [Try.tabV, ptrTo] at D
  have W := fun (b : Nat) (W : World) (hB : Boxes W b x y t) => Try.way1 b x y t W hB x9 y9 t1 t9
  generalize dist 1 t x y = n at W
  simp only [ptrTo] at W
  clear hx hy bx bY x9 y9 t1 t9 hk
  go_enter Try.func61, Try.ntmps61
  go_wp2_with (go_at_call 74; (with_reducible refine (K _).mono ?_); rintro e w1 ⟨rfl, hw1⟩; obtain rfl : w = w1 := hw1.symm)
  go_wp2_with (go_at_call 75; first
    | ((with_reducible refine (X _).mono ?_); rintro e w2 ⟨rfl, hw2⟩; obtain rfl : w = w2 := hw2.symm)
    | ((with_reducible refine (Y _).mono ?_); rintro e w3 ⟨rfl, hw3⟩; obtain rfl : w = w3 := hw3.symm))
  go_wp2_with (go_at_call 77; first
    | ((with_reducible refine (SX _).mono ?_); rintro e w4 ⟨rfl, hw4⟩; obtain rfl : w = w4 := hw4.symm)
    | ((with_reducible refine (SY _).mono ?_); rintro e w5 ⟨rfl, hw5⟩; obtain rfl : w = w5 := hw5.symm))
  go_wp2_with (go_at_call 78; (with_reducible refine (P _).mono ?_); rintro e w6 ⟨rfl, hw6⟩; obtain rfl : w = w6 := hw6.symm)
  go_wp2_with (go_at_call 76; (with_reducible refine (D _).mono ?_); rintro e w7 ⟨rfl, hb7, hB7, hs7⟩)
  have hB8 := fun (o : Obj) => hB7.later (Nat.le_of_eq hs7.symm) ((Below.refl _ w7).alloc (Nat.le_refl _) o)
  go_wp2_with (fail)
  refine (W _ _ (hB8 _)).mono ?_
  rintro e w8 ⟨rfl, hb8⟩
  go_wp2
  go_ret2
  exact ⟨rfl, hb7.trans ((((Below.refl _ _).alloc (Nat.le_refl _) _).trans (hb8.mono (by simp))).mono (by omega))⟩

set_option maxRecDepth 100000 in
set_option maxHeartbeats 1000000 in
theorem Try.Dist_ok2 (k : Nat) (dx dy : Int) (w : World) (hk : k ≤ 6) (hx : fitsB dx = true) (hy : fitsB dy = true) :
    Calls Try.prog 61 #[.int .i64 2, .int .i64 (k : Int), .int .i64 dx, .int .i64 dy] w fun e w' => e = .returned (.tuple #[.int .i64 (dist 2 (10 ^ k) dx.natAbs dy.natAbs : Nat), .int .i64 0]) ∧ Below w.heap.size w w' := by
  have K := fun (w : World) => Try.Known_calls 2 w
  rw [show knownB 2 = true from by decide] at K
  have c1 : decide ((k : Int) < 0) = false := decide_eq_false (by omega)
  have c2 : decide (6 < (k : Int)) = false := decide_eq_false (by omega)
  have X := fun (w : World) => Try.mfits_calls dx w
  have Y := fun (w : World) => Try.mfits_calls dy w
  rw [hx] at X
  rw [hy] at Y
  have bx := fitsB_true hx
  have bY := fitsB_true hy
  have SX := fun (w : World) => Try.size_calls dx w bx.1 bx.2
  have SY := fun (w : World) => Try.size_calls dy w bY.1 bY.2
  have P := fun (w : World) => Try.power_calls k w hk
  have x9 := fitsB_abs hx
  have y9 := fitsB_abs hy
  have t1 := pow_pos' k
  have t9 := pow_six hk
  generalize dx.natAbs = x at SX x9
  generalize dy.natAbs = y at SY y9
  generalize 10 ^ k = t at P t1 t9
  have D := fun (w : World) => Try.distances_calls x y t w x9 y9
  simp only [Try.tabV, ptrTo] at D
  have W := fun (b : Nat) (W : World) (hB : Boxes W b x y t) => Try.way2 b x y t W hB x9 y9 t1 t9
  generalize dist 2 t x y = n at W
  simp only [ptrTo] at W
  clear hx hy bx bY x9 y9 t1 t9 hk
  go_enter Try.func61, Try.ntmps61
  go_wp2_with (go_at_call 74; (with_reducible refine (K _).mono ?_); rintro e w1 ⟨rfl, hw1⟩; obtain rfl : w = w1 := hw1.symm)
  go_wp2_with (go_at_call 75; first
    | ((with_reducible refine (X _).mono ?_); rintro e w2 ⟨rfl, hw2⟩; obtain rfl : w = w2 := hw2.symm)
    | ((with_reducible refine (Y _).mono ?_); rintro e w3 ⟨rfl, hw3⟩; obtain rfl : w = w3 := hw3.symm))
  go_wp2_with (go_at_call 77; first
    | ((with_reducible refine (SX _).mono ?_); rintro e w4 ⟨rfl, hw4⟩; obtain rfl : w = w4 := hw4.symm)
    | ((with_reducible refine (SY _).mono ?_); rintro e w5 ⟨rfl, hw5⟩; obtain rfl : w = w5 := hw5.symm))
  go_wp2_with (go_at_call 78; (with_reducible refine (P _).mono ?_); rintro e w6 ⟨rfl, hw6⟩; obtain rfl : w = w6 := hw6.symm)
  go_wp2_with (go_at_call 76; (with_reducible refine (D _).mono ?_); rintro e w7 ⟨rfl, hb7, hB7, hs7⟩)
  have hB8 := fun (o : Obj) => hB7.later (Nat.le_of_eq hs7.symm) ((Below.refl _ w7).alloc (Nat.le_refl _) o)
  go_wp2_with (fail)
  refine (W _ _ (hB8 _)).mono ?_
  rintro e w8 ⟨rfl, hb8⟩
  go_wp2
  go_ret2
  exact ⟨rfl, hb7.trans ((((Below.refl _ _).alloc (Nat.le_refl _) _).trans (hb8.mono (by simp))).mono (by omega))⟩

set_option maxRecDepth 100000 in
set_option maxHeartbeats 1000000 in
theorem Try.Dist_ok3 (k : Nat) (dx dy : Int) (w : World) (hk : k ≤ 6) (hx : fitsB dx = true) (hy : fitsB dy = true) :
    Calls Try.prog 61 #[.int .i64 3, .int .i64 (k : Int), .int .i64 dx, .int .i64 dy] w fun e w' => e = .returned (.tuple #[.int .i64 (dist 3 (10 ^ k) dx.natAbs dy.natAbs : Nat), .int .i64 0]) ∧ Below w.heap.size w w' := by
  have K := fun (w : World) => Try.Known_calls 3 w
  rw [show knownB 3 = true from by decide] at K
  have c1 : decide ((k : Int) < 0) = false := decide_eq_false (by omega)
  have c2 : decide (6 < (k : Int)) = false := decide_eq_false (by omega)
  have X := fun (w : World) => Try.mfits_calls dx w
  have Y := fun (w : World) => Try.mfits_calls dy w
  rw [hx] at X
  rw [hy] at Y
  have bx := fitsB_true hx
  have bY := fitsB_true hy
  have SX := fun (w : World) => Try.size_calls dx w bx.1 bx.2
  have SY := fun (w : World) => Try.size_calls dy w bY.1 bY.2
  have P := fun (w : World) => Try.power_calls k w hk
  have x9 := fitsB_abs hx
  have y9 := fitsB_abs hy
  have t1 := pow_pos' k
  have t9 := pow_six hk
  generalize dx.natAbs = x at SX x9
  generalize dy.natAbs = y at SY y9
  generalize 10 ^ k = t at P t1 t9
  have D := fun (w : World) => Try.distances_calls x y t w x9 y9
  simp only [Try.tabV, ptrTo] at D
  have W := fun (b : Nat) (W : World) (hB : Boxes W b x y t) => Try.way3 b x y t W hB x9 y9 t1 t9
  generalize dist 3 t x y = n at W
  simp only [ptrTo] at W
  clear hx hy bx bY x9 y9 t1 t9 hk
  go_enter Try.func61, Try.ntmps61
  go_wp2_with (go_at_call 74; (with_reducible refine (K _).mono ?_); rintro e w1 ⟨rfl, hw1⟩; obtain rfl : w = w1 := hw1.symm)
  go_wp2_with (go_at_call 75; first
    | ((with_reducible refine (X _).mono ?_); rintro e w2 ⟨rfl, hw2⟩; obtain rfl : w = w2 := hw2.symm)
    | ((with_reducible refine (Y _).mono ?_); rintro e w3 ⟨rfl, hw3⟩; obtain rfl : w = w3 := hw3.symm))
  go_wp2_with (go_at_call 77; first
    | ((with_reducible refine (SX _).mono ?_); rintro e w4 ⟨rfl, hw4⟩; obtain rfl : w = w4 := hw4.symm)
    | ((with_reducible refine (SY _).mono ?_); rintro e w5 ⟨rfl, hw5⟩; obtain rfl : w = w5 := hw5.symm))
  go_wp2_with (go_at_call 78; (with_reducible refine (P _).mono ?_); rintro e w6 ⟨rfl, hw6⟩; obtain rfl : w = w6 := hw6.symm)
  go_wp2_with (go_at_call 76; (with_reducible refine (D _).mono ?_); rintro e w7 ⟨rfl, hb7, hB7, hs7⟩)
  have hB8 := fun (o : Obj) => hB7.later (Nat.le_of_eq hs7.symm) ((Below.refl _ w7).alloc (Nat.le_refl _) o)
  go_wp2_with (fail)
  refine (W _ _ (hB8 _)).mono ?_
  rintro e w8 ⟨rfl, hb8⟩
  go_wp2
  go_ret2
  exact ⟨rfl, hb7.trans ((((Below.refl _ _).alloc (Nat.le_refl _) _).trans (hb8.mono (by simp))).mono (by omega))⟩

set_option maxRecDepth 100000 in
set_option maxHeartbeats 1000000 in
theorem Try.Dist_ok4 (k : Nat) (dx dy : Int) (w : World) (hk : k ≤ 6) (hx : fitsB dx = true) (hy : fitsB dy = true) :
    Calls Try.prog 61 #[.int .i64 4, .int .i64 (k : Int), .int .i64 dx, .int .i64 dy] w fun e w' => e = .returned (.tuple #[.int .i64 (dist 4 (10 ^ k) dx.natAbs dy.natAbs : Nat), .int .i64 0]) ∧ Below w.heap.size w w' := by
  have K := fun (w : World) => Try.Known_calls 4 w
  rw [show knownB 4 = true from by decide] at K
  have c1 : decide ((k : Int) < 0) = false := decide_eq_false (by omega)
  have c2 : decide (6 < (k : Int)) = false := decide_eq_false (by omega)
  have X := fun (w : World) => Try.mfits_calls dx w
  have Y := fun (w : World) => Try.mfits_calls dy w
  rw [hx] at X
  rw [hy] at Y
  have bx := fitsB_true hx
  have bY := fitsB_true hy
  have SX := fun (w : World) => Try.size_calls dx w bx.1 bx.2
  have SY := fun (w : World) => Try.size_calls dy w bY.1 bY.2
  have P := fun (w : World) => Try.power_calls k w hk
  have x9 := fitsB_abs hx
  have y9 := fitsB_abs hy
  have t1 := pow_pos' k
  have t9 := pow_six hk
  generalize dx.natAbs = x at SX x9
  generalize dy.natAbs = y at SY y9
  generalize 10 ^ k = t at P t1 t9
  have D := fun (w : World) => Try.distances_calls x y t w x9 y9
  simp only [Try.tabV, ptrTo] at D
  have W := fun (b : Nat) (W : World) (hB : Boxes W b x y t) => Try.way4 b x y t W hB x9 y9 t1 t9
  generalize dist 4 t x y = n at W
  simp only [ptrTo] at W
  clear hx hy bx bY x9 y9 t1 t9 hk
  go_enter Try.func61, Try.ntmps61
  go_wp2_with (go_at_call 74; (with_reducible refine (K _).mono ?_); rintro e w1 ⟨rfl, hw1⟩; obtain rfl : w = w1 := hw1.symm)
  go_wp2_with (go_at_call 75; first
    | ((with_reducible refine (X _).mono ?_); rintro e w2 ⟨rfl, hw2⟩; obtain rfl : w = w2 := hw2.symm)
    | ((with_reducible refine (Y _).mono ?_); rintro e w3 ⟨rfl, hw3⟩; obtain rfl : w = w3 := hw3.symm))
  go_wp2_with (go_at_call 77; first
    | ((with_reducible refine (SX _).mono ?_); rintro e w4 ⟨rfl, hw4⟩; obtain rfl : w = w4 := hw4.symm)
    | ((with_reducible refine (SY _).mono ?_); rintro e w5 ⟨rfl, hw5⟩; obtain rfl : w = w5 := hw5.symm))
  go_wp2_with (go_at_call 78; (with_reducible refine (P _).mono ?_); rintro e w6 ⟨rfl, hw6⟩; obtain rfl : w = w6 := hw6.symm)
  go_wp2_with (go_at_call 76; (with_reducible refine (D _).mono ?_); rintro e w7 ⟨rfl, hb7, hB7, hs7⟩)
  have hB8 := fun (o : Obj) => hB7.later (Nat.le_of_eq hs7.symm) ((Below.refl _ w7).alloc (Nat.le_refl _) o)
  go_wp2_with (fail)
  refine (W _ _ (hB8 _)).mono ?_
  rintro e w8 ⟨rfl, hb8⟩
  go_wp2
  go_ret2
  exact ⟨rfl, hb7.trans ((((Below.refl _ _).alloc (Nat.le_refl _) _).trans (hb8.mono (by simp))).mono (by omega))⟩

set_option maxRecDepth 100000 in
set_option maxHeartbeats 1000000 in
theorem Try.Dist_ok5 (k : Nat) (dx dy : Int) (w : World) (hk : k ≤ 6) (hx : fitsB dx = true) (hy : fitsB dy = true) :
    Calls Try.prog 61 #[.int .i64 5, .int .i64 (k : Int), .int .i64 dx, .int .i64 dy] w fun e w' => e = .returned (.tuple #[.int .i64 (dist 5 (10 ^ k) dx.natAbs dy.natAbs : Nat), .int .i64 0]) ∧ Below w.heap.size w w' := by
  have K := fun (w : World) => Try.Known_calls 5 w
  rw [show knownB 5 = true from by decide] at K
  have c1 : decide ((k : Int) < 0) = false := decide_eq_false (by omega)
  have c2 : decide (6 < (k : Int)) = false := decide_eq_false (by omega)
  have X := fun (w : World) => Try.mfits_calls dx w
  have Y := fun (w : World) => Try.mfits_calls dy w
  rw [hx] at X
  rw [hy] at Y
  have bx := fitsB_true hx
  have bY := fitsB_true hy
  have SX := fun (w : World) => Try.size_calls dx w bx.1 bx.2
  have SY := fun (w : World) => Try.size_calls dy w bY.1 bY.2
  have P := fun (w : World) => Try.power_calls k w hk
  have x9 := fitsB_abs hx
  have y9 := fitsB_abs hy
  have t1 := pow_pos' k
  have t9 := pow_six hk
  generalize dx.natAbs = x at SX x9
  generalize dy.natAbs = y at SY y9
  generalize 10 ^ k = t at P t1 t9
  have D := fun (w : World) => Try.distances_calls x y t w x9 y9
  simp only [Try.tabV, ptrTo] at D
  have W := fun (b : Nat) (W : World) (hB : Boxes W b x y t) => Try.way5 b x y t W hB x9 y9 t1 t9
  generalize dist 5 t x y = n at W
  simp only [ptrTo] at W
  clear hx hy bx bY x9 y9 t1 t9 hk
  go_enter Try.func61, Try.ntmps61
  go_wp2_with (go_at_call 74; (with_reducible refine (K _).mono ?_); rintro e w1 ⟨rfl, hw1⟩; obtain rfl : w = w1 := hw1.symm)
  go_wp2_with (go_at_call 75; first
    | ((with_reducible refine (X _).mono ?_); rintro e w2 ⟨rfl, hw2⟩; obtain rfl : w = w2 := hw2.symm)
    | ((with_reducible refine (Y _).mono ?_); rintro e w3 ⟨rfl, hw3⟩; obtain rfl : w = w3 := hw3.symm))
  go_wp2_with (go_at_call 77; first
    | ((with_reducible refine (SX _).mono ?_); rintro e w4 ⟨rfl, hw4⟩; obtain rfl : w = w4 := hw4.symm)
    | ((with_reducible refine (SY _).mono ?_); rintro e w5 ⟨rfl, hw5⟩; obtain rfl : w = w5 := hw5.symm))
  go_wp2_with (go_at_call 78; (with_reducible refine (P _).mono ?_); rintro e w6 ⟨rfl, hw6⟩; obtain rfl : w = w6 := hw6.symm)
  go_wp2_with (go_at_call 76; (with_reducible refine (D _).mono ?_); rintro e w7 ⟨rfl, hb7, hB7, hs7⟩)
  have hB8 := fun (o : Obj) => hB7.later (Nat.le_of_eq hs7.symm) ((Below.refl _ w7).alloc (Nat.le_refl _) o)
  go_wp2_with (fail)
  refine (W _ _ (hB8 _)).mono ?_
  rintro e w8 ⟨rfl, hb8⟩
  go_wp2
  go_ret2
  exact ⟨rfl, hb7.trans ((((Below.refl _ _).alloc (Nat.le_refl _) _).trans (hb8.mono (by simp))).mono (by omega))⟩

set_option maxRecDepth 100000 in
set_option maxHeartbeats 1000000 in
theorem Try.Dist_ok6 (k : Nat) (dx dy : Int) (w : World) (hk : k ≤ 6) (hx : fitsB dx = true) (hy : fitsB dy = true) :
    Calls Try.prog 61 #[.int .i64 6, .int .i64 (k : Int), .int .i64 dx, .int .i64 dy] w fun e w' => e = .returned (.tuple #[.int .i64 (dist 6 (10 ^ k) dx.natAbs dy.natAbs : Nat), .int .i64 0]) ∧ Below w.heap.size w w' := by
  have K := fun (w : World) => Try.Known_calls 6 w
  rw [show knownB 6 = true from by decide] at K
  have c1 : decide ((k : Int) < 0) = false := decide_eq_false (by omega)
  have c2 : decide (6 < (k : Int)) = false := decide_eq_false (by omega)
  have X := fun (w : World) => Try.mfits_calls dx w
  have Y := fun (w : World) => Try.mfits_calls dy w
  rw [hx] at X
  rw [hy] at Y
  have bx := fitsB_true hx
  have bY := fitsB_true hy
  have SX := fun (w : World) => Try.size_calls dx w bx.1 bx.2
  have SY := fun (w : World) => Try.size_calls dy w bY.1 bY.2
  have P := fun (w : World) => Try.power_calls k w hk
  have x9 := fitsB_abs hx
  have y9 := fitsB_abs hy
  have t1 := pow_pos' k
  have t9 := pow_six hk
  generalize dx.natAbs = x at SX x9
  generalize dy.natAbs = y at SY y9
  generalize 10 ^ k = t at P t1 t9
  have D := fun (w : World) => Try.distances_calls x y t w x9 y9
  simp only [Try.tabV, ptrTo] at D
  have W := fun (b : Nat) (W : World) (hB : Boxes W b x y t) => Try.way6 b x y t W hB x9 y9 t1 t9
  generalize dist 6 t x y = n at W
  simp only [ptrTo] at W
  clear hx hy bx bY x9 y9 t1 t9 hk
  go_enter Try.func61, Try.ntmps61
  go_wp2_with (go_at_call 74; (with_reducible refine (K _).mono ?_); rintro e w1 ⟨rfl, hw1⟩; obtain rfl : w = w1 := hw1.symm)
  go_wp2_with (go_at_call 75; first
    | ((with_reducible refine (X _).mono ?_); rintro e w2 ⟨rfl, hw2⟩; obtain rfl : w = w2 := hw2.symm)
    | ((with_reducible refine (Y _).mono ?_); rintro e w3 ⟨rfl, hw3⟩; obtain rfl : w = w3 := hw3.symm))
  go_wp2_with (go_at_call 77; first
    | ((with_reducible refine (SX _).mono ?_); rintro e w4 ⟨rfl, hw4⟩; obtain rfl : w = w4 := hw4.symm)
    | ((with_reducible refine (SY _).mono ?_); rintro e w5 ⟨rfl, hw5⟩; obtain rfl : w = w5 := hw5.symm))
  go_wp2_with (go_at_call 78; (with_reducible refine (P _).mono ?_); rintro e w6 ⟨rfl, hw6⟩; obtain rfl : w = w6 := hw6.symm)
  go_wp2_with (go_at_call 76; (with_reducible refine (D _).mono ?_); rintro e w7 ⟨rfl, hb7, hB7, hs7⟩)
  have hB8 := fun (o : Obj) => hB7.later (Nat.le_of_eq hs7.symm) ((Below.refl _ w7).alloc (Nat.le_refl _) o)
  go_wp2_with (fail)
  refine (W _ _ (hB8 _)).mono ?_
  rintro e w8 ⟨rfl, hb8⟩
  go_wp2
  go_ret2
  exact ⟨rfl, hb7.trans ((((Below.refl _ _).alloc (Nat.le_refl _) _).trans (hb8.mono (by simp))).mono (by omega))⟩

theorem Try.Dist_calls (kind scale dx dy : Int) (w : World) :
    Calls Try.prog 61 #[.int .i64 kind, .int .i64 scale, .int .i64 dx, .int .i64 dy] w fun e w' => e = .returned (.tuple #[.int .i64 (distE kind scale dx dy).1, .int .i64 (distE kind scale dx dy).2]) ∧ Below w.heap.size w w' := by
  by_cases h : kind < 1 ∨ 6 < kind ∨ scale < 0 ∨ 6 < scale
  · rw [distE_arg h]
    exact (Try.Dist_arg kind scale dx dy w h).mono fun e w' ⟨h1, h2⟩ => ⟨h1, h2 ▸ Below.refl _ _⟩
  · by_cases hf : fitsB dx = true ∧ fitsB dy = true
    · obtain ⟨hx, hy⟩ := hf
      rw [distE_ok h hx hy]
      obtain ⟨k, rfl⟩ := nat_of (show 0 ≤ scale by omega)
      have hk : k ≤ 6 := by omega
      rcases (show kind = 1 ∨ kind = 2 ∨ kind = 3 ∨ kind = 4 ∨ kind = 5 ∨ kind = 6 by omega) with rfl | rfl | rfl | rfl | rfl | rfl
      · exact Try.Dist_ok1 k dx dy w hk hx hy
      · exact Try.Dist_ok2 k dx dy w hk hx hy
      · exact Try.Dist_ok3 k dx dy w hk hx hy
      · exact Try.Dist_ok4 k dx dy w hk hx hy
      · exact Try.Dist_ok5 k dx dy w hk hx hy
      · exact Try.Dist_ok6 k dx dy w hk hx hy
    · rw [distE_full h hf]
      exact (Try.Dist_full kind scale dx dy w h hf).mono fun e w' ⟨h1, h2⟩ => ⟨h1, h2 ▸ Below.refl _ _⟩
/-- The same, at numbers however they are told. -/
theorem Try.Dist_at (b c d : Int) (kind scale dx dy : Int) (w : World) (hb : b = scale) (hc : c = dx) (hd : d = dy) :
    Calls Try.prog 61 #[.int .i64 kind, .int .i64 b, .int .i64 c, .int .i64 d] w fun e w' => e = .returned (.tuple #[.int .i64 (distE kind scale dx dy).1, .int .i64 (distE kind scale dx dy).2]) ∧ Below w.heap.size w w' := by
  subst hb; subst hc; subst hd; exact Try.Dist_calls kind b c d w
#print axioms Try.Dist_calls
end Go.Proofs
/- The document's own answer for layer 5: what it asks of a number (holds). Conditions: numbers of which something is said. -/
namespace Go.Root
/-- The three things that the document's own answer asks. -/
def asks (way q n m d : Nat) : Prop :=
  if way = 0 then (2 * q - 1) * d * ((2 * q - 1) * d) ≤ 4 * n
  else if way = 1 then q * d * (q * d) ≤ m * m * n
  else m * (q * d * (q * d)) < n
instance (way q n m d : Nat) : Decidable (asks way q n m d) := by unfold asks; infer_instance

theorem le_of_div {c q d : Nat} (hd : 1 ≤ d) (h : q ≤ c / d) : q * d ≤ c := (Nat.le_div_iff_mul_le hd).1 h
theorem lt_of_div {c q d : Nat} (hd : 1 ≤ d) (h : ¬ q ≤ c / d) : c < q * d := by
  have := mt (Nat.le_div_iff_mul_le (x := q) (y := c) hd).2 h; omega
end Go.Root
namespace Go.Proofs
open Go.RowKit Go.Shelf Go.Root
attribute [local go_sem] Oper.semAt_some

theorem le_four (X n : Nat) : X ≤ 4 * n ↔ (X : Int) ≤ 4 * (n : Int) := by omega
theorem div_lt {c d q : Nat} (h : c / d < q) : (c : Int) / (d : Int) < (q : Int) := by rw [← Int.natCast_ediv]; exact Int.ofNat_lt.2 h
theorem div_ge {c d q : Nat} (h : q ≤ c / d) : (q : Int) ≤ (c : Int) / (d : Int) := by rw [← Int.natCast_ediv]; exact Int.ofNat_le.2 h
theorem div_gt {c d q : Nat} (h : q < c / d) : (q : Int) < (c : Int) / (d : Int) := by rw [← Int.natCast_ediv]; exact Int.ofNat_lt.2 h
theorem div_le {c d q : Nat} (h : c / d ≤ q) : (c : Int) / (d : Int) ≤ (q : Int) := by rw [← Int.natCast_ediv]; exact Int.ofNat_le.2 h

set_option maxRecDepth 100000 in
set_option maxHeartbeats 1000000 in
theorem Try.holds_great (way q n m d : Nat) (w : World) (hd : 1 ≤ d) (h : 3000000000 / d < q) :
    Calls Try.prog 106 #[.int .i64 (way : Int), .int .i64 (q : Int), .int .i64 (n : Int), .int .i64 (m : Int), .int .i64 (d : Int)] w fun e w' => e = .returned (.bool false) ∧ w' = w := by
  have hne : ((d : Int) == 0) = false := beq_eq_false_iff_ne.2 (by omega)
  have h1 : (3000000000 : Int) / (d : Int) < (q : Int) := div_lt h
  have c1 : decide ((3000000000 : Int) / (d : Int) < (q : Int)) = true := decide_eq_true h1
  go_enter Try.func106, Try.ntmps106
  go_wp2
  go_ret
  exact ⟨rfl, rfl⟩

set_option maxRecDepth 100000 in
set_option maxHeartbeats 1000000 in
theorem Try.holds_near (q n m d : Nat) (w : World) (hd : 1 ≤ d) (hd9 : d ≤ 1000000) (h : q ≤ 3000000000 / d) (hq : 1 ≤ q) (hn : n ≤ 80000000000000000) :
    Calls Try.prog 106 #[.int .i64 0, .int .i64 (q : Int), .int .i64 (n : Int), .int .i64 (m : Int), .int .i64 (d : Int)] w fun e w' => e = .returned (.bool (decide (asks 0 q n m d))) ∧ w' = w := by
  have hne : ((d : Int) == 0) = false := beq_eq_false_iff_ne.2 (by omega)
  have h1 : ¬ (3000000000 : Int) / (d : Int) < (q : Int) := Int.not_lt.2 (div_ge h)
  have c1 : decide ((3000000000 : Int) / (d : Int) < (q : Int)) = false := decide_eq_false h1
  have hqd := le_of_div hd h
  have hx : (2 * q - 1) * d = 2 * (q * d) - d := by rw [Nat.sub_mul, Nat.mul_assoc, Nat.one_mul]
  by_cases hc : q < 1000000000 / d
  · have h2 : (q : Int) < (1000000000 : Int) / (d : Int) := div_gt hc
    have c2 : decide ((q : Int) < (1000000000 : Int) / (d : Int)) = true := decide_eq_true h2
    have hcd := le_of_div hd (Nat.le_of_lt hc)
    have hq9 : q ≤ 1000000000 := Nat.le_trans (Nat.le_mul_of_pos_right q hd) hcd
    have hxm : (2 * q - 1) * d ≤ 2000000000 := by omega
    have hxx : (2 * q - 1) * d * ((2 * q - 1) * d) ≤ 4000000000000000000 := sq_le hxm
    have w1 : wrap64 ((2 * (q : Int) - 1) * (d : Int)) = (((2 * q - 1) * d : Nat) : Int) := wrap_nat (by rw [show 2 * (q : Int) - 1 = ((2 * q - 1 : Nat) : Int) by omega]; simp) (by omega)
    have w2 : wrap64 ((((2 * q - 1) * d : Nat) : Int) * (((2 * q - 1) * d : Nat) : Int)) = (((2 * q - 1) * d * ((2 * q - 1) * d) : Nat) : Int) := wrap_nat (by simp) (by omega)
    have hA : asks 0 q n m d ↔ (2 * q - 1) * d * ((2 * q - 1) * d) ≤ 4 * n := by simp [asks]
    generalize (2 * q - 1) * d * ((2 * q - 1) * d) = X at w2 hA hxx
    generalize (2 * q - 1) * d = Y at w1 w2 hxm hx
    have hd' : decide (asks 0 q n m d) = decide (((X : Nat) : Int) ≤ 4 * (n : Int)) := by
      rw [decide_eq_decide, hA]; exact le_four X n
    rw [hd']
    clear hd' hA hx hxx
    go_enter Try.func106, Try.ntmps106
    go_wp2
    go_ret
    exact ⟨rfl, rfl⟩
  · have h2 : ¬ (q : Int) < (1000000000 : Int) / (d : Int) := Int.not_lt.2 (div_le (Nat.not_lt.1 hc))
    have c2 : decide ((q : Int) < (1000000000 : Int) / (d : Int)) = false := decide_eq_false h2
    have hA : ¬ asks 0 q n m d := by
      have h3 : 1000000000 < (q + 1) * d := lt_of_div hd (by omega)
      rw [Nat.succ_mul] at h3
      have h4 : 1000000000 - d * 3 ≤ (2 * q - 1) * d := by omega
      have h5 : 810000000000000000 ≤ (2 * q - 1) * d * ((2 * q - 1) * d) := sq_le (show 900000000 ≤ (2 * q - 1) * d by omega)
      simp only [asks, if_pos]
      omega
    rw [decide_eq_false hA]
    clear hA hx
    go_enter Try.func106, Try.ntmps106
    go_wp2
    go_ret
    exact ⟨rfl, rfl⟩

set_option maxRecDepth 100000 in
set_option maxHeartbeats 1000000 in
theorem Try.holds_down (q n m d : Nat) (w : World) (hd : 1 ≤ d) (h : q ≤ 3000000000 / d) (hn : n ≤ 80000000000000000) (hm9 : m ≤ 10) :
    Calls Try.prog 106 #[.int .i64 1, .int .i64 (q : Int), .int .i64 (n : Int), .int .i64 (m : Int), .int .i64 (d : Int)] w fun e w' => e = .returned (.bool (decide (asks 1 q n m d))) ∧ w' = w := by
  have hne : ((d : Int) == 0) = false := beq_eq_false_iff_ne.2 (by omega)
  have h1 : ¬ (3000000000 : Int) / (d : Int) < (q : Int) := Int.not_lt.2 (div_ge h)
  have c1 : decide ((3000000000 : Int) / (d : Int) < (q : Int)) = false := decide_eq_false h1
  have hqd := le_of_div hd h
  have hqq : q * d * (q * d) ≤ 9000000000000000000 := sq_le hqd
  have ht := times_of hn hm9
  have hmm : m * m ≤ 100 := sq_le hm9
  have w1 : wrap64 ((q : Int) * (d : Int)) = ((q * d : Nat) : Int) := wrap_nat (by simp) (by omega)
  have w2 : wrap64 (((q * d : Nat) : Int) * ((q * d : Nat) : Int)) = ((q * d * (q * d) : Nat) : Int) := wrap_nat (by simp) (by omega)
  have w3 : wrap64 ((m : Int) * (m : Int)) = ((m * m : Nat) : Int) := wrap_nat (by simp) (by omega)
  have w4 : wrap64 (((m * m : Nat) : Int) * (n : Int)) = ((m * m * n : Nat) : Int) := wrap_nat (by simp) (by omega)
  have hA : asks 1 q n m d ↔ q * d * (q * d) ≤ m * m * n := by simp [asks]
  generalize q * d * (q * d) = X at w2 hA hqq
  generalize q * d = Y at w1 w2 hqd
  generalize m * m * n = U at w4 hA ht
  generalize m * m = V at w3 w4 hmm
  have hd' : decide (asks 1 q n m d) = decide (X ≤ U) := by
    rw [decide_eq_decide, hA]
  rw [hd']
  clear hd' hA
  go_enter Try.func106, Try.ntmps106
  go_wp2
  go_ret
  exact ⟨rfl, rfl⟩

set_option maxRecDepth 100000 in
set_option maxHeartbeats 1000000 in
theorem Try.holds_ceil (q n m d : Nat) (w : World) (hd : 1 ≤ d) (h : q ≤ 3000000000 / d) (hn : n ≤ 80000000000000000) (hm : 1 ≤ m) (hm9 : m ≤ 10) :
    Calls Try.prog 106 #[.int .i64 2, .int .i64 (q : Int), .int .i64 (n : Int), .int .i64 (m : Int), .int .i64 (d : Int)] w fun e w' => e = .returned (.bool (decide (asks 2 q n m d))) ∧ w' = w := by
  have hne : ((d : Int) == 0) = false := beq_eq_false_iff_ne.2 (by omega)
  have h1 : ¬ (3000000000 : Int) / (d : Int) < (q : Int) := Int.not_lt.2 (div_ge h)
  have c1 : decide ((3000000000 : Int) / (d : Int) < (q : Int)) = false := decide_eq_false h1
  have hqd := le_of_div hd h
  by_cases hc : q ≤ 300000000 / d
  · have h2 : (q : Int) ≤ (300000000 : Int) / (d : Int) := div_ge hc
    have c2 : decide ((q : Int) ≤ (300000000 : Int) / (d : Int)) = true := decide_eq_true h2
    have hcd := le_of_div hd hc
    have hqq : q * d * (q * d) ≤ 90000000000000000 := sq_le hcd
    have hmq : m * (q * d * (q * d)) ≤ 900000000000000000 := Nat.mul_le_mul hm9 hqq
    have w1 : wrap64 ((q : Int) * (d : Int)) = ((q * d : Nat) : Int) := wrap_nat (by simp) (by omega)
    have w2 : wrap64 (((q * d : Nat) : Int) * ((q * d : Nat) : Int)) = ((q * d * (q * d) : Nat) : Int) := wrap_nat (by simp) (by omega)
    have w3 : wrap64 ((m : Int) * ((q * d * (q * d) : Nat) : Int)) = ((m * (q * d * (q * d)) : Nat) : Int) := wrap_nat (by simp) (by omega)
    have hA : asks 2 q n m d ↔ m * (q * d * (q * d)) < n := by simp [asks]
    generalize m * (q * d * (q * d)) = U at w3 hA hmq
    generalize q * d * (q * d) = X at w2 w3 hqq
    generalize q * d = Y at w1 w2 hqd hcd
    have hd' : decide (asks 2 q n m d) = decide (U < n) := by
      rw [decide_eq_decide, hA]
    rw [hd']
    clear hd' hA
    go_enter Try.func106, Try.ntmps106
    go_wp2
    go_ret
    exact ⟨rfl, rfl⟩
  · have h2 : ¬ (q : Int) ≤ (300000000 : Int) / (d : Int) := Int.not_le.2 (div_lt (Nat.not_le.1 hc))
    have c2 : decide ((q : Int) ≤ (300000000 : Int) / (d : Int)) = false := decide_eq_false h2
    have hA : ¬ asks 2 q n m d := by
      have h5 : 90000000000000000 ≤ q * d * (q * d) := sq_le (Nat.le_of_lt (lt_of_div hd hc))
      have h6 := Nat.le_mul_of_pos_left (q * d * (q * d)) hm
      simp only [asks, show ¬ (2 : Nat) = 0 by omega, show ¬ (2 : Nat) = 1 by omega, if_false]
      omega
    rw [decide_eq_false hA]
    clear hA
    go_enter Try.func106, Try.ntmps106
    go_wp2
    go_ret
    exact ⟨rfl, rfl⟩
#print axioms Try.holds_great
#print axioms Try.holds_near
#print axioms Try.holds_down
#print axioms Try.holds_ceil
end Go.Proofs
