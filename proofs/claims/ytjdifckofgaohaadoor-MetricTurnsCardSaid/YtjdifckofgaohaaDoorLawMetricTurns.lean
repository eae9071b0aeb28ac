/- The law MetricTurns of layer 6, as a contract: it answers true at every input. Conditions: the array of keywords holds what the card lays. -/
import Derived.Test.YtjdifckofgaohaaDoorMetricShown
namespace Go.Metric
theorem fitsB_neg {n : Int} (h : fitsB n = true) : fitsB (-n) = true := by
  have := fitsB_true h
  exact fitsB_of (by omega) (by omega)
end Go.Metric
namespace Go.Proofs
open Go.RowKit Go.Shelf Go.Root Go.Metric Go.TextTab
attribute [local go_sem] Oper.semAt_some

set_option maxRecDepth 100000 in
set_option maxHeartbeats 1000000 in
theorem Tryd.MetricTurns_out (kind scale dx dy : Int) (w : World) (hT : Words w) (h : (kind < 1 ∨ 6 < kind ∨ scale < 0 ∨ 6 < scale) ∨ ¬ (fitsB dx = true ∧ fitsB dy = true)) :
    Calls Tryd.prog 5 #[.int .i64 kind, .int .i64 scale, .int .i64 dx, .int .i64 dy] w fun e w' => e = .returned (.bool true) ∧ Below w.heap.size w w' := by
  have D := fun (w : World) => Tryd.Dist_calls kind scale dx dy w
  have HT := Lib.hid hT
  clear hT
  by_cases h1 : kind < 1 ∨ 6 < kind ∨ scale < 0 ∨ 6 < scale
  · rw [distE_arg h1] at D
    clear h h1
    go_enter Tryd.func5, Tryd.ntmps5
    go_wp2_with (go_at_call 9; (with_reducible refine (D _).mono ?_); rintro e w1 ⟨rfl, hb⟩; clear D)
    have S := Tryd.shown_calls w1 (HT.out.below hb)
    go_wp2_with (go_at_call 11; (with_reducible refine S.mono ?_); rintro e w3 ⟨rfl, h1⟩; clear S; replace hb := below_next hb h1 (Nat.le_refl _); clear h1)
    go_ret
    exact ⟨rfl, hb⟩
  · rw [distE_full h1 (h.resolve_left h1)] at D
    clear h h1
    go_enter Tryd.func5, Tryd.ntmps5
    go_wp2_with (go_at_call 9; (with_reducible refine (D _).mono ?_); rintro e w1 ⟨rfl, hb⟩; clear D)
    have S := Tryd.shown_calls w1 (HT.out.below hb)
    go_wp2_with (go_at_call 11; (with_reducible refine S.mono ?_); rintro e w3 ⟨rfl, h1⟩; clear S; replace hb := below_next hb h1 (Nat.le_refl _); clear h1)
    go_ret
    exact ⟨rfl, hb⟩

set_option maxRecDepth 100000 in
set_option maxHeartbeats 1000000 in
theorem Tryd.MetricTurns_in (kind scale dx dy : Int) (w : World) (hT : Words w) (h : ¬ (kind < 1 ∨ 6 < kind ∨ scale < 0 ∨ 6 < scale)) (hx : fitsB dx = true) (hy : fitsB dy = true) :
    Calls Tryd.prog 5 #[.int .i64 kind, .int .i64 scale, .int .i64 dx, .int .i64 dy] w fun e w' => e = .returned (.bool true) ∧ Below w.heap.size w w' := by
  have b1 := fitsB_true hx
  have b2 := fitsB_true hy
  have D0 := fun (w : World) => Tryd.Dist_calls kind scale dx dy w
  have D1 := fun (c : Int) (w : World) (hc : c = -dx) => Tryd.Dist_at scale c dy kind scale (-dx) dy w rfl hc rfl
  have D2 := fun (c : Int) (w : World) (hc : c = -dy) => Tryd.Dist_at scale dx c kind scale dx (-dy) w rfl rfl hc
  have D3 := fun (w : World) => Tryd.Dist_calls kind scale dy dx w
  have D4 := fun (w : World) => Tryd.Dist_calls kind scale 0 0 w
  have X := fun (w : World) => Tryd.near_calls dx w
  have Y := fun (w : World) => Tryd.near_calls dy w
  rw [hx] at X
  rw [hy] at Y
  rw [distE_ok h hx hy] at D0
  rw [distE_ok h (fitsB_neg hx) hy, Int.natAbs_neg] at D1
  rw [distE_ok h hx (fitsB_neg hy), Int.natAbs_neg] at D2
  rw [distE_ok h hy hx, dist_swap] at D3
  rw [distE_ok h (fitsB_of (by omega) (by omega)) (fitsB_of (by omega) (by omega)), Int.natAbs_zero, dist_zero _ (pow_pos' _)] at D4
  simp only [Int.cast_ofNat_Int] at D0 D1 D2 D3 D4
  have H : 0 < scale ∨ (¬ 0 < scale ∧ 1 ≤ dist kind.toNat (10 ^ scale.toNat) dx.natAbs dy.natAbs) ∨ (¬ 0 < scale ∧ dist kind.toNat (10 ^ scale.toNat) dx.natAbs dy.natAbs = 0 ∧ dx = 0 ∧ dy = 0) := by
    by_cases h0 : 0 < scale
    · exact .inl h0
    · have e : scale.toNat = 0 := by omega
      by_cases hz : dx = 0 ∧ dy = 0
      · refine .inr (.inr ⟨h0, ?_, hz.1, hz.2⟩)
        rw [hz.1, hz.2, Int.natAbs_zero, dist_zero _ (pow_pos' _)]
      · refine .inr (.inl ⟨h0, ?_⟩)
        rw [e]
        exact dist_pos (fitsB_abs hx) (fitsB_abs hy) (by omega)
  generalize dist kind.toNat (10 ^ scale.toNat) dx.natAbs dy.natAbs = n at D0 D1 D2 D3 H
  have HT := Lib.hid hT
  have en : ((n : Int) == (n : Int)) = true := beq_self_eq_true _
  have c0 : decide ((0 : Int) ≤ (n : Int)) = true := decide_eq_true (by omega)
  clear hT hx hy h
  go_enter Tryd.func5, Tryd.ntmps5
  go_wp2_with (go_at_call 9; (with_reducible refine (D0 _).mono ?_); rintro e w1 ⟨rfl, hb⟩; clear D0)
  go_wp2_with (go_at_call 18; first
    | ((with_reducible refine (X _).mono ?_); rintro e w2 ⟨rfl, hw2⟩; obtain rfl : w1 = w2 := hw2.symm)
    | ((with_reducible refine (Y _).mono ?_); rintro e w3 ⟨rfl, hw3⟩; obtain rfl : w1 = w3 := hw3.symm))
  have S := Tryd.shown_calls w1 (HT.out.below hb)
  clear HT
  go_wp2_with (go_at_call 11; (with_reducible refine S.mono ?_); rintro e w4 ⟨rfl, h1⟩; clear S; replace hb := below_next hb h1 (Nat.le_refl _); clear h1)
  go_wp2_with (go_at_call 9; (with_reducible refine (D1 _ _ (by omega)).mono ?_); rintro e w5 ⟨rfl, h1⟩; clear D1; replace hb := below_next hb h1 (Nat.le_refl _); clear h1)
  go_wp2_with (go_at_call 9; (with_reducible refine (D2 _ _ (by omega)).mono ?_); rintro e w6 ⟨rfl, h1⟩; clear D2; replace hb := below_next hb h1 (Nat.le_refl _); clear h1)
  go_wp2_with (go_at_call 9; (with_reducible refine (D3 _).mono ?_); rintro e w7 ⟨rfl, h1⟩; clear D3; replace hb := below_next hb h1 (Nat.le_refl _); clear h1)
  go_wp2_with (go_at_call 9; (with_reducible refine (D4 _).mono ?_); rintro e w8 ⟨rfl, h1⟩; clear D4; replace hb := below_next hb h1 (Nat.le_refl _); clear h1)
  all_goals
    go_ret
    exact ⟨ret_is (by first | rfl | (simp; omega)), hb⟩

theorem Tryd.MetricTurns_calls (kind scale dx dy : Int) (w : World) (hT : Words w) :
    Calls Tryd.prog 5 #[.int .i64 kind, .int .i64 scale, .int .i64 dx, .int .i64 dy] w fun e w' => e = .returned (.bool true) ∧ Below w.heap.size w w' := by
  by_cases h : kind < 1 ∨ 6 < kind ∨ scale < 0 ∨ 6 < scale
  · exact Tryd.MetricTurns_out kind scale dx dy w hT (.inl h)
  · by_cases hf : fitsB dx = true ∧ fitsB dy = true
    · exact Tryd.MetricTurns_in kind scale dx dy w hT h hf.1 hf.2
    · exact Tryd.MetricTurns_out kind scale dx dy w hT (.inr hf)
#print axioms Tryd.MetricTurns_calls
end Go.Proofs
