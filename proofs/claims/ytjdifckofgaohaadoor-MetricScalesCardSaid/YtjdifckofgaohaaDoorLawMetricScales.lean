/- The law MetricScales of layer 6, as a contract: it answers true at every input. Conditions: the array of keywords holds what the card lays; numbers that their kinds can be. -/
import Derived.Test.YtjdifckofgaohaaDoorMetricShown
namespace Go.Metric
theorem distE_tens {kind s x y : Int} (hs : 0 ≤ s) (h5 : s ≤ 5) (hx : -20000000 ≤ x) (hx9 : x ≤ 20000000) (hy : -20000000 ≤ y) (hy9 : y ≤ 20000000) : distE kind (s + 1) (10 * x) (10 * y) = distE kind s x y := by
  by_cases h : kind < 1 ∨ 6 < kind
  · rw [distE_arg (by omega), distE_arg (by omega)]
  · rw [distE_ok (by omega) (fitsB_of (by omega) (by omega)) (fitsB_of (by omega) (by omega)), distE_ok (by omega) (fitsB_of (by omega) (by omega)) (fitsB_of (by omega) (by omega))]
    have e1 : (s + 1).toNat = s.toNat + 1 := by omega
    have e2 : (10 * x).natAbs = 10 * x.natAbs := by omega
    have e3 : (10 * y).natAbs = 10 * y.natAbs := by omega
    rw [e1, e2, e3, Nat.pow_succ, Nat.mul_comm (10 ^ s.toNat) 10, dist_tens (by omega) (by omega) (pow_pos' _)]
theorem tmod_in (a : Int) : -20000000 ≤ a.tmod 20000001 ∧ a.tmod 20000001 ≤ 20000000 := by
  have h1 := Int.tmod_lt_of_pos a (show (0 : Int) < 20000001 by omega)
  have h2 := Int.lt_tmod_of_pos a (show (0 : Int) < 20000001 by omega)
  omega
end Go.Metric
namespace Go.Proofs
open Go.RowKit Go.Shelf Go.Root Go.Metric Go.TextTab
attribute [local go_sem] Oper.semAt_some

set_option maxRecDepth 100000 in
set_option maxHeartbeats 1000000 in
theorem Tryd.MetricScales_calls (kind : Int) (sc dx dy : Int) (w : World) (h0 : 0 ≤ sc) (h9 : sc ≤ 255) (x1 : -2147483648 ≤ dx) (x2 : dx ≤ 2147483647) (y1 : -2147483648 ≤ dy) (y2 : dy ≤ 2147483647) (hT : Words w) :
    Calls Tryd.prog 6 #[.int .i64 kind, .int .u8 sc, .int .i32 dx, .int .i32 dy] w fun e w' => e = .returned (.bool true) ∧ Below w.heap.size w w' := by
  have s1 : 0 ≤ sc % 6 ∧ sc % 6 ≤ 5 := by omega
  have t1 := tmod_in dx
  have t2 := tmod_in dy
  obtain ⟨s, hs⟩ : ∃ s, sc % 6 = s := ⟨_, rfl⟩
  obtain ⟨x, hx⟩ : ∃ x, dx.tmod 20000001 = x := ⟨_, rfl⟩
  obtain ⟨y, hy⟩ : ∃ y, dy.tmod 20000001 = y := ⟨_, rfl⟩
  rw [hs] at s1
  rw [hx] at t1
  rw [hy] at t2
  have D := fun (w : World) => Tryd.Dist_calls kind s x y w
  have R := fun (a b c : Int) (w : World) (ha : a = s + 1) (hb : b = 10 * x) (hc : c = 10 * y) => Tryd.Dist_at a b c kind (s + 1) (10 * x) (10 * y) w ha hb hc
  rw [distE_tens s1.1 s1.2 t1.1 t1.2 t2.1 t2.2] at R
  obtain ⟨n, e, hz⟩ : ∃ n e, distE kind s x y = (n, e) := ⟨_, _, rfl⟩
  rw [hz] at D R
  simp only at D R
  have HT := Lib.hid hT
  clear hT hz
  go_enter Tryd.func6, Tryd.ntmps6
  go_wp2_with (go_at_call 9; (with_reducible refine (D _).mono ?_); rintro e w1 ⟨rfl, hb⟩; clear D)
  go_wp2_with (go_at_call 9; (with_reducible refine (R _ _ _ _ (by omega) (by omega) (by omega)).mono ?_); rintro e w2 ⟨rfl, h1⟩; clear R; replace hb := below_next hb h1 (Nat.le_refl _); clear h1)
  have S := Tryd.shown_calls w2 (HT.out.below hb)
  go_wp2_with (go_at_call 11; (with_reducible refine S.mono ?_); rintro e w3 ⟨rfl, h1⟩; clear S; replace hb := below_next hb h1 (Nat.le_refl _); clear h1)
  go_ret
  exact ⟨rfl, hb⟩
#print axioms Tryd.MetricScales_calls
end Go.Proofs
