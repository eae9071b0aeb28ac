/- The law MetricTells of layer 6, as a contract: it answers true at every input. Conditions: the array of keywords holds what the card lays. -/
import Derived.Test.YtjdifckofgaohaaDoorMetricShown
import Derived.Test.YtjdifckofgaohaaDoorMetricRFar
namespace Go.Proofs
open Go.RowKit Go.Shelf Go.Root Go.Metric Go.TextTab
attribute [local go_sem] Oper.semAt_some

set_option maxRecDepth 100000 in
set_option maxHeartbeats 1000000 in
theorem Tryd.MetricTells_calls (kind scale dx dy : Int) (w : World) (hT : Words w) :
    Calls Tryd.prog 3 #[.int .i64 kind, .int .i64 scale, .int .i64 dx, .int .i64 dy] w fun e w' => e = .returned (.bool true) ∧ Below w.heap.size w w' := by
  have D := fun (w : World) => Tryd.Dist_calls kind scale dx dy w
  have R := fun (w : World) => Tryd.RDist_calls kind scale dx dy w
  obtain ⟨n, e, hz⟩ : ∃ n e, distE kind scale dx dy = (n, e) := ⟨_, _, rfl⟩
  rw [hz] at D R
  simp only at D R
  have HT := Lib.hid hT
  clear hT hz
  go_enter Tryd.func3, Tryd.ntmps3
  go_wp2_with (go_at_call 9; (with_reducible refine (D _).mono ?_); rintro e w1 ⟨rfl, hb⟩; clear D)
  go_wp2_with (go_at_call 10; (with_reducible refine (R _).mono ?_); rintro e w2 ⟨rfl, h1⟩; clear R; replace hb := below_next hb h1 (Nat.le_refl _); clear h1)
  have S := Tryd.shown_calls w2 (HT.out.below hb)
  go_wp2_with (go_at_call 11; (with_reducible refine S.mono ?_); rintro e w3 ⟨rfl, h1⟩; clear S; replace hb := below_next hb h1 (Nat.le_refl _); clear h1)
  go_ret
  exact ⟨rfl, hb⟩

#print axioms Tryd.MetricTells_calls
end Go.Proofs
