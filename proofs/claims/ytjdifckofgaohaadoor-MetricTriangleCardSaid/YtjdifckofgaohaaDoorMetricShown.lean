/- What entrepotlaw06.shown answers: true. Conditions: the array of keywords holds what the card lays. -/
import Derived.Test.YtjdifckofgaohaaDoorMetricFar
import Derived.Test.YtjdifckofgaohaaDoorMetricKeys
namespace Go.Metric
theorem see1 : distE 1 0 3 5 = (6, 0) := by decide +kernel
theorem see2 : distE 5 0 (-3) 5 = (2, 0) := by decide +kernel
theorem see3 : distE 6 1 30 40 = (50, 0) := by decide +kernel
theorem see4 : distE 0 0 3 5 = (0, 1) := by decide +kernel
end Go.Metric
namespace Go.Proofs
open Go.RowKit Go.Shelf Go.Root Go.Metric Go.TextTab
attribute [local go_sem] Oper.semAt_some

set_option maxRecDepth 100000 in
set_option maxHeartbeats 1000000 in
theorem Tryd.shown_calls (w : World) (hT : Words w) : Calls Tryd.prog 11 #[] w fun e w' => e = .returned (.bool true) ∧ Below w.heap.size w w' := by
  have D1 := fun (w : World) => Tryd.Dist_calls 1 0 3 5 w
  have D2 := fun (w : World) => Tryd.Dist_calls 5 0 (-3) 5 w
  have D3 := fun (w : World) => Tryd.Dist_calls 6 1 30 40 w
  have D4 := fun (w : World) => Tryd.Dist_calls 0 0 3 5 w
  rw [see1] at D1
  rw [see2] at D2
  rw [see3] at D3
  rw [see4] at D4
  have K : ∀ w : World, Words w → Calls Tryd.prog 16 #[.int .i64 1] w fun e w' => e = .returned (.string ⟨#[69, 85, 67, 95, 50, 68]⟩) ∧ w' = w := fun w h => Tryd.Keyword_calls 1 w h
  have HT := Lib.hid hT
  clear hT
  go_enter Tryd.func11, Tryd.ntmps11
  go_wp2_with (go_at_call 9; (with_reducible refine (D1 _).mono ?_); rintro e w1 ⟨rfl, hb⟩; clear D1)
  go_wp2_with (go_at_call 9; (with_reducible refine (D2 _).mono ?_); rintro e w2 ⟨rfl, h1⟩; clear D2; replace hb := below_next hb h1 (Nat.le_refl _); clear h1)
  go_wp2_with (go_at_call 9; (with_reducible refine (D3 _).mono ?_); rintro e w3 ⟨rfl, h1⟩; clear D3; replace hb := below_next hb h1 (Nat.le_refl _); clear h1)
  go_wp2_with (go_at_call 9; (with_reducible refine (D4 _).mono ?_); rintro e w4 ⟨rfl, h1⟩; clear D4; replace hb := below_next hb h1 (Nat.le_refl _); clear h1)
  have K4 := K w4 (HT.out.below hb)
  clear K
  go_wp2_with (go_at_call 16; (with_reducible refine K4.mono ?_); rintro e w5 ⟨rfl, hw5⟩; obtain rfl : w4 = w5 := hw5.symm)
  go_ret
  exact ⟨rfl, hb⟩
#print axioms Tryd.shown_calls
end Go.Proofs
