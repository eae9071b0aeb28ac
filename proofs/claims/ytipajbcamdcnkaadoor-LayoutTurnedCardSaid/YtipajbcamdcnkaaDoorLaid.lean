/- What the rows of this seat list: from their condition to the array of keywords; a world that meets it. -/
import Derived.Test.YtipajbcamdcnkaaDoorRows
import Derived.Test.YtipajbcamdcnkaaDoorLayoutKeysP
import Derived.LaidMore
import Derived.LaidHandle
import Derived.LaidLaws
import Derived.MakeChecks
import Derived.Stop.LaidErr
namespace Go.Proofs.YtipajbcamdcnkaaDoor
open Go.RowKit Go.TextTab

/-- What the rows list. -/
def laidAll : List (String × DataW Unit) := [("entrepot/layout.keywords", Rows.laid_entrepot_layout_keywords)]
theorem own : ownKnob Tryd.prog.godebug = none := by kernel_rfl
theorem door_met (os : Os) (args : Array Value) : laidMetH Tryd.prog laidAll ((World.doorLaid Tryd.prog 24 os).forCall (fun _ _ => 0) ⟨#[], args, []⟩).memory :=
  laidMetH_of_parts3 (fuel := 8) (laidMet_of_run' 8 (by kernel_rfl) (by kernel_rfl)) (by kernel_rfl) (by kernel_rfl)
theorem keywords_laid : (Rows.laid_entrepot_layout_keywords : DataW Unit) = textData Go.Layout.lkws := by kernel_rfl
theorem met_of_laid {W : World} (h : laidMetH Tryd.prog laidAll W) : LayTab W := by
  rw [MakeChecks.laidMetH_plain _ _ _ (by kernel_rfl)] at h
  rw [laidAll, keywords_laid] at h
  exact textsAre_of_head (g := 0) (t := 42) (e := 9) (n := 8) (by kernel_rfl) (by kernel_rfl) Tryd.underlying42 Tryd.underlying9 (by kernel_rfl) (by kernel_rfl) h
#print axioms door_met
#print axioms met_of_laid
end Go.Proofs.YtipajbcamdcnkaaDoor
