/- What the rows of this seat list: from their condition to the tables; a world that meets it. -/
import Derived.Test.YtmmmgljekoebpaaGreatDoorRows
import Derived.Test.YtmmmgljekoebpaaGreatDoorG01
import Derived.Test.YtmmmgljekoebpaaGreatDoorG02
import Derived.LaidMore
import Derived.LaidHandle
import Derived.LaidLaws
import Derived.MakeChecks
import Derived.Stop.LaidErr
namespace Go.Proofs.YtmmmgljekoebpaaGreatDoor
open Go.RowKit Go.TextTab

/-- What the rows list. -/
def laidAll : List (String × DataW Unit) := [("math/bits.deBruijn32tab", Rows.laid_math_bits_deBruijn32tab), ("math/bits.deBruijn64tab", Rows.laid_math_bits_deBruijn64tab), ("internal/strconv.uint64pow10", Rows.laid_internal_strconv_uint64pow10), ("entrepot/metric.keywords", Rows.laid_entrepot_metric_keywords), ("entrepot/layout.keywords", Rows.laid_entrepot_layout_keywords)]
theorem own : ownKnob Tryz.prog.godebug = none := by kernel_rfl
theorem door_met (os : Os) (args : Array Value) : laidMetH Tryz.prog laidAll ((World.doorLaid Tryz.prog 24 os).forCall (fun _ _ => 0) ⟨#[], args, []⟩).memory :=
  laidMetH_of_parts3 (fuel := 8) (laidMet_of_run' 8 (by kernel_rfl) (by kernel_rfl)) (by kernel_rfl) (by kernel_rfl)
theorem FxTab_data : (Rows.laid_internal_strconv_uint64pow10 : DataW Unit) = Lib.tabData .u64 Lib.pow10Tab := by kernel_rfl
theorem FxTab_of_laid {W : World} (h : laidMetH Tryz.prog laidAll W) : FxTab W := by
  rw [MakeChecks.laidMetH_plain _ _ _ (by kernel_rfl)] at h
  have h2 := h.tail.tail
  rw [FxTab_data] at h2
  exact Lib.tabIs_of_head (g := 2) (t := 125) (e := 106) (n := 20) (by kernel_rfl) (by kernel_rfl) Tryz.underlying125 Tryz.underlying106 (by kernel_rfl) (by kernel_rfl) h2
theorem KeyTab_data : (Rows.laid_entrepot_metric_keywords : DataW Unit) = textData Go.Metric.kws := by kernel_rfl
theorem KeyTab_of_laid {W : World} (h : laidMetH Tryz.prog laidAll W) : KeyTab W := by
  rw [MakeChecks.laidMetH_plain _ _ _ (by kernel_rfl)] at h
  have h2 := h.tail.tail.tail
  rw [KeyTab_data] at h2
  exact textsAre_of_head (g := 0) (t := 76) (e := 9) (n := 6) (by kernel_rfl) (by kernel_rfl) Tryz.underlying76 Tryz.underlying9 (by kernel_rfl) (by kernel_rfl) h2
theorem LayTab_data : (Rows.laid_entrepot_layout_keywords : DataW Unit) = textData Go.Layout.lkws := by kernel_rfl
theorem LayTab_of_laid {W : World} (h : laidMetH Tryz.prog laidAll W) : LayTab W := by
  rw [MakeChecks.laidMetH_plain _ _ _ (by kernel_rfl)] at h
  have h2 := h.tail.tail.tail.tail
  rw [LayTab_data] at h2
  exact textsAre_of_head (g := 1) (t := 78) (e := 9) (n := 8) (by kernel_rfl) (by kernel_rfl) Tryz.underlying78 Tryz.underlying9 (by kernel_rfl) (by kernel_rfl) h2
/-- The tables that the program reads hold what the card lays. -/
structure HeadT (W : World) : Prop where
  fxTab : FxTab W
  keyTab : KeyTab W
  layTab : LayTab W
theorem HeadT.below {w W : World} (h : HeadT w) (hb : Below w.heap.size w W) : HeadT W := ⟨h.fxTab.below hb, h.keyTab.below hb, h.layTab.below hb⟩
theorem headT_of_laid {W : World} (h : laidMetH Tryz.prog laidAll W) : HeadT W := ⟨FxTab_of_laid h, KeyTab_of_laid h, LayTab_of_laid h⟩
#print axioms door_met
#print axioms headT_of_laid
end Go.Proofs.YtmmmgljekoebpaaGreatDoor
