/-
  NARROWER THAN 'FOR EVERY INPUT', by the rows' own cells (each row's printed sentence says how): MetricTells: laid · MetricKeys: laid · MetricTurns: laid · MetricScales: laid · MetricTriangle: laid · MetricOrder: laid.
  DERIVED. THE GIVEN ROWS OF THIS SEAT. 6 by the template 'for every input the law returns true; each argument reads behind the call as it read before'; 0 by the template 'total and deterministic' (their statements: YtjdifckofgaohaaDoorTotals.lean).
  GIVEN WITH THE SEED: the statements are not yours to turn. If you find one false, say at which input.
  Laid BY PROGRAM, IN A SANDBOX (cutbox-rows.mjs): the forced cells as the released guide's own fill.sh prints them over the translation ebcd7844f07d79b5… (all of the seat's roots in one cut). By AI agents, Wed Nov 11 2026. No macro, syntax, notation, axiom, sorry.
-/
import Derived.Test.YtjdifckofgaohaaDoorChecked
import GoSem.Claim
import GoSem.ClaimJoined
import GoSem.ClaimMapViews
import Derived.JoinedTies
import Derived.KernelRfl
namespace Go.Proofs.YtjdifckofgaohaaDoor
/- THE CELL 'sum', in the pinned program and in every row, IS THE sha256 OF THE DUMP (.gsa) THAT YtjdifckofgaohaaDoorProg.lean LOADS. Nothing in Lean hashes anything: it is a label: what it is worth is what the hold of that sum in a sandbox is worth. -/
noncomputable def Tryd.pinned : Pinned := { name := "ytjdifckofgaohaadoor", sum := "ebcd7844f07d79b55c9562fd72be2480feb930d4e955274d35bb5206cb57c116", checked := Tryd.checked }
namespace Rows
def none {H : Type} : Left H := { results := [], args := [] }

/- WHAT THE LISTED PACKAGE-LEVEL VARIABLES READ AS WHEN THE CALL BEGINS. Each datum BY PROGRAM (the guide's laid-datum.mjs) off the statement by which the dump's own 'gosem.cut.vars' lays the variable. In a bare row this is a premise. The card (YtjdifckofgaohaaDoorCards.lean) ties it to the program's text. -/
def laid_entrepot_metric_keywords {H : Type} : DataW H := .agg [.lit (.string [69, 88, 80, 76, 73, 67, 73, 84]), .lit (.string [69, 85, 67, 95, 50, 68]), .lit (.string [67, 69, 73, 76, 95, 50, 68]), .lit (.string [77, 65, 78, 95, 50, 68]), .lit (.string [77, 65, 88, 95, 50, 68]), .lit (.string [65, 84, 84])]

/-- 'entrepotlaw06.MetricTells': WHATEVER THE INPUT: true; the input reads as it did. -/
def metricTellsSpec : ChangeSpec := { name := "metricTells", fn := fun _ => fun
  | [d1, d2, d3, d4] => { results := [.lit (.bool true)], args := [d1, d2, d3, d4] }
  | _ => none }
def metricTellsRow : OpenClaim := { program := "ytjdifckofgaohaadoor", sum := "ebcd7844f07d79b55c9562fd72be2480feb930d4e955274d35bb5206cb57c116", func := "entrepot/entrepotlaw06.MetricTells", spec := "metricTells", unfollowed := true, recurses := true, named := ["entrepot/metric.keywords"], apart := false, laid := [("entrepot/metric.keywords", laid_entrepot_metric_keywords)] }
def MetricTellsSaid : Prop := metricTellsRow.holds Tryd.pinned (OpenSpec.ofChange metricTellsSpec)

/-- ITS FALSE NEIGHBOUR: 'it returns false'. Refute it at one input. -/
def metricTellsWrong : ChangeSpec := { name := "metricTells", fn := fun _ => fun
  | [d1, d2, d3, d4] => { results := [.lit (.bool false)], args := [d1, d2, d3, d4] }
  | _ => none }
def MetricTellsWrongFalsely : Prop := metricTellsRow.holds Tryd.pinned (OpenSpec.ofChange metricTellsWrong)

/-- 'entrepotlaw06.MetricKeys': WHATEVER THE INPUT: true; the input reads as it did. -/
def metricKeysSpec : ChangeSpec := { name := "metricKeys", fn := fun _ => fun
  | [d1, d2] => { results := [.lit (.bool true)], args := [d1, d2] }
  | _ => none }
def metricKeysRow : OpenClaim := { program := "ytjdifckofgaohaadoor", sum := "ebcd7844f07d79b55c9562fd72be2480feb930d4e955274d35bb5206cb57c116", func := "entrepot/entrepotlaw06.MetricKeys", spec := "metricKeys", unfollowed := true, recurses := true, named := ["entrepot/metric.keywords"], apart := false, laid := [("entrepot/metric.keywords", laid_entrepot_metric_keywords)] }
def MetricKeysSaid : Prop := metricKeysRow.holds Tryd.pinned (OpenSpec.ofChange metricKeysSpec)

/-- ITS FALSE NEIGHBOUR: 'it returns false'. Refute it at one input. -/
def metricKeysWrong : ChangeSpec := { name := "metricKeys", fn := fun _ => fun
  | [d1, d2] => { results := [.lit (.bool false)], args := [d1, d2] }
  | _ => none }
def MetricKeysWrongFalsely : Prop := metricKeysRow.holds Tryd.pinned (OpenSpec.ofChange metricKeysWrong)

/-- 'entrepotlaw06.MetricTurns': WHATEVER THE INPUT: true; the input reads as it did. -/
def metricTurnsSpec : ChangeSpec := { name := "metricTurns", fn := fun _ => fun
  | [d1, d2, d3, d4] => { results := [.lit (.bool true)], args := [d1, d2, d3, d4] }
  | _ => none }
def metricTurnsRow : OpenClaim := { program := "ytjdifckofgaohaadoor", sum := "ebcd7844f07d79b55c9562fd72be2480feb930d4e955274d35bb5206cb57c116", func := "entrepot/entrepotlaw06.MetricTurns", spec := "metricTurns", unfollowed := true, recurses := true, named := ["entrepot/metric.keywords"], apart := false, laid := [("entrepot/metric.keywords", laid_entrepot_metric_keywords)] }
def MetricTurnsSaid : Prop := metricTurnsRow.holds Tryd.pinned (OpenSpec.ofChange metricTurnsSpec)

/-- ITS FALSE NEIGHBOUR: 'it returns false'. Refute it at one input. -/
def metricTurnsWrong : ChangeSpec := { name := "metricTurns", fn := fun _ => fun
  | [d1, d2, d3, d4] => { results := [.lit (.bool false)], args := [d1, d2, d3, d4] }
  | _ => none }
def MetricTurnsWrongFalsely : Prop := metricTurnsRow.holds Tryd.pinned (OpenSpec.ofChange metricTurnsWrong)

/-- 'entrepotlaw06.MetricScales': WHATEVER THE INPUT: true; the input reads as it did. -/
def metricScalesSpec : ChangeSpec := { name := "metricScales", fn := fun _ => fun
  | [d1, d2, d3, d4] => { results := [.lit (.bool true)], args := [d1, d2, d3, d4] }
  | _ => none }
def metricScalesRow : OpenClaim := { program := "ytjdifckofgaohaadoor", sum := "ebcd7844f07d79b55c9562fd72be2480feb930d4e955274d35bb5206cb57c116", func := "entrepot/entrepotlaw06.MetricScales", spec := "metricScales", unfollowed := true, recurses := true, named := ["entrepot/metric.keywords"], apart := false, laid := [("entrepot/metric.keywords", laid_entrepot_metric_keywords)] }
def MetricScalesSaid : Prop := metricScalesRow.holds Tryd.pinned (OpenSpec.ofChange metricScalesSpec)

/-- ITS FALSE NEIGHBOUR: 'it returns false'. Refute it at one input. -/
def metricScalesWrong : ChangeSpec := { name := "metricScales", fn := fun _ => fun
  | [d1, d2, d3, d4] => { results := [.lit (.bool false)], args := [d1, d2, d3, d4] }
  | _ => none }
def MetricScalesWrongFalsely : Prop := metricScalesRow.holds Tryd.pinned (OpenSpec.ofChange metricScalesWrong)

/-- 'entrepotlaw06.MetricTriangle': WHATEVER THE INPUT: true; the input reads as it did. -/
def metricTriangleSpec : ChangeSpec := { name := "metricTriangle", fn := fun _ => fun
  | [d1, d2, d3, d4, d5, d6] => { results := [.lit (.bool true)], args := [d1, d2, d3, d4, d5, d6] }
  | _ => none }
def metricTriangleRow : OpenClaim := { program := "ytjdifckofgaohaadoor", sum := "ebcd7844f07d79b55c9562fd72be2480feb930d4e955274d35bb5206cb57c116", func := "entrepot/entrepotlaw06.MetricTriangle", spec := "metricTriangle", unfollowed := true, recurses := true, named := ["entrepot/metric.keywords"], apart := false, laid := [("entrepot/metric.keywords", laid_entrepot_metric_keywords)] }
def MetricTriangleSaid : Prop := metricTriangleRow.holds Tryd.pinned (OpenSpec.ofChange metricTriangleSpec)

/-- ITS FALSE NEIGHBOUR: 'it returns false'. Refute it at one input. -/
def metricTriangleWrong : ChangeSpec := { name := "metricTriangle", fn := fun _ => fun
  | [d1, d2, d3, d4, d5, d6] => { results := [.lit (.bool false)], args := [d1, d2, d3, d4, d5, d6] }
  | _ => none }
def MetricTriangleWrongFalsely : Prop := metricTriangleRow.holds Tryd.pinned (OpenSpec.ofChange metricTriangleWrong)

/-- 'entrepotlaw06.MetricOrder': WHATEVER THE INPUT: true; the input reads as it did. -/
def metricOrderSpec : ChangeSpec := { name := "metricOrder", fn := fun _ => fun
  | [d1, d2, d3] => { results := [.lit (.bool true)], args := [d1, d2, d3] }
  | _ => none }
def metricOrderRow : OpenClaim := { program := "ytjdifckofgaohaadoor", sum := "ebcd7844f07d79b55c9562fd72be2480feb930d4e955274d35bb5206cb57c116", func := "entrepot/entrepotlaw06.MetricOrder", spec := "metricOrder", unfollowed := true, recurses := true, named := ["entrepot/metric.keywords"], apart := false, laid := [("entrepot/metric.keywords", laid_entrepot_metric_keywords)] }
def MetricOrderSaid : Prop := metricOrderRow.holds Tryd.pinned (OpenSpec.ofChange metricOrderSpec)

/-- ITS FALSE NEIGHBOUR: 'it returns false'. Refute it at one input. -/
def metricOrderWrong : ChangeSpec := { name := "metricOrder", fn := fun _ => fun
  | [d1, d2, d3] => { results := [.lit (.bool false)], args := [d1, d2, d3] }
  | _ => none }
def MetricOrderWrongFalsely : Prop := metricOrderRow.holds Tryd.pinned (OpenSpec.ofChange metricOrderWrong)

/- THE SECOND FORM. 'bulk': how many values and letters a reading holds, each counted each time it is reached (what is shared counts as often as it is met; a slice's spare places count too). A statement '..UptoSaid' is the law's where the arguments, and the package variables that the reading takes, are together of bulk at most 1048576: NARROWER than '..Said'. Prove '..Said' where nothing that the law and all that it calls make is longer than what came in: it says more and counts as full. Else prove '..UptoSaid'. A law counts once. -/
mutual
def uptoBulk {H : Type} : DataW H → Nat
  | .lit (.string bytes) => bytes.length + 1
  | .lit _ => 1
  | .nil => 1
  | .ptr d => uptoBulk d + 1
  | .slice elems spare => uptoBulkAll elems + uptoBulkAll spare + 1
  | .agg parts => uptoBulkAll parts + 1
  | .iface _ d => uptoBulk d + 1
  | .map entries => uptoBulkEntries entries + 1
  | .held _ => 1
def uptoBulkAll {H : Type} : List (DataW H) → Nat
  | [] => 0
  | d :: r => uptoBulk d + uptoBulkAll r
def uptoBulkEntries {H : Type} : List (Lit × DataW H) → Nat
  | [] => 0
  | x :: r => uptoBulkEntry x + uptoBulkEntries r
def uptoBulkEntry {H : Type} : Lit × DataW H → Nat
  | (.string bytes, d) => bytes.length + uptoBulk d + 1
  | (_, d) => uptoBulk d + 1
 end
def uptoSmall : (H : Type) → List (DataW H) → Bool := fun _ ds => decide (uptoBulkAll ds ≤ 1048576)
def OpenSpec.upto (s : _root_.Go.ChangeSpec) : _root_.Go.OpenSpec := { _root_.Go.OpenSpec.ofChange s with cond := some uptoSmall }

/-- 'entrepotlaw06.MetricTells', WHERE WHAT IT READS IS OF BULK AT MOST 1048576: true; the input reads as it did. -/
def metricTellsUptoRow : OpenClaim := { program := "ytjdifckofgaohaadoor", sum := "ebcd7844f07d79b55c9562fd72be2480feb930d4e955274d35bb5206cb57c116", func := "entrepot/entrepotlaw06.MetricTells", spec := "metricTells", unfollowed := true, recurses := true, named := ["entrepot/metric.keywords"], apart := false, laid := [("entrepot/metric.keywords", laid_entrepot_metric_keywords)], narrowed := true }
def MetricTellsUptoSaid : Prop := metricTellsUptoRow.holds Tryd.pinned (OpenSpec.upto metricTellsSpec)

/-- 'entrepotlaw06.MetricKeys', WHERE WHAT IT READS IS OF BULK AT MOST 1048576: true; the input reads as it did. -/
def metricKeysUptoRow : OpenClaim := { program := "ytjdifckofgaohaadoor", sum := "ebcd7844f07d79b55c9562fd72be2480feb930d4e955274d35bb5206cb57c116", func := "entrepot/entrepotlaw06.MetricKeys", spec := "metricKeys", unfollowed := true, recurses := true, named := ["entrepot/metric.keywords"], apart := false, laid := [("entrepot/metric.keywords", laid_entrepot_metric_keywords)], narrowed := true }
def MetricKeysUptoSaid : Prop := metricKeysUptoRow.holds Tryd.pinned (OpenSpec.upto metricKeysSpec)

/-- 'entrepotlaw06.MetricTurns', WHERE WHAT IT READS IS OF BULK AT MOST 1048576: true; the input reads as it did. -/
def metricTurnsUptoRow : OpenClaim := { program := "ytjdifckofgaohaadoor", sum := "ebcd7844f07d79b55c9562fd72be2480feb930d4e955274d35bb5206cb57c116", func := "entrepot/entrepotlaw06.MetricTurns", spec := "metricTurns", unfollowed := true, recurses := true, named := ["entrepot/metric.keywords"], apart := false, laid := [("entrepot/metric.keywords", laid_entrepot_metric_keywords)], narrowed := true }
def MetricTurnsUptoSaid : Prop := metricTurnsUptoRow.holds Tryd.pinned (OpenSpec.upto metricTurnsSpec)

/-- 'entrepotlaw06.MetricScales', WHERE WHAT IT READS IS OF BULK AT MOST 1048576: true; the input reads as it did. -/
def metricScalesUptoRow : OpenClaim := { program := "ytjdifckofgaohaadoor", sum := "ebcd7844f07d79b55c9562fd72be2480feb930d4e955274d35bb5206cb57c116", func := "entrepot/entrepotlaw06.MetricScales", spec := "metricScales", unfollowed := true, recurses := true, named := ["entrepot/metric.keywords"], apart := false, laid := [("entrepot/metric.keywords", laid_entrepot_metric_keywords)], narrowed := true }
def MetricScalesUptoSaid : Prop := metricScalesUptoRow.holds Tryd.pinned (OpenSpec.upto metricScalesSpec)

/-- 'entrepotlaw06.MetricTriangle', WHERE WHAT IT READS IS OF BULK AT MOST 1048576: true; the input reads as it did. -/
def metricTriangleUptoRow : OpenClaim := { program := "ytjdifckofgaohaadoor", sum := "ebcd7844f07d79b55c9562fd72be2480feb930d4e955274d35bb5206cb57c116", func := "entrepot/entrepotlaw06.MetricTriangle", spec := "metricTriangle", unfollowed := true, recurses := true, named := ["entrepot/metric.keywords"], apart := false, laid := [("entrepot/metric.keywords", laid_entrepot_metric_keywords)], narrowed := true }
def MetricTriangleUptoSaid : Prop := metricTriangleUptoRow.holds Tryd.pinned (OpenSpec.upto metricTriangleSpec)

/-- 'entrepotlaw06.MetricOrder', WHERE WHAT IT READS IS OF BULK AT MOST 1048576: true; the input reads as it did. -/
def metricOrderUptoRow : OpenClaim := { program := "ytjdifckofgaohaadoor", sum := "ebcd7844f07d79b55c9562fd72be2480feb930d4e955274d35bb5206cb57c116", func := "entrepot/entrepotlaw06.MetricOrder", spec := "metricOrder", unfollowed := true, recurses := true, named := ["entrepot/metric.keywords"], apart := false, laid := [("entrepot/metric.keywords", laid_entrepot_metric_keywords)], narrowed := true }
def MetricOrderUptoSaid : Prop := metricOrderUptoRow.holds Tryd.pinned (OpenSpec.upto metricOrderSpec)

end Rows
end Go.Proofs.YtjdifckofgaohaaDoor
