/-
  NARROWER THAN 'FOR EVERY INPUT', by the rows' own cells (each row's printed sentence says how): LayoutTells: laid · LayoutUnpacks: laid · LayoutPacks: laid · LayoutBack: laid · LayoutOnce: laid · LayoutTurned: laid.
  DERIVED. THE GIVEN ROWS OF THIS SEAT. 6 by the template 'for every input the law returns true; each argument reads behind the call as it read before'; 0 by the template 'total and deterministic' (their statements: YtipajbcamdcnkaaDoorTotals.lean).
  GIVEN WITH THE SEED: the statements are not yours to turn. If you find one false, say at which input.
  Laid BY PROGRAM, IN A SANDBOX (cutbox-rows.mjs): the forced cells as the released guide's own fill.sh prints them over the translation cad857685dbfa1c0… (all of the seat's roots in one cut). By AI agents, Wed Nov 11 2026. No macro, syntax, notation, axiom, sorry.
-/
import Derived.Test.YtipajbcamdcnkaaDoorChecked
import GoSem.Claim
import GoSem.ClaimJoined
import GoSem.ClaimMapViews
import Derived.JoinedTies
import Derived.KernelRfl
namespace Go.Proofs.YtipajbcamdcnkaaDoor
/- THE CELL 'sum', in the pinned program and in every row, IS THE sha256 OF THE DUMP (.gsa) THAT YtipajbcamdcnkaaDoorProg.lean LOADS. Nothing in Lean hashes anything: it is a label: what it is worth is what the hold of that sum in a sandbox is worth. -/
noncomputable def Tryd.pinned : Pinned := { name := "ytipajbcamdcnkaadoor", sum := "cad857685dbfa1c01706f1574d31e5037defbc7acab0cc6c0e5e25fbc9022632", checked := Tryd.checked }
namespace Rows
def none {H : Type} : Left H := { results := [], args := [] }

/- WHAT THE LISTED PACKAGE-LEVEL VARIABLES READ AS WHEN THE CALL BEGINS. Each datum BY PROGRAM (the guide's laid-datum.mjs) off the statement by which the dump's own 'gosem.cut.vars' lays the variable. In a bare row this is a premise. The card (YtipajbcamdcnkaaDoorCards.lean) ties it to the program's text. -/
def laid_entrepot_layout_keywords {H : Type} : DataW H := .agg [.lit (.string []), .lit (.string [70, 85, 76, 76, 95, 77, 65, 84, 82, 73, 88]), .lit (.string [85, 80, 80, 69, 82, 95, 82, 79, 87]), .lit (.string [76, 79, 87, 69, 82, 95, 82, 79, 87]), .lit (.string [85, 80, 80, 69, 82, 95, 68, 73, 65, 71, 95, 82, 79, 87]), .lit (.string [76, 79, 87, 69, 82, 95, 68, 73, 65, 71, 95, 82, 79, 87]), .lit (.string [85, 80, 80, 69, 82, 95, 67, 79, 76]), .lit (.string [76, 79, 87, 69, 82, 95, 67, 79, 76])]

/-- 'entrepotlaw07.LayoutTells': WHATEVER THE INPUT: true; the input reads as it did. -/
def layoutTellsSpec : ChangeSpec := { name := "layoutTells", fn := fun _ => fun
  | [d1, d2, d3, d4, d5] => { results := [.lit (.bool true)], args := [d1, d2, d3, d4, d5] }
  | _ => none }
def layoutTellsRow : OpenClaim := { program := "ytipajbcamdcnkaadoor", sum := "cad857685dbfa1c01706f1574d31e5037defbc7acab0cc6c0e5e25fbc9022632", func := "entrepot/entrepotlaw07.LayoutTells", spec := "layoutTells", unfollowed := true, recurses := true, named := ["entrepot/layout.keywords"], apart := false, laid := [("entrepot/layout.keywords", laid_entrepot_layout_keywords)] }
def LayoutTellsSaid : Prop := layoutTellsRow.holds Tryd.pinned (OpenSpec.ofChange layoutTellsSpec)

/-- ITS FALSE NEIGHBOUR: 'it returns false'. Refute it at one input. -/
def layoutTellsWrong : ChangeSpec := { name := "layoutTells", fn := fun _ => fun
  | [d1, d2, d3, d4, d5] => { results := [.lit (.bool false)], args := [d1, d2, d3, d4, d5] }
  | _ => none }
def LayoutTellsWrongFalsely : Prop := layoutTellsRow.holds Tryd.pinned (OpenSpec.ofChange layoutTellsWrong)

/-- 'entrepotlaw07.LayoutUnpacks': WHATEVER THE INPUT: true; the input reads as it did. -/
def layoutUnpacksSpec : ChangeSpec := { name := "layoutUnpacks", fn := fun _ => fun
  | [d1, d2, d3] => { results := [.lit (.bool true)], args := [d1, d2, d3] }
  | _ => none }
def layoutUnpacksRow : OpenClaim := { program := "ytipajbcamdcnkaadoor", sum := "cad857685dbfa1c01706f1574d31e5037defbc7acab0cc6c0e5e25fbc9022632", func := "entrepot/entrepotlaw07.LayoutUnpacks", spec := "layoutUnpacks", unfollowed := true, recurses := true, named := ["entrepot/layout.keywords"], apart := false, laid := [("entrepot/layout.keywords", laid_entrepot_layout_keywords)] }
def LayoutUnpacksSaid : Prop := layoutUnpacksRow.holds Tryd.pinned (OpenSpec.ofChange layoutUnpacksSpec)

/-- ITS FALSE NEIGHBOUR: 'it returns false'. Refute it at one input. -/
def layoutUnpacksWrong : ChangeSpec := { name := "layoutUnpacks", fn := fun _ => fun
  | [d1, d2, d3] => { results := [.lit (.bool false)], args := [d1, d2, d3] }
  | _ => none }
def LayoutUnpacksWrongFalsely : Prop := layoutUnpacksRow.holds Tryd.pinned (OpenSpec.ofChange layoutUnpacksWrong)

/-- 'entrepotlaw07.LayoutPacks': WHATEVER THE INPUT: true; the input reads as it did. -/
def layoutPacksSpec : ChangeSpec := { name := "layoutPacks", fn := fun _ => fun
  | [d1, d2, d3] => { results := [.lit (.bool true)], args := [d1, d2, d3] }
  | _ => none }
def layoutPacksRow : OpenClaim := { program := "ytipajbcamdcnkaadoor", sum := "cad857685dbfa1c01706f1574d31e5037defbc7acab0cc6c0e5e25fbc9022632", func := "entrepot/entrepotlaw07.LayoutPacks", spec := "layoutPacks", unfollowed := true, recurses := true, named := ["entrepot/layout.keywords"], apart := false, laid := [("entrepot/layout.keywords", laid_entrepot_layout_keywords)] }
def LayoutPacksSaid : Prop := layoutPacksRow.holds Tryd.pinned (OpenSpec.ofChange layoutPacksSpec)

/-- ITS FALSE NEIGHBOUR: 'it returns false'. Refute it at one input. -/
def layoutPacksWrong : ChangeSpec := { name := "layoutPacks", fn := fun _ => fun
  | [d1, d2, d3] => { results := [.lit (.bool false)], args := [d1, d2, d3] }
  | _ => none }
def LayoutPacksWrongFalsely : Prop := layoutPacksRow.holds Tryd.pinned (OpenSpec.ofChange layoutPacksWrong)

/-- 'entrepotlaw07.LayoutBack': WHATEVER THE INPUT: true; the input reads as it did. -/
def layoutBackSpec : ChangeSpec := { name := "layoutBack", fn := fun _ => fun
  | [d1, d2, d3] => { results := [.lit (.bool true)], args := [d1, d2, d3] }
  | _ => none }
def layoutBackRow : OpenClaim := { program := "ytipajbcamdcnkaadoor", sum := "cad857685dbfa1c01706f1574d31e5037defbc7acab0cc6c0e5e25fbc9022632", func := "entrepot/entrepotlaw07.LayoutBack", spec := "layoutBack", unfollowed := true, recurses := true, named := ["entrepot/layout.keywords"], apart := false, laid := [("entrepot/layout.keywords", laid_entrepot_layout_keywords)] }
def LayoutBackSaid : Prop := layoutBackRow.holds Tryd.pinned (OpenSpec.ofChange layoutBackSpec)

/-- ITS FALSE NEIGHBOUR: 'it returns false'. Refute it at one input. -/
def layoutBackWrong : ChangeSpec := { name := "layoutBack", fn := fun _ => fun
  | [d1, d2, d3] => { results := [.lit (.bool false)], args := [d1, d2, d3] }
  | _ => none }
def LayoutBackWrongFalsely : Prop := layoutBackRow.holds Tryd.pinned (OpenSpec.ofChange layoutBackWrong)

/-- 'entrepotlaw07.LayoutOnce': WHATEVER THE INPUT: true; the input reads as it did. -/
def layoutOnceSpec : ChangeSpec := { name := "layoutOnce", fn := fun _ => fun
  | [d1, d2] => { results := [.lit (.bool true)], args := [d1, d2] }
  | _ => none }
def layoutOnceRow : OpenClaim := { program := "ytipajbcamdcnkaadoor", sum := "cad857685dbfa1c01706f1574d31e5037defbc7acab0cc6c0e5e25fbc9022632", func := "entrepot/entrepotlaw07.LayoutOnce", spec := "layoutOnce", unfollowed := true, recurses := true, named := ["entrepot/layout.keywords"], apart := false, laid := [("entrepot/layout.keywords", laid_entrepot_layout_keywords)] }
def LayoutOnceSaid : Prop := layoutOnceRow.holds Tryd.pinned (OpenSpec.ofChange layoutOnceSpec)

/-- ITS FALSE NEIGHBOUR: 'it returns false'. Refute it at one input. -/
def layoutOnceWrong : ChangeSpec := { name := "layoutOnce", fn := fun _ => fun
  | [d1, d2] => { results := [.lit (.bool false)], args := [d1, d2] }
  | _ => none }
def LayoutOnceWrongFalsely : Prop := layoutOnceRow.holds Tryd.pinned (OpenSpec.ofChange layoutOnceWrong)

/-- 'entrepotlaw07.LayoutTurned': WHATEVER THE INPUT: true; the input reads as it did. -/
def layoutTurnedSpec : ChangeSpec := { name := "layoutTurned", fn := fun _ => fun
  | [d1, d2] => { results := [.lit (.bool true)], args := [d1, d2] }
  | _ => none }
def layoutTurnedRow : OpenClaim := { program := "ytipajbcamdcnkaadoor", sum := "cad857685dbfa1c01706f1574d31e5037defbc7acab0cc6c0e5e25fbc9022632", func := "entrepot/entrepotlaw07.LayoutTurned", spec := "layoutTurned", unfollowed := true, recurses := true, named := ["entrepot/layout.keywords"], apart := false, laid := [("entrepot/layout.keywords", laid_entrepot_layout_keywords)] }
def LayoutTurnedSaid : Prop := layoutTurnedRow.holds Tryd.pinned (OpenSpec.ofChange layoutTurnedSpec)

/-- ITS FALSE NEIGHBOUR: 'it returns false'. Refute it at one input. -/
def layoutTurnedWrong : ChangeSpec := { name := "layoutTurned", fn := fun _ => fun
  | [d1, d2] => { results := [.lit (.bool false)], args := [d1, d2] }
  | _ => none }
def LayoutTurnedWrongFalsely : Prop := layoutTurnedRow.holds Tryd.pinned (OpenSpec.ofChange layoutTurnedWrong)

/- THE SECOND FORM. 'bulk': how many values and letters a reading holds, each counted each time it is reached (what is shared counts as often as it is met; a slice's spare places count too). A statement '..UptoSaid' is the law's where the arguments, and the package variables that the reading takes, are together of bulk at most 1048576: NARROWER than '..Said'. Prove '..Said' where nothing that the law and all that it calls make is longer than what came in: it says more and counts as full. Else prove '..UptoSaid'. A law counts once. -/
mutual
def uptoBulk {H : Type} : DataW H → Nat
  | .lit (.string bytes) => bytes.length + 1
  | .lit _ => 1
  | .nil => 1
  | .ptr d => uptoBulk d + 1
  | .slice elems spare => uptoBulkAll elems + uptoBulkAll spare + 1
  | .agg parts => uptoBulkAll parts + 1
  | .iface _ d => uptoBulk d + 1
  | .map entries => uptoBulkEntries entries + 1
  | .held _ => 1
def uptoBulkAll {H : Type} : List (DataW H) → Nat
  | [] => 0
  | d :: r => uptoBulk d + uptoBulkAll r
def uptoBulkEntries {H : Type} : List (Lit × DataW H) → Nat
  | [] => 0
  | x :: r => uptoBulkEntry x + uptoBulkEntries r
def uptoBulkEntry {H : Type} : Lit × DataW H → Nat
  | (.string bytes, d) => bytes.length + uptoBulk d + 1
  | (_, d) => uptoBulk d + 1
 end
def uptoSmall : (H : Type) → List (DataW H) → Bool := fun _ ds => decide (uptoBulkAll ds ≤ 1048576)
def OpenSpec.upto (s : _root_.Go.ChangeSpec) : _root_.Go.OpenSpec := { _root_.Go.OpenSpec.ofChange s with cond := some uptoSmall }

/-- 'entrepotlaw07.LayoutTells', WHERE WHAT IT READS IS OF BULK AT MOST 1048576: true; the input reads as it did. -/
def layoutTellsUptoRow : OpenClaim := { program := "ytipajbcamdcnkaadoor", sum := "cad857685dbfa1c01706f1574d31e5037defbc7acab0cc6c0e5e25fbc9022632", func := "entrepot/entrepotlaw07.LayoutTells", spec := "layoutTells", unfollowed := true, recurses := true, named := ["entrepot/layout.keywords"], apart := false, laid := [("entrepot/layout.keywords", laid_entrepot_layout_keywords)], narrowed := true }
def LayoutTellsUptoSaid : Prop := layoutTellsUptoRow.holds Tryd.pinned (OpenSpec.upto layoutTellsSpec)

/-- 'entrepotlaw07.LayoutUnpacks', WHERE WHAT IT READS IS OF BULK AT MOST 1048576: true; the input reads as it did. -/
def layoutUnpacksUptoRow : OpenClaim := { program := "ytipajbcamdcnkaadoor", sum := "cad857685dbfa1c01706f1574d31e5037defbc7acab0cc6c0e5e25fbc9022632", func := "entrepot/entrepotlaw07.LayoutUnpacks", spec := "layoutUnpacks", unfollowed := true, recurses := true, named := ["entrepot/layout.keywords"], apart := false, laid := [("entrepot/layout.keywords", laid_entrepot_layout_keywords)], narrowed := true }
def LayoutUnpacksUptoSaid : Prop := layoutUnpacksUptoRow.holds Tryd.pinned (OpenSpec.upto layoutUnpacksSpec)

/-- 'entrepotlaw07.LayoutPacks', WHERE WHAT IT READS IS OF BULK AT MOST 1048576: true; the input reads as it did. -/
def layoutPacksUptoRow : OpenClaim := { program := "ytipajbcamdcnkaadoor", sum := "cad857685dbfa1c01706f1574d31e5037defbc7acab0cc6c0e5e25fbc9022632", func := "entrepot/entrepotlaw07.LayoutPacks", spec := "layoutPacks", unfollowed := true, recurses := true, named := ["entrepot/layout.keywords"], apart := false, laid := [("entrepot/layout.keywords", laid_entrepot_layout_keywords)], narrowed := true }
def LayoutPacksUptoSaid : Prop := layoutPacksUptoRow.holds Tryd.pinned (OpenSpec.upto layoutPacksSpec)

/-- 'entrepotlaw07.LayoutBack', WHERE WHAT IT READS IS OF BULK AT MOST 1048576: true; the input reads as it did. -/
def layoutBackUptoRow : OpenClaim := { program := "ytipajbcamdcnkaadoor", sum := "cad857685dbfa1c01706f1574d31e5037defbc7acab0cc6c0e5e25fbc9022632", func := "entrepot/entrepotlaw07.LayoutBack", spec := "layoutBack", unfollowed := true, recurses := true, named := ["entrepot/layout.keywords"], apart := false, laid := [("entrepot/layout.keywords", laid_entrepot_layout_keywords)], narrowed := true }
def LayoutBackUptoSaid : Prop := layoutBackUptoRow.holds Tryd.pinned (OpenSpec.upto layoutBackSpec)

/-- 'entrepotlaw07.LayoutOnce', WHERE WHAT IT READS IS OF BULK AT MOST 1048576: true; the input reads as it did. -/
def layoutOnceUptoRow : OpenClaim := { program := "ytipajbcamdcnkaadoor", sum := "cad857685dbfa1c01706f1574d31e5037defbc7acab0cc6c0e5e25fbc9022632", func := "entrepot/entrepotlaw07.LayoutOnce", spec := "layoutOnce", unfollowed := true, recurses := true, named := ["entrepot/layout.keywords"], apart := false, laid := [("entrepot/layout.keywords", laid_entrepot_layout_keywords)], narrowed := true }
def LayoutOnceUptoSaid : Prop := layoutOnceUptoRow.holds Tryd.pinned (OpenSpec.upto layoutOnceSpec)

/-- 'entrepotlaw07.LayoutTurned', WHERE WHAT IT READS IS OF BULK AT MOST 1048576: true; the input reads as it did. -/
def layoutTurnedUptoRow : OpenClaim := { program := "ytipajbcamdcnkaadoor", sum := "cad857685dbfa1c01706f1574d31e5037defbc7acab0cc6c0e5e25fbc9022632", func := "entrepot/entrepotlaw07.LayoutTurned", spec := "layoutTurned", unfollowed := true, recurses := true, named := ["entrepot/layout.keywords"], apart := false, laid := [("entrepot/layout.keywords", laid_entrepot_layout_keywords)], narrowed := true }
def LayoutTurnedUptoSaid : Prop := layoutTurnedUptoRow.holds Tryd.pinned (OpenSpec.upto layoutTurnedSpec)

end Rows
end Go.Proofs.YtipajbcamdcnkaaDoor
