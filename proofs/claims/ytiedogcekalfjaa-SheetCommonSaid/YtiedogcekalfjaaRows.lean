/-
  No cell of these rows narrows 'for every input' (looked for: loops, veiled, ifaces, maps, wideKeys, modest, calm, conditions, laid).
  DERIVED. THE GIVEN ROWS OF THIS SEAT. 5 by the template 'for every input the law returns true; each argument reads behind the call as it read before'; 0 by the template 'total and deterministic' (their statements: YtiedogcekalfjaaTotals.lean).
  GIVEN WITH THE SEED: the statements are not yours to turn. If you find one false, say at which input.
  Laid BY PROGRAM, IN A SANDBOX (cutbox-rows.mjs): the forced cells as the released guide's own fill.sh prints them over the translation 9d5dfeae581c1315… (all of the seat's roots in one cut). By AI agents, Wed Nov 11 2026. No macro, syntax, notation, axiom, sorry.
-/
import Derived.Test.YtiedogcekalfjaaChecked
import GoSem.Claim
import GoSem.ClaimJoined
import GoSem.ClaimMapViews
import Derived.JoinedTies
import Derived.KernelRfl
namespace Go.Proofs.Ytiedogcekalfjaa
/- THE CELL 'sum', in the pinned program and in every row, IS THE sha256 OF THE DUMP (.gsa) THAT YtiedogcekalfjaaProg.lean LOADS. Nothing in Lean hashes anything: it is a label: what it is worth is what the hold of that sum in a sandbox is worth. -/
noncomputable def Try.pinned : Pinned := { name := "ytiedogcekalfjaa", sum := "9d5dfeae581c1315cc23b9804fb1cb84ebf908ef97378642ee54a49c6e77d768", checked := Try.checked }
namespace Rows
def none {H : Type} : Left H := { results := [], args := [] }

/-- 'entrepotlaw13.SheetRows': WHATEVER THE INPUT: true; the input reads as it did. -/
def sheetRowsSpec : ChangeSpec := { name := "sheetRows", fn := fun _ => fun
  | [d1, d2, d3] => { results := [.lit (.bool true)], args := [d1, d2, d3] }
  | _ => none }
def sheetRowsRow : OpenClaim := { program := "ytiedogcekalfjaa", sum := "9d5dfeae581c1315cc23b9804fb1cb84ebf908ef97378642ee54a49c6e77d768", func := "entrepot/entrepotlaw13.SheetRows", spec := "sheetRows", inPlace := ["internal/bytealg.IndexByteString", "internal/bytealg.IndexString", "internal/abi.NoEscape", "internal/bytealg.MakeNoZero"], unfollowed := true, recurses := true, named := ["internal/bytealg.MaxLen"], apart := false }
def SheetRowsSaid : Prop := sheetRowsRow.holds Try.pinned (OpenSpec.ofChange sheetRowsSpec)

/-- ITS FALSE NEIGHBOUR: 'it returns false'. Refute it at one input. -/
def sheetRowsWrong : ChangeSpec := { name := "sheetRows", fn := fun _ => fun
  | [d1, d2, d3] => { results := [.lit (.bool false)], args := [d1, d2, d3] }
  | _ => none }
def SheetRowsWrongFalsely : Prop := sheetRowsRow.holds Try.pinned (OpenSpec.ofChange sheetRowsWrong)

/-- 'entrepotlaw13.SheetNumbers': WHATEVER THE INPUT: true; the input reads as it did. -/
def sheetNumbersSpec : ChangeSpec := { name := "sheetNumbers", fn := fun _ => fun
  | [d1, d2, d3] => { results := [.lit (.bool true)], args := [d1, d2, d3] }
  | _ => none }
def sheetNumbersRow : OpenClaim := { program := "ytiedogcekalfjaa", sum := "9d5dfeae581c1315cc23b9804fb1cb84ebf908ef97378642ee54a49c6e77d768", func := "entrepot/entrepotlaw13.SheetNumbers", spec := "sheetNumbers", inPlace := ["internal/bytealg.IndexByteString", "internal/bytealg.IndexString", "internal/abi.NoEscape", "internal/bytealg.MakeNoZero"], unfollowed := true, recurses := true, named := ["internal/bytealg.MaxLen"], apart := false }
def SheetNumbersSaid : Prop := sheetNumbersRow.holds Try.pinned (OpenSpec.ofChange sheetNumbersSpec)

/-- ITS FALSE NEIGHBOUR: 'it returns false'. Refute it at one input. -/
def sheetNumbersWrong : ChangeSpec := { name := "sheetNumbers", fn := fun _ => fun
  | [d1, d2, d3] => { results := [.lit (.bool false)], args := [d1, d2, d3] }
  | _ => none }
def SheetNumbersWrongFalsely : Prop := sheetNumbersRow.holds Try.pinned (OpenSpec.ofChange sheetNumbersWrong)

/-- 'entrepotlaw13.SheetFlat': WHATEVER THE INPUT: true; the input reads as it did. -/
def sheetFlatSpec : ChangeSpec := { name := "sheetFlat", fn := fun _ => fun
  | [d1, d2, d3] => { results := [.lit (.bool true)], args := [d1, d2, d3] }
  | _ => none }
def sheetFlatRow : OpenClaim := { program := "ytiedogcekalfjaa", sum := "9d5dfeae581c1315cc23b9804fb1cb84ebf908ef97378642ee54a49c6e77d768", func := "entrepot/entrepotlaw13.SheetFlat", spec := "sheetFlat", inPlace := ["internal/bytealg.IndexByteString", "internal/bytealg.IndexString", "internal/abi.NoEscape", "internal/bytealg.MakeNoZero"], unfollowed := true, recurses := true, named := ["internal/bytealg.MaxLen"], apart := false }
def SheetFlatSaid : Prop := sheetFlatRow.holds Try.pinned (OpenSpec.ofChange sheetFlatSpec)

/-- ITS FALSE NEIGHBOUR: 'it returns false'. Refute it at one input. -/
def sheetFlatWrong : ChangeSpec := { name := "sheetFlat", fn := fun _ => fun
  | [d1, d2, d3] => { results := [.lit (.bool false)], args := [d1, d2, d3] }
  | _ => none }
def SheetFlatWrongFalsely : Prop := sheetFlatRow.holds Try.pinned (OpenSpec.ofChange sheetFlatWrong)

/-- 'entrepotlaw13.SheetCommon': WHATEVER THE INPUT: true; the input reads as it did. -/
def sheetCommonSpec : ChangeSpec := { name := "sheetCommon", fn := fun _ => fun
  | [d] => { results := [.lit (.bool true)], args := [d] }
  | _ => none }
def sheetCommonRow : OpenClaim := { program := "ytiedogcekalfjaa", sum := "9d5dfeae581c1315cc23b9804fb1cb84ebf908ef97378642ee54a49c6e77d768", func := "entrepot/entrepotlaw13.SheetCommon", spec := "sheetCommon", inPlace := ["internal/bytealg.IndexByteString", "internal/bytealg.IndexString", "internal/abi.NoEscape", "internal/bytealg.MakeNoZero"], unfollowed := true, recurses := true, named := ["internal/bytealg.MaxLen"], apart := false }
def SheetCommonSaid : Prop := sheetCommonRow.holds Try.pinned (OpenSpec.ofChange sheetCommonSpec)

/-- ITS FALSE NEIGHBOUR: 'it returns false'. Refute it at one input. -/
def sheetCommonWrong : ChangeSpec := { name := "sheetCommon", fn := fun _ => fun
  | [d] => { results := [.lit (.bool false)], args := [d] }
  | _ => none }
def SheetCommonWrongFalsely : Prop := sheetCommonRow.holds Try.pinned (OpenSpec.ofChange sheetCommonWrong)

/-- 'entrepotlaw13.SheetBack': WHATEVER THE INPUT: true; the input reads as it did. -/
def sheetBackSpec : ChangeSpec := { name := "sheetBack", fn := fun _ => fun
  | [d1, d2] => { results := [.lit (.bool true)], args := [d1, d2] }
  | _ => none }
def sheetBackRow : OpenClaim := { program := "ytiedogcekalfjaa", sum := "9d5dfeae581c1315cc23b9804fb1cb84ebf908ef97378642ee54a49c6e77d768", func := "entrepot/entrepotlaw13.SheetBack", spec := "sheetBack", inPlace := ["internal/bytealg.IndexByteString", "internal/bytealg.IndexString", "internal/abi.NoEscape", "internal/bytealg.MakeNoZero"], unfollowed := true, recurses := true, named := ["internal/bytealg.MaxLen"], apart := false }
def SheetBackSaid : Prop := sheetBackRow.holds Try.pinned (OpenSpec.ofChange sheetBackSpec)

/-- ITS FALSE NEIGHBOUR: 'it returns false'. Refute it at one input. -/
def sheetBackWrong : ChangeSpec := { name := "sheetBack", fn := fun _ => fun
  | [d1, d2] => { results := [.lit (.bool false)], args := [d1, d2] }
  | _ => none }
def SheetBackWrongFalsely : Prop := sheetBackRow.holds Try.pinned (OpenSpec.ofChange sheetBackWrong)

/- THE SECOND FORM. 'bulk': how many values and letters a reading holds, each counted each time it is reached (what is shared counts as often as it is met; a slice's spare places count too). A statement '..UptoSaid' is the law's where the arguments, and the package variables that the reading takes, are together of bulk at most 1048576: NARROWER than '..Said'. Prove '..Said' where nothing that the law and all that it calls make is longer than what came in: it says more and counts as full. Else prove '..UptoSaid'. A law counts once. -/
mutual
def uptoBulk {H : Type} : DataW H → Nat
  | .lit (.string bytes) => bytes.length + 1
  | .lit _ => 1
  | .nil => 1
  | .ptr d => uptoBulk d + 1
  | .slice elems spare => uptoBulkAll elems + uptoBulkAll spare + 1
  | .agg parts => uptoBulkAll parts + 1
  | .iface _ d => uptoBulk d + 1
  | .map entries => uptoBulkEntries entries + 1
  | .held _ => 1
def uptoBulkAll {H : Type} : List (DataW H) → Nat
  | [] => 0
  | d :: r => uptoBulk d + uptoBulkAll r
def uptoBulkEntries {H : Type} : List (Lit × DataW H) → Nat
  | [] => 0
  | x :: r => uptoBulkEntry x + uptoBulkEntries r
def uptoBulkEntry {H : Type} : Lit × DataW H → Nat
  | (.string bytes, d) => bytes.length + uptoBulk d + 1
  | (_, d) => uptoBulk d + 1
 end
def uptoSmall : (H : Type) → List (DataW H) → Bool := fun _ ds => decide (uptoBulkAll ds ≤ 1048576)
def OpenSpec.upto (s : _root_.Go.ChangeSpec) : _root_.Go.OpenSpec := { _root_.Go.OpenSpec.ofChange s with cond := some uptoSmall }

/-- 'entrepotlaw13.SheetRows', WHERE WHAT IT READS IS OF BULK AT MOST 1048576: true; the input reads as it did. -/
def sheetRowsUptoRow : OpenClaim := { program := "ytiedogcekalfjaa", sum := "9d5dfeae581c1315cc23b9804fb1cb84ebf908ef97378642ee54a49c6e77d768", func := "entrepot/entrepotlaw13.SheetRows", spec := "sheetRows", inPlace := ["internal/bytealg.IndexByteString", "internal/bytealg.IndexString", "internal/abi.NoEscape", "internal/bytealg.MakeNoZero"], unfollowed := true, recurses := true, named := ["internal/bytealg.MaxLen"], apart := false, narrowed := true }
def SheetRowsUptoSaid : Prop := sheetRowsUptoRow.holds Try.pinned (OpenSpec.upto sheetRowsSpec)

/-- 'entrepotlaw13.SheetNumbers', WHERE WHAT IT READS IS OF BULK AT MOST 1048576: true; the input reads as it did. -/
def sheetNumbersUptoRow : OpenClaim := { program := "ytiedogcekalfjaa", sum := "9d5dfeae581c1315cc23b9804fb1cb84ebf908ef97378642ee54a49c6e77d768", func := "entrepot/entrepotlaw13.SheetNumbers", spec := "sheetNumbers", inPlace := ["internal/bytealg.IndexByteString", "internal/bytealg.IndexString", "internal/abi.NoEscape", "internal/bytealg.MakeNoZero"], unfollowed := true, recurses := true, named := ["internal/bytealg.MaxLen"], apart := false, narrowed := true }
def SheetNumbersUptoSaid : Prop := sheetNumbersUptoRow.holds Try.pinned (OpenSpec.upto sheetNumbersSpec)

/-- 'entrepotlaw13.SheetFlat', WHERE WHAT IT READS IS OF BULK AT MOST 1048576: true; the input reads as it did. -/
def sheetFlatUptoRow : OpenClaim := { program := "ytiedogcekalfjaa", sum := "9d5dfeae581c1315cc23b9804fb1cb84ebf908ef97378642ee54a49c6e77d768", func := "entrepot/entrepotlaw13.SheetFlat", spec := "sheetFlat", inPlace := ["internal/bytealg.IndexByteString", "internal/bytealg.IndexString", "internal/abi.NoEscape", "internal/bytealg.MakeNoZero"], unfollowed := true, recurses := true, named := ["internal/bytealg.MaxLen"], apart := false, narrowed := true }
def SheetFlatUptoSaid : Prop := sheetFlatUptoRow.holds Try.pinned (OpenSpec.upto sheetFlatSpec)

/-- 'entrepotlaw13.SheetCommon', WHERE WHAT IT READS IS OF BULK AT MOST 1048576: true; the input reads as it did. -/
def sheetCommonUptoRow : OpenClaim := { program := "ytiedogcekalfjaa", sum := "9d5dfeae581c1315cc23b9804fb1cb84ebf908ef97378642ee54a49c6e77d768", func := "entrepot/entrepotlaw13.SheetCommon", spec := "sheetCommon", inPlace := ["internal/bytealg.IndexByteString", "internal/bytealg.IndexString", "internal/abi.NoEscape", "internal/bytealg.MakeNoZero"], unfollowed := true, recurses := true, named := ["internal/bytealg.MaxLen"], apart := false, narrowed := true }
def SheetCommonUptoSaid : Prop := sheetCommonUptoRow.holds Try.pinned (OpenSpec.upto sheetCommonSpec)

/-- 'entrepotlaw13.SheetBack', WHERE WHAT IT READS IS OF BULK AT MOST 1048576: true; the input reads as it did. -/
def sheetBackUptoRow : OpenClaim := { program := "ytiedogcekalfjaa", sum := "9d5dfeae581c1315cc23b9804fb1cb84ebf908ef97378642ee54a49c6e77d768", func := "entrepot/entrepotlaw13.SheetBack", spec := "sheetBack", inPlace := ["internal/bytealg.IndexByteString", "internal/bytealg.IndexString", "internal/abi.NoEscape", "internal/bytealg.MakeNoZero"], unfollowed := true, recurses := true, named := ["internal/bytealg.MaxLen"], apart := false, narrowed := true }
def SheetBackUptoSaid : Prop := sheetBackUptoRow.holds Try.pinned (OpenSpec.upto sheetBackSpec)

end Rows
end Go.Proofs.Ytiedogcekalfjaa
