/-
  No cell of these rows narrows 'for every input' (looked for: loops, veiled, ifaces, maps, wideKeys, modest, calm, conditions, laid).
  DERIVED. THE GIVEN ROWS OF THIS SEAT. 7 by the template 'for every input the law returns true; each argument reads behind the call as it read before'; 0 by the template 'total and deterministic' (their statements: YtlgdhopiifoikaaTotals.lean).
  GIVEN WITH THE SEED: the statements are not yours to turn. If you find one false, say at which input.
  Laid BY PROGRAM, IN A SANDBOX (cutbox-rows.mjs): the forced cells as the released guide's own fill.sh prints them over the translation 608b48c5275f3d72… (all of the seat's roots in one cut). By AI agents, Wed Nov 11 2026. No macro, syntax, notation, axiom, sorry.
-/
import Derived.Test.YtlgdhopiifoikaaChecked
import GoSem.Claim
import GoSem.ClaimJoined
import GoSem.ClaimMapViews
import Derived.JoinedTies
import Derived.KernelRfl
namespace Go.Proofs.Ytlgdhopiifoikaa
/- THE CELL 'sum', in the pinned program and in every row, IS THE sha256 OF THE DUMP (.gsa) THAT YtlgdhopiifoikaaProg.lean LOADS. Nothing in Lean hashes anything: it is a label: what it is worth is what the hold of that sum in a sandbox is worth. -/
noncomputable def Try.pinned : Pinned := { name := "ytlgdhopiifoikaa", sum := "608b48c5275f3d7260e05fc501ed10c2a99892e9a52216cb5b0dc473e856a6db", checked := Try.checked }
namespace Rows
def none {H : Type} : Left H := { results := [], args := [] }

/-- 'entrepotlaw03.WordsFields': WHATEVER THE INPUT: true; the input reads as it did. -/
def wordsFieldsSpec : ChangeSpec := { name := "wordsFields", fn := fun _ => fun
  | [d1, d2, d3] => { results := [.lit (.bool true)], args := [d1, d2, d3] }
  | _ => none }
def wordsFieldsRow : OpenClaim := { program := "ytlgdhopiifoikaa", sum := "608b48c5275f3d7260e05fc501ed10c2a99892e9a52216cb5b0dc473e856a6db", func := "entrepot/entrepotlaw03.WordsFields", spec := "wordsFields", inPlace := ["internal/bytealg.IndexByteString", "internal/bytealg.IndexString"], unfollowed := true, recurses := true, named := ["internal/bytealg.MaxLen"], apart := false }
def WordsFieldsSaid : Prop := wordsFieldsRow.holds Try.pinned (OpenSpec.ofChange wordsFieldsSpec)

/-- ITS FALSE NEIGHBOUR: 'it returns false'. Refute it at one input. -/
def wordsFieldsWrong : ChangeSpec := { name := "wordsFields", fn := fun _ => fun
  | [d1, d2, d3] => { results := [.lit (.bool false)], args := [d1, d2, d3] }
  | _ => none }
def WordsFieldsWrongFalsely : Prop := wordsFieldsRow.holds Try.pinned (OpenSpec.ofChange wordsFieldsWrong)

/-- 'entrepotlaw03.WordsKeys': WHATEVER THE INPUT: true; the input reads as it did. -/
def wordsKeysSpec : ChangeSpec := { name := "wordsKeys", fn := fun _ => fun
  | [d1, d2, d3] => { results := [.lit (.bool true)], args := [d1, d2, d3] }
  | _ => none }
def wordsKeysRow : OpenClaim := { program := "ytlgdhopiifoikaa", sum := "608b48c5275f3d7260e05fc501ed10c2a99892e9a52216cb5b0dc473e856a6db", func := "entrepot/entrepotlaw03.WordsKeys", spec := "wordsKeys", inPlace := ["internal/bytealg.IndexByteString", "internal/bytealg.IndexString"], unfollowed := true, recurses := true, named := ["internal/bytealg.MaxLen"], apart := false }
def WordsKeysSaid : Prop := wordsKeysRow.holds Try.pinned (OpenSpec.ofChange wordsKeysSpec)

/-- ITS FALSE NEIGHBOUR: 'it returns false'. Refute it at one input. -/
def wordsKeysWrong : ChangeSpec := { name := "wordsKeys", fn := fun _ => fun
  | [d1, d2, d3] => { results := [.lit (.bool false)], args := [d1, d2, d3] }
  | _ => none }
def WordsKeysWrongFalsely : Prop := wordsKeysRow.holds Try.pinned (OpenSpec.ofChange wordsKeysWrong)

/-- 'entrepotlaw03.WordsTells': WHATEVER THE INPUT: true; the input reads as it did. -/
def wordsTellsSpec : ChangeSpec := { name := "wordsTells", fn := fun _ => fun
  | [d] => { results := [.lit (.bool true)], args := [d] }
  | _ => none }
def wordsTellsRow : OpenClaim := { program := "ytlgdhopiifoikaa", sum := "608b48c5275f3d7260e05fc501ed10c2a99892e9a52216cb5b0dc473e856a6db", func := "entrepot/entrepotlaw03.WordsTells", spec := "wordsTells", inPlace := ["internal/bytealg.IndexByteString", "internal/bytealg.IndexString"], unfollowed := true, recurses := true, named := ["internal/bytealg.MaxLen"], apart := false }
def WordsTellsSaid : Prop := wordsTellsRow.holds Try.pinned (OpenSpec.ofChange wordsTellsSpec)

/-- ITS FALSE NEIGHBOUR: 'it returns false'. Refute it at one input. -/
def wordsTellsWrong : ChangeSpec := { name := "wordsTells", fn := fun _ => fun
  | [d] => { results := [.lit (.bool false)], args := [d] }
  | _ => none }
def WordsTellsWrongFalsely : Prop := wordsTellsRow.holds Try.pinned (OpenSpec.ofChange wordsTellsWrong)

/-- 'entrepotlaw03.WordsJoined': WHATEVER THE INPUT: true; the input reads as it did. -/
def wordsJoinedSpec : ChangeSpec := { name := "wordsJoined", fn := fun _ => fun
  | [d1, d2] => { results := [.lit (.bool true)], args := [d1, d2] }
  | _ => none }
def wordsJoinedRow : OpenClaim := { program := "ytlgdhopiifoikaa", sum := "608b48c5275f3d7260e05fc501ed10c2a99892e9a52216cb5b0dc473e856a6db", func := "entrepot/entrepotlaw03.WordsJoined", spec := "wordsJoined", inPlace := ["internal/bytealg.IndexByteString", "internal/bytealg.IndexString"], unfollowed := true, recurses := true, named := ["internal/bytealg.MaxLen"], apart := false }
def WordsJoinedSaid : Prop := wordsJoinedRow.holds Try.pinned (OpenSpec.ofChange wordsJoinedSpec)

/-- ITS FALSE NEIGHBOUR: 'it returns false'. Refute it at one input. -/
def wordsJoinedWrong : ChangeSpec := { name := "wordsJoined", fn := fun _ => fun
  | [d1, d2] => { results := [.lit (.bool false)], args := [d1, d2] }
  | _ => none }
def WordsJoinedWrongFalsely : Prop := wordsJoinedRow.holds Try.pinned (OpenSpec.ofChange wordsJoinedWrong)

/-- 'entrepotlaw03.WordsCover': WHATEVER THE INPUT: true; the input reads as it did. -/
def wordsCoverSpec : ChangeSpec := { name := "wordsCover", fn := fun _ => fun
  | [d] => { results := [.lit (.bool true)], args := [d] }
  | _ => none }
def wordsCoverRow : OpenClaim := { program := "ytlgdhopiifoikaa", sum := "608b48c5275f3d7260e05fc501ed10c2a99892e9a52216cb5b0dc473e856a6db", func := "entrepot/entrepotlaw03.WordsCover", spec := "wordsCover", inPlace := ["internal/bytealg.IndexByteString", "internal/bytealg.IndexString"], unfollowed := true, recurses := true, named := ["internal/bytealg.MaxLen"], apart := false }
def WordsCoverSaid : Prop := wordsCoverRow.holds Try.pinned (OpenSpec.ofChange wordsCoverSpec)

/-- ITS FALSE NEIGHBOUR: 'it returns false'. Refute it at one input. -/
def wordsCoverWrong : ChangeSpec := { name := "wordsCover", fn := fun _ => fun
  | [d] => { results := [.lit (.bool false)], args := [d] }
  | _ => none }
def WordsCoverWrongFalsely : Prop := wordsCoverRow.holds Try.pinned (OpenSpec.ofChange wordsCoverWrong)

/-- 'entrepotlaw03.WordsPaired': WHATEVER THE INPUT: true; the input reads as it did. -/
def wordsPairedSpec : ChangeSpec := { name := "wordsPaired", fn := fun _ => fun
  | [d1, d2, d3] => { results := [.lit (.bool true)], args := [d1, d2, d3] }
  | _ => none }
def wordsPairedRow : OpenClaim := { program := "ytlgdhopiifoikaa", sum := "608b48c5275f3d7260e05fc501ed10c2a99892e9a52216cb5b0dc473e856a6db", func := "entrepot/entrepotlaw03.WordsPaired", spec := "wordsPaired", inPlace := ["internal/bytealg.IndexByteString", "internal/bytealg.IndexString"], unfollowed := true, recurses := true, named := ["internal/bytealg.MaxLen"], apart := false }
def WordsPairedSaid : Prop := wordsPairedRow.holds Try.pinned (OpenSpec.ofChange wordsPairedSpec)

/-- ITS FALSE NEIGHBOUR: 'it returns false'. Refute it at one input. -/
def wordsPairedWrong : ChangeSpec := { name := "wordsPaired", fn := fun _ => fun
  | [d1, d2, d3] => { results := [.lit (.bool false)], args := [d1, d2, d3] }
  | _ => none }
def WordsPairedWrongFalsely : Prop := wordsPairedRow.holds Try.pinned (OpenSpec.ofChange wordsPairedWrong)

/-- 'entrepotlaw03.WordsUpper': WHATEVER THE INPUT: true; the input reads as it did. -/
def wordsUpperSpec : ChangeSpec := { name := "wordsUpper", fn := fun _ => fun
  | [d] => { results := [.lit (.bool true)], args := [d] }
  | _ => none }
def wordsUpperRow : OpenClaim := { program := "ytlgdhopiifoikaa", sum := "608b48c5275f3d7260e05fc501ed10c2a99892e9a52216cb5b0dc473e856a6db", func := "entrepot/entrepotlaw03.WordsUpper", spec := "wordsUpper", inPlace := ["internal/bytealg.IndexByteString", "internal/bytealg.IndexString"], unfollowed := true, recurses := true, named := ["internal/bytealg.MaxLen"], apart := false }
def WordsUpperSaid : Prop := wordsUpperRow.holds Try.pinned (OpenSpec.ofChange wordsUpperSpec)

/-- ITS FALSE NEIGHBOUR: 'it returns false'. Refute it at one input. -/
def wordsUpperWrong : ChangeSpec := { name := "wordsUpper", fn := fun _ => fun
  | [d] => { results := [.lit (.bool false)], args := [d] }
  | _ => none }
def WordsUpperWrongFalsely : Prop := wordsUpperRow.holds Try.pinned (OpenSpec.ofChange wordsUpperWrong)

/- THE SECOND FORM. 'bulk': how many values and letters a reading holds, each counted each time it is reached (what is shared counts as often as it is met; a slice's spare places count too). A statement '..UptoSaid' is the law's where the arguments, and the package variables that the reading takes, are together of bulk at most 1048576: NARROWER than '..Said'. Prove '..Said' where nothing that the law and all that it calls make is longer than what came in: it says more and counts as full. Else prove '..UptoSaid'. A law counts once. -/
mutual
def uptoBulk {H : Type} : DataW H → Nat
  | .lit (.string bytes) => bytes.length + 1
  | .lit _ => 1
  | .nil => 1
  | .ptr d => uptoBulk d + 1
  | .slice elems spare => uptoBulkAll elems + uptoBulkAll spare + 1
  | .agg parts => uptoBulkAll parts + 1
  | .iface _ d => uptoBulk d + 1
  | .map entries => uptoBulkEntries entries + 1
  | .held _ => 1
def uptoBulkAll {H : Type} : List (DataW H) → Nat
  | [] => 0
  | d :: r => uptoBulk d + uptoBulkAll r
def uptoBulkEntries {H : Type} : List (Lit × DataW H) → Nat
  | [] => 0
  | x :: r => uptoBulkEntry x + uptoBulkEntries r
def uptoBulkEntry {H : Type} : Lit × DataW H → Nat
  | (.string bytes, d) => bytes.length + uptoBulk d + 1
  | (_, d) => uptoBulk d + 1
 end
def uptoSmall : (H : Type) → List (DataW H) → Bool := fun _ ds => decide (uptoBulkAll ds ≤ 1048576)
def OpenSpec.upto (s : _root_.Go.ChangeSpec) : _root_.Go.OpenSpec := { _root_.Go.OpenSpec.ofChange s with cond := some uptoSmall }

/-- 'entrepotlaw03.WordsFields', WHERE WHAT IT READS IS OF BULK AT MOST 1048576: true; the input reads as it did. -/
def wordsFieldsUptoRow : OpenClaim := { program := "ytlgdhopiifoikaa", sum := "608b48c5275f3d7260e05fc501ed10c2a99892e9a52216cb5b0dc473e856a6db", func := "entrepot/entrepotlaw03.WordsFields", spec := "wordsFields", inPlace := ["internal/bytealg.IndexByteString", "internal/bytealg.IndexString"], unfollowed := true, recurses := true, named := ["internal/bytealg.MaxLen"], apart := false, narrowed := true }
def WordsFieldsUptoSaid : Prop := wordsFieldsUptoRow.holds Try.pinned (OpenSpec.upto wordsFieldsSpec)

/-- 'entrepotlaw03.WordsKeys', WHERE WHAT IT READS IS OF BULK AT MOST 1048576: true; the input reads as it did. -/
def wordsKeysUptoRow : OpenClaim := { program := "ytlgdhopiifoikaa", sum := "608b48c5275f3d7260e05fc501ed10c2a99892e9a52216cb5b0dc473e856a6db", func := "entrepot/entrepotlaw03.WordsKeys", spec := "wordsKeys", inPlace := ["internal/bytealg.IndexByteString", "internal/bytealg.IndexString"], unfollowed := true, recurses := true, named := ["internal/bytealg.MaxLen"], apart := false, narrowed := true }
def WordsKeysUptoSaid : Prop := wordsKeysUptoRow.holds Try.pinned (OpenSpec.upto wordsKeysSpec)

/-- 'entrepotlaw03.WordsTells', WHERE WHAT IT READS IS OF BULK AT MOST 1048576: true; the input reads as it did. -/
def wordsTellsUptoRow : OpenClaim := { program := "ytlgdhopiifoikaa", sum := "608b48c5275f3d7260e05fc501ed10c2a99892e9a52216cb5b0dc473e856a6db", func := "entrepot/entrepotlaw03.WordsTells", spec := "wordsTells", inPlace := ["internal/bytealg.IndexByteString", "internal/bytealg.IndexString"], unfollowed := true, recurses := true, named := ["internal/bytealg.MaxLen"], apart := false, narrowed := true }
def WordsTellsUptoSaid : Prop := wordsTellsUptoRow.holds Try.pinned (OpenSpec.upto wordsTellsSpec)

/-- 'entrepotlaw03.WordsJoined', WHERE WHAT IT READS IS OF BULK AT MOST 1048576: true; the input reads as it did. -/
def wordsJoinedUptoRow : OpenClaim := { program := "ytlgdhopiifoikaa", sum := "608b48c5275f3d7260e05fc501ed10c2a99892e9a52216cb5b0dc473e856a6db", func := "entrepot/entrepotlaw03.WordsJoined", spec := "wordsJoined", inPlace := ["internal/bytealg.IndexByteString", "internal/bytealg.IndexString"], unfollowed := true, recurses := true, named := ["internal/bytealg.MaxLen"], apart := false, narrowed := true }
def WordsJoinedUptoSaid : Prop := wordsJoinedUptoRow.holds Try.pinned (OpenSpec.upto wordsJoinedSpec)

/-- 'entrepotlaw03.WordsCover', WHERE WHAT IT READS IS OF BULK AT MOST 1048576: true; the input reads as it did. -/
def wordsCoverUptoRow : OpenClaim := { program := "ytlgdhopiifoikaa", sum := "608b48c5275f3d7260e05fc501ed10c2a99892e9a52216cb5b0dc473e856a6db", func := "entrepot/entrepotlaw03.WordsCover", spec := "wordsCover", inPlace := ["internal/bytealg.IndexByteString", "internal/bytealg.IndexString"], unfollowed := true, recurses := true, named := ["internal/bytealg.MaxLen"], apart := false, narrowed := true }
def WordsCoverUptoSaid : Prop := wordsCoverUptoRow.holds Try.pinned (OpenSpec.upto wordsCoverSpec)

/-- 'entrepotlaw03.WordsPaired', WHERE WHAT IT READS IS OF BULK AT MOST 1048576: true; the input reads as it did. -/
def wordsPairedUptoRow : OpenClaim := { program := "ytlgdhopiifoikaa", sum := "608b48c5275f3d7260e05fc501ed10c2a99892e9a52216cb5b0dc473e856a6db", func := "entrepot/entrepotlaw03.WordsPaired", spec := "wordsPaired", inPlace := ["internal/bytealg.IndexByteString", "internal/bytealg.IndexString"], unfollowed := true, recurses := true, named := ["internal/bytealg.MaxLen"], apart := false, narrowed := true }
def WordsPairedUptoSaid : Prop := wordsPairedUptoRow.holds Try.pinned (OpenSpec.upto wordsPairedSpec)

/-- 'entrepotlaw03.WordsUpper', WHERE WHAT IT READS IS OF BULK AT MOST 1048576: true; the input reads as it did. -/
def wordsUpperUptoRow : OpenClaim := { program := "ytlgdhopiifoikaa", sum := "608b48c5275f3d7260e05fc501ed10c2a99892e9a52216cb5b0dc473e856a6db", func := "entrepot/entrepotlaw03.WordsUpper", spec := "wordsUpper", inPlace := ["internal/bytealg.IndexByteString", "internal/bytealg.IndexString"], unfollowed := true, recurses := true, named := ["internal/bytealg.MaxLen"], apart := false, narrowed := true }
def WordsUpperUptoSaid : Prop := wordsUpperUptoRow.holds Try.pinned (OpenSpec.upto wordsUpperSpec)

end Rows
end Go.Proofs.Ytlgdhopiifoikaa
