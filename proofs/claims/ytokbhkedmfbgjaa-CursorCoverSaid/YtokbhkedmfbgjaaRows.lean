/-
  No cell of these rows narrows 'for every input' (looked for: loops, veiled, ifaces, maps, wideKeys, modest, calm, conditions, laid).
  DERIVED. THE GIVEN ROWS OF THIS SEAT. 6 by the template 'for every input the law returns true; each argument reads behind the call as it read before'; 0 by the template 'total and deterministic' (their statements: YtokbhkedmfbgjaaTotals.lean).
  GIVEN WITH THE SEED: the statements are not yours to turn. If you find one false, say at which input.
  Laid BY PROGRAM, IN A SANDBOX (cutbox-rows.mjs): the forced cells as the released guide's own fill.sh prints them over the translation 67a5b989eed5dddc… (all of the seat's roots in one cut). By AI agents, Wed Nov 11 2026. No macro, syntax, notation, axiom, sorry.
-/
import Derived.Test.YtokbhkedmfbgjaaChecked
import GoSem.Claim
import GoSem.ClaimJoined
import GoSem.ClaimMapViews
import Derived.JoinedTies
import Derived.KernelRfl
namespace Go.Proofs.Ytokbhkedmfbgjaa
/- THE CELL 'sum', in the pinned program and in every row, IS THE sha256 OF THE DUMP (.gsa) THAT YtokbhkedmfbgjaaProg.lean LOADS. Nothing in Lean hashes anything: it is a label: what it is worth is what the hold of that sum in a sandbox is worth. -/
noncomputable def Try.pinned : Pinned := { name := "ytokbhkedmfbgjaa", sum := "67a5b989eed5dddcc890dbdca6e381fd4537fa73172e3017895e6b70ef93a589", checked := Try.checked }
namespace Rows
def none {H : Type} : Left H := { results := [], args := [] }

/-- 'entrepotlaw01.CursorLines': WHATEVER THE INPUT: true; the input reads as it did. -/
def cursorLinesSpec : ChangeSpec := { name := "cursorLines", fn := fun _ => fun
  | [d] => { results := [.lit (.bool true)], args := [d] }
  | _ => none }
def cursorLinesRow : OpenClaim := { program := "ytokbhkedmfbgjaa", sum := "67a5b989eed5dddcc890dbdca6e381fd4537fa73172e3017895e6b70ef93a589", func := "entrepot/entrepotlaw01.CursorLines", spec := "cursorLines", unfollowed := true, recurses := true, apart := false }
def CursorLinesSaid : Prop := cursorLinesRow.holds Try.pinned (OpenSpec.ofChange cursorLinesSpec)

/-- ITS FALSE NEIGHBOUR: 'it returns false'. Refute it at one input. -/
def cursorLinesWrong : ChangeSpec := { name := "cursorLines", fn := fun _ => fun
  | [d] => { results := [.lit (.bool false)], args := [d] }
  | _ => none }
def CursorLinesWrongFalsely : Prop := cursorLinesRow.holds Try.pinned (OpenSpec.ofChange cursorLinesWrong)

/-- 'entrepotlaw01.CursorWhere': WHATEVER THE INPUT: true; the input reads as it did. -/
def cursorWhereSpec : ChangeSpec := { name := "cursorWhere", fn := fun _ => fun
  | [d1, d2, d3, d4] => { results := [.lit (.bool true)], args := [d1, d2, d3, d4] }
  | _ => none }
def cursorWhereRow : OpenClaim := { program := "ytokbhkedmfbgjaa", sum := "67a5b989eed5dddcc890dbdca6e381fd4537fa73172e3017895e6b70ef93a589", func := "entrepot/entrepotlaw01.CursorWhere", spec := "cursorWhere", unfollowed := true, recurses := true, apart := false }
def CursorWhereSaid : Prop := cursorWhereRow.holds Try.pinned (OpenSpec.ofChange cursorWhereSpec)

/-- ITS FALSE NEIGHBOUR: 'it returns false'. Refute it at one input. -/
def cursorWhereWrong : ChangeSpec := { name := "cursorWhere", fn := fun _ => fun
  | [d1, d2, d3, d4] => { results := [.lit (.bool false)], args := [d1, d2, d3, d4] }
  | _ => none }
def CursorWhereWrongFalsely : Prop := cursorWhereRow.holds Try.pinned (OpenSpec.ofChange cursorWhereWrong)

/-- 'entrepotlaw01.CursorBack': WHATEVER THE INPUT: true; the input reads as it did. -/
def cursorBackSpec : ChangeSpec := { name := "cursorBack", fn := fun _ => fun
  | [d1, d2, d3] => { results := [.lit (.bool true)], args := [d1, d2, d3] }
  | _ => none }
def cursorBackRow : OpenClaim := { program := "ytokbhkedmfbgjaa", sum := "67a5b989eed5dddcc890dbdca6e381fd4537fa73172e3017895e6b70ef93a589", func := "entrepot/entrepotlaw01.CursorBack", spec := "cursorBack", unfollowed := true, recurses := true, apart := false }
def CursorBackSaid : Prop := cursorBackRow.holds Try.pinned (OpenSpec.ofChange cursorBackSpec)

/-- ITS FALSE NEIGHBOUR: 'it returns false'. Refute it at one input. -/
def cursorBackWrong : ChangeSpec := { name := "cursorBack", fn := fun _ => fun
  | [d1, d2, d3] => { results := [.lit (.bool false)], args := [d1, d2, d3] }
  | _ => none }
def CursorBackWrongFalsely : Prop := cursorBackRow.holds Try.pinned (OpenSpec.ofChange cursorBackWrong)

/-- 'entrepotlaw01.CursorCover': WHATEVER THE INPUT: true; the input reads as it did. -/
def cursorCoverSpec : ChangeSpec := { name := "cursorCover", fn := fun _ => fun
  | [d] => { results := [.lit (.bool true)], args := [d] }
  | _ => none }
def cursorCoverRow : OpenClaim := { program := "ytokbhkedmfbgjaa", sum := "67a5b989eed5dddcc890dbdca6e381fd4537fa73172e3017895e6b70ef93a589", func := "entrepot/entrepotlaw01.CursorCover", spec := "cursorCover", unfollowed := true, recurses := true, apart := false }
def CursorCoverSaid : Prop := cursorCoverRow.holds Try.pinned (OpenSpec.ofChange cursorCoverSpec)

/-- ITS FALSE NEIGHBOUR: 'it returns false'. Refute it at one input. -/
def cursorCoverWrong : ChangeSpec := { name := "cursorCover", fn := fun _ => fun
  | [d] => { results := [.lit (.bool false)], args := [d] }
  | _ => none }
def CursorCoverWrongFalsely : Prop := cursorCoverRow.holds Try.pinned (OpenSpec.ofChange cursorCoverWrong)

/-- 'entrepotlaw01.CursorJoin': WHATEVER THE INPUT: true; the input reads as it did. -/
def cursorJoinSpec : ChangeSpec := { name := "cursorJoin", fn := fun _ => fun
  | [d1, d2] => { results := [.lit (.bool true)], args := [d1, d2] }
  | _ => none }
def cursorJoinRow : OpenClaim := { program := "ytokbhkedmfbgjaa", sum := "67a5b989eed5dddcc890dbdca6e381fd4537fa73172e3017895e6b70ef93a589", func := "entrepot/entrepotlaw01.CursorJoin", spec := "cursorJoin", unfollowed := true, recurses := true, apart := false }
def CursorJoinSaid : Prop := cursorJoinRow.holds Try.pinned (OpenSpec.ofChange cursorJoinSpec)

/-- ITS FALSE NEIGHBOUR: 'it returns false'. Refute it at one input. -/
def cursorJoinWrong : ChangeSpec := { name := "cursorJoin", fn := fun _ => fun
  | [d1, d2] => { results := [.lit (.bool false)], args := [d1, d2] }
  | _ => none }
def CursorJoinWrongFalsely : Prop := cursorJoinRow.holds Try.pinned (OpenSpec.ofChange cursorJoinWrong)

/-- 'entrepotlaw01.CursorEnds': WHATEVER THE INPUT: true; the input reads as it did. -/
def cursorEndsSpec : ChangeSpec := { name := "cursorEnds", fn := fun _ => fun
  | [d] => { results := [.lit (.bool true)], args := [d] }
  | _ => none }
def cursorEndsRow : OpenClaim := { program := "ytokbhkedmfbgjaa", sum := "67a5b989eed5dddcc890dbdca6e381fd4537fa73172e3017895e6b70ef93a589", func := "entrepot/entrepotlaw01.CursorEnds", spec := "cursorEnds", unfollowed := true, recurses := true, apart := false }
def CursorEndsSaid : Prop := cursorEndsRow.holds Try.pinned (OpenSpec.ofChange cursorEndsSpec)

/-- ITS FALSE NEIGHBOUR: 'it returns false'. Refute it at one input. -/
def cursorEndsWrong : ChangeSpec := { name := "cursorEnds", fn := fun _ => fun
  | [d] => { results := [.lit (.bool false)], args := [d] }
  | _ => none }
def CursorEndsWrongFalsely : Prop := cursorEndsRow.holds Try.pinned (OpenSpec.ofChange cursorEndsWrong)

/- THE SECOND FORM. 'bulk': how many values and letters a reading holds, each counted each time it is reached (what is shared counts as often as it is met; a slice's spare places count too). A statement '..UptoSaid' is the law's where the arguments, and the package variables that the reading takes, are together of bulk at most 1048576: NARROWER than '..Said'. Prove '..Said' where nothing that the law and all that it calls make is longer than what came in: it says more and counts as full. Else prove '..UptoSaid'. A law counts once. -/
mutual
def uptoBulk {H : Type} : DataW H → Nat
  | .lit (.string bytes) => bytes.length + 1
  | .lit _ => 1
  | .nil => 1
  | .ptr d => uptoBulk d + 1
  | .slice elems spare => uptoBulkAll elems + uptoBulkAll spare + 1
  | .agg parts => uptoBulkAll parts + 1
  | .iface _ d => uptoBulk d + 1
  | .map entries => uptoBulkEntries entries + 1
  | .held _ => 1
def uptoBulkAll {H : Type} : List (DataW H) → Nat
  | [] => 0
  | d :: r => uptoBulk d + uptoBulkAll r
def uptoBulkEntries {H : Type} : List (Lit × DataW H) → Nat
  | [] => 0
  | x :: r => uptoBulkEntry x + uptoBulkEntries r
def uptoBulkEntry {H : Type} : Lit × DataW H → Nat
  | (.string bytes, d) => bytes.length + uptoBulk d + 1
  | (_, d) => uptoBulk d + 1
 end
def uptoSmall : (H : Type) → List (DataW H) → Bool := fun _ ds => decide (uptoBulkAll ds ≤ 1048576)
def OpenSpec.upto (s : _root_.Go.ChangeSpec) : _root_.Go.OpenSpec := { _root_.Go.OpenSpec.ofChange s with cond := some uptoSmall }

/-- 'entrepotlaw01.CursorLines', WHERE WHAT IT READS IS OF BULK AT MOST 1048576: true; the input reads as it did. -/
def cursorLinesUptoRow : OpenClaim := { program := "ytokbhkedmfbgjaa", sum := "67a5b989eed5dddcc890dbdca6e381fd4537fa73172e3017895e6b70ef93a589", func := "entrepot/entrepotlaw01.CursorLines", spec := "cursorLines", unfollowed := true, recurses := true, apart := false, narrowed := true }
def CursorLinesUptoSaid : Prop := cursorLinesUptoRow.holds Try.pinned (OpenSpec.upto cursorLinesSpec)

/-- 'entrepotlaw01.CursorWhere', WHERE WHAT IT READS IS OF BULK AT MOST 1048576: true; the input reads as it did. -/
def cursorWhereUptoRow : OpenClaim := { program := "ytokbhkedmfbgjaa", sum := "67a5b989eed5dddcc890dbdca6e381fd4537fa73172e3017895e6b70ef93a589", func := "entrepot/entrepotlaw01.CursorWhere", spec := "cursorWhere", unfollowed := true, recurses := true, apart := false, narrowed := true }
def CursorWhereUptoSaid : Prop := cursorWhereUptoRow.holds Try.pinned (OpenSpec.upto cursorWhereSpec)

/-- 'entrepotlaw01.CursorBack', WHERE WHAT IT READS IS OF BULK AT MOST 1048576: true; the input reads as it did. -/
def cursorBackUptoRow : OpenClaim := { program := "ytokbhkedmfbgjaa", sum := "67a5b989eed5dddcc890dbdca6e381fd4537fa73172e3017895e6b70ef93a589", func := "entrepot/entrepotlaw01.CursorBack", spec := "cursorBack", unfollowed := true, recurses := true, apart := false, narrowed := true }
def CursorBackUptoSaid : Prop := cursorBackUptoRow.holds Try.pinned (OpenSpec.upto cursorBackSpec)

/-- 'entrepotlaw01.CursorCover', WHERE WHAT IT READS IS OF BULK AT MOST 1048576: true; the input reads as it did. -/
def cursorCoverUptoRow : OpenClaim := { program := "ytokbhkedmfbgjaa", sum := "67a5b989eed5dddcc890dbdca6e381fd4537fa73172e3017895e6b70ef93a589", func := "entrepot/entrepotlaw01.CursorCover", spec := "cursorCover", unfollowed := true, recurses := true, apart := false, narrowed := true }
def CursorCoverUptoSaid : Prop := cursorCoverUptoRow.holds Try.pinned (OpenSpec.upto cursorCoverSpec)

/-- 'entrepotlaw01.CursorJoin', WHERE WHAT IT READS IS OF BULK AT MOST 1048576: true; the input reads as it did. -/
def cursorJoinUptoRow : OpenClaim := { program := "ytokbhkedmfbgjaa", sum := "67a5b989eed5dddcc890dbdca6e381fd4537fa73172e3017895e6b70ef93a589", func := "entrepot/entrepotlaw01.CursorJoin", spec := "cursorJoin", unfollowed := true, recurses := true, apart := false, narrowed := true }
def CursorJoinUptoSaid : Prop := cursorJoinUptoRow.holds Try.pinned (OpenSpec.upto cursorJoinSpec)

/-- 'entrepotlaw01.CursorEnds', WHERE WHAT IT READS IS OF BULK AT MOST 1048576: true; the input reads as it did. -/
def cursorEndsUptoRow : OpenClaim := { program := "ytokbhkedmfbgjaa", sum := "67a5b989eed5dddcc890dbdca6e381fd4537fa73172e3017895e6b70ef93a589", func := "entrepot/entrepotlaw01.CursorEnds", spec := "cursorEnds", unfollowed := true, recurses := true, apart := false, narrowed := true }
def CursorEndsUptoSaid : Prop := cursorEndsUptoRow.holds Try.pinned (OpenSpec.upto cursorEndsSpec)

end Rows
end Go.Proofs.Ytokbhkedmfbgjaa
