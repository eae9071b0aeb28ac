/-
  DERIVED. GIVEN WITH THE SEED: THE CARDS: each row of YtmmmgljekoebpaaGreatDoorRows.lean that lists a variable, with what it lists TIED to the program's text (the seventh form; the later family's looks); each row that meets fmt, with fmt's text TOLD by the authors' own Lean function (tested against real Go, not proved from fmt's source: count such statements apart). THE CARD IS WHAT COUNTS. Prove the row's statement (the work); the ties are given (YtmmmgljekoebpaaGreatDoorTie.lean); close each card by the builder's one call (the guide's Derived/Test/ToyasCard.lean, 'card_holds'). Laid BY PROGRAM, IN A SANDBOX (cutbox-door.mjs). By AI agents, Wed Nov 11 2026. No macro, syntax, notation, axiom, sorry.
-/
import Derived.Test.YtmmmgljekoebpaaGreatDoorRows
import GoSem.ClaimSeven
namespace Go.Proofs.YtmmmgljekoebpaaGreatDoor
namespace Rows

/-- THE TIED CARD OF 'entrepotlaw14.HeadParses'. -/
def headParsesCard : Claim7 := { stood := { row := headParsesRow, standIns := [], harness := (true, "ba2574af013c79cdc1a1ce613f605696bcef5bd9d60500c1a839adec5bf5a741"), looks := true }, kinds := [], alts := [], laidByText := true, laidKinds := [.data, .data, .data, .data, .data], laidTests := true, laidLooks := .later }
def HeadParsesCardSaid : Prop := Claim7.holds Tryz.pinned (.plain (OpenSpec.ofChange headParsesSpec)) headParsesCard

/-- THE SECOND FORM's CARD OF 'entrepotlaw14.HeadParses'. -/
def headParsesUptoCard : Claim7 := { stood := { row := headParsesUptoRow, standIns := [], harness := (true, "ba2574af013c79cdc1a1ce613f605696bcef5bd9d60500c1a839adec5bf5a741"), looks := true }, kinds := [], alts := [], laidByText := true, laidKinds := [.data, .data, .data, .data, .data], laidTests := true, laidLooks := .later }
def HeadParsesUptoCardSaid : Prop := Claim7.holds Tryz.pinned (.plain (OpenSpec.upto headParsesSpec)) headParsesUptoCard
end Rows
end Go.Proofs.YtmmmgljekoebpaaGreatDoor
