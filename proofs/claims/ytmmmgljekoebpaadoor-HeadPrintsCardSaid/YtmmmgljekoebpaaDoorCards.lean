/-
  DERIVED. GIVEN WITH THE SEED: THE CARDS: each row of YtmmmgljekoebpaaDoorRows.lean that lists a variable, with what it lists TIED to the program's text (the seventh form; the later family's looks); each row that meets fmt, with fmt's text TOLD by the authors' own Lean function (tested against real Go, not proved from fmt's source: count such statements apart). THE CARD IS WHAT COUNTS. Prove the row's statement (the work); the ties are given (YtmmmgljekoebpaaDoorTie.lean); close each card by the builder's one call (the guide's Derived/Test/ToyasCard.lean, 'card_holds'). Laid BY PROGRAM, IN A SANDBOX (cutbox-door.mjs). By AI agents, Wed Nov 11 2026. No macro, syntax, notation, axiom, sorry.
-/
import Derived.Test.YtmmmgljekoebpaaDoorRows
import GoSem.ClaimSeven
namespace Go.Proofs.YtmmmgljekoebpaaDoor
namespace Rows

/-- THE TIED CARD OF 'entrepotlaw14.HeadPrints'. -/
def headPrintsCard : Claim7 := { stood := { row := headPrintsRow, standIns := [], harness := (true, "cf77dbd82cacfd2934b44cc84a902544058a8d0fd6fc6bff7037ae418fd4d43e"), looks := true }, kinds := [], alts := [], laidByText := true, laidKinds := [.data, .data, .data, .data, .data], laidTests := true, laidLooks := .later }
def HeadPrintsCardSaid : Prop := Claim7.holds Tryd.pinned (.plain (OpenSpec.ofChange headPrintsSpec)) headPrintsCard

/-- THE TIED CARD OF 'entrepotlaw14.HeadBack'. -/
def headBackCard : Claim7 := { stood := { row := headBackRow, standIns := [], harness := (true, "cf77dbd82cacfd2934b44cc84a902544058a8d0fd6fc6bff7037ae418fd4d43e"), looks := true }, kinds := [], alts := [], laidByText := true, laidKinds := [.data, .data, .data, .data, .data], laidTests := true, laidLooks := .later }
def HeadBackCardSaid : Prop := Claim7.holds Tryd.pinned (.plain (OpenSpec.ofChange headBackSpec)) headBackCard

/-- THE TIED CARD OF 'entrepotlaw14.HeadTurned'. -/
def headTurnedCard : Claim7 := { stood := { row := headTurnedRow, standIns := [], harness := (true, "cf77dbd82cacfd2934b44cc84a902544058a8d0fd6fc6bff7037ae418fd4d43e"), looks := true }, kinds := [], alts := [], laidByText := true, laidKinds := [.data, .data, .data, .data, .data], laidTests := true, laidLooks := .later }
def HeadTurnedCardSaid : Prop := Claim7.holds Tryd.pinned (.plain (OpenSpec.ofChange headTurnedSpec)) headTurnedCard

/-- THE TIED CARD OF 'entrepotlaw14.HeadTwice'. -/
def headTwiceCard : Claim7 := { stood := { row := headTwiceRow, standIns := [], harness := (true, "cf77dbd82cacfd2934b44cc84a902544058a8d0fd6fc6bff7037ae418fd4d43e"), looks := true }, kinds := [], alts := [], laidByText := true, laidKinds := [.data, .data, .data, .data, .data], laidTests := true, laidLooks := .later }
def HeadTwiceCardSaid : Prop := Claim7.holds Tryd.pinned (.plain (OpenSpec.ofChange headTwiceSpec)) headTwiceCard

/-- THE TIED CARD OF 'entrepotlaw14.HeadLacks'. -/
def headLacksCard : Claim7 := { stood := { row := headLacksRow, standIns := [], harness := (true, "cf77dbd82cacfd2934b44cc84a902544058a8d0fd6fc6bff7037ae418fd4d43e"), looks := true }, kinds := [], alts := [], laidByText := true, laidKinds := [.data, .data, .data, .data, .data], laidTests := true, laidLooks := .later }
def HeadLacksCardSaid : Prop := Claim7.holds Tryd.pinned (.plain (OpenSpec.ofChange headLacksSpec)) headLacksCard

/-- THE TIED CARD OF 'entrepotlaw14.HeadTold'. -/
def headToldCard : Claim7 := { stood := { row := headToldRow, standIns := [], harness := (true, "cf77dbd82cacfd2934b44cc84a902544058a8d0fd6fc6bff7037ae418fd4d43e"), looks := true }, kinds := [], alts := [], laidByText := true, laidKinds := [.data, .data, .data, .data, .data], laidTests := true, laidLooks := .later }
def HeadToldCardSaid : Prop := Claim7.holds Tryd.pinned (.plain (OpenSpec.ofChange headToldSpec)) headToldCard

/-- THE SECOND FORM's CARD OF 'entrepotlaw14.HeadPrints'. -/
def headPrintsUptoCard : Claim7 := { stood := { row := headPrintsUptoRow, standIns := [], harness := (true, "cf77dbd82cacfd2934b44cc84a902544058a8d0fd6fc6bff7037ae418fd4d43e"), looks := true }, kinds := [], alts := [], laidByText := true, laidKinds := [.data, .data, .data, .data, .data], laidTests := true, laidLooks := .later }
def HeadPrintsUptoCardSaid : Prop := Claim7.holds Tryd.pinned (.plain (OpenSpec.upto headPrintsSpec)) headPrintsUptoCard

/-- THE SECOND FORM's CARD OF 'entrepotlaw14.HeadBack'. -/
def headBackUptoCard : Claim7 := { stood := { row := headBackUptoRow, standIns := [], harness := (true, "cf77dbd82cacfd2934b44cc84a902544058a8d0fd6fc6bff7037ae418fd4d43e"), looks := true }, kinds := [], alts := [], laidByText := true, laidKinds := [.data, .data, .data, .data, .data], laidTests := true, laidLooks := .later }
def HeadBackUptoCardSaid : Prop := Claim7.holds Tryd.pinned (.plain (OpenSpec.upto headBackSpec)) headBackUptoCard

/-- THE SECOND FORM's CARD OF 'entrepotlaw14.HeadTurned'. -/
def headTurnedUptoCard : Claim7 := { stood := { row := headTurnedUptoRow, standIns := [], harness := (true, "cf77dbd82cacfd2934b44cc84a902544058a8d0fd6fc6bff7037ae418fd4d43e"), looks := true }, kinds := [], alts := [], laidByText := true, laidKinds := [.data, .data, .data, .data, .data], laidTests := true, laidLooks := .later }
def HeadTurnedUptoCardSaid : Prop := Claim7.holds Tryd.pinned (.plain (OpenSpec.upto headTurnedSpec)) headTurnedUptoCard

/-- THE SECOND FORM's CARD OF 'entrepotlaw14.HeadTwice'. -/
def headTwiceUptoCard : Claim7 := { stood := { row := headTwiceUptoRow, standIns := [], harness := (true, "cf77dbd82cacfd2934b44cc84a902544058a8d0fd6fc6bff7037ae418fd4d43e"), looks := true }, kinds := [], alts := [], laidByText := true, laidKinds := [.data, .data, .data, .data, .data], laidTests := true, laidLooks := .later }
def HeadTwiceUptoCardSaid : Prop := Claim7.holds Tryd.pinned (.plain (OpenSpec.upto headTwiceSpec)) headTwiceUptoCard

/-- THE SECOND FORM's CARD OF 'entrepotlaw14.HeadLacks'. -/
def headLacksUptoCard : Claim7 := { stood := { row := headLacksUptoRow, standIns := [], harness := (true, "cf77dbd82cacfd2934b44cc84a902544058a8d0fd6fc6bff7037ae418fd4d43e"), looks := true }, kinds := [], alts := [], laidByText := true, laidKinds := [.data, .data, .data, .data, .data], laidTests := true, laidLooks := .later }
def HeadLacksUptoCardSaid : Prop := Claim7.holds Tryd.pinned (.plain (OpenSpec.upto headLacksSpec)) headLacksUptoCard

/-- THE SECOND FORM's CARD OF 'entrepotlaw14.HeadTold'. -/
def headToldUptoCard : Claim7 := { stood := { row := headToldUptoRow, standIns := [], harness := (true, "cf77dbd82cacfd2934b44cc84a902544058a8d0fd6fc6bff7037ae418fd4d43e"), looks := true }, kinds := [], alts := [], laidByText := true, laidKinds := [.data, .data, .data, .data, .data], laidTests := true, laidLooks := .later }
def HeadToldUptoCardSaid : Prop := Claim7.holds Tryd.pinned (.plain (OpenSpec.upto headToldSpec)) headToldUptoCard
end Rows
end Go.Proofs.YtmmmgljekoebpaaDoor
