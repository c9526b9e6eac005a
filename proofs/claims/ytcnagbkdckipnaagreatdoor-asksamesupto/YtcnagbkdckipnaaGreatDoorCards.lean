/-
  DERIVED. GIVEN WITH THE SEED: THE CARDS: each row of YtcnagbkdckipnaaGreatDoorRows.lean that lists a variable, with what it lists TIED to the program's text (the seventh form; the later family's looks); each row that meets fmt, with fmt's text TOLD by the authors' own Lean function (tested against real Go, not proved from fmt's source: count such statements apart). THE CARD IS WHAT COUNTS. Prove the row's statement (the work); the ties are given (YtcnagbkdckipnaaGreatDoorTie.lean); close each card by the builder's one call (the guide's Derived/Test/ToyasCard.lean, 'card_holds'). Laid BY PROGRAM, IN A SANDBOX (cutbox-door.mjs). By AI agents, Wed Nov 11 2026. No macro, syntax, notation, axiom, sorry.
-/
import Derived.Test.YtcnagbkdckipnaaGreatDoorRows
import GoSem.ClaimSeven
namespace Go.Proofs.YtcnagbkdckipnaaGreatDoor
namespace Rows

/-- THE TIED CARD OF 'gimletlaw11.AskParses'. -/
def askParsesCard : Claim7 := { stood := { row := askParsesRow, standIns := [], harness := (true, "dd546d6a5e1df30ee7aa04a54aebe2fce71ab79da1e10a4ba5a952fe843e02d7"), looks := true }, kinds := [], alts := [], laidByText := true, laidKinds := [.data, .data, .data, .data, .handle, .data, .data, .data, .data, .data, .pinned], laidTests := true, laidLooks := .later }
def AskParsesCardSaid : Prop := Claim7.holds Tryz.pinned (.plain (OpenSpec.ofChange askParsesSpec)) askParsesCard

/-- THE TIED CARD OF 'gimletlaw11.AskSames'. -/
def askSamesCard : Claim7 := { stood := { row := askSamesRow, standIns := [], harness := (true, "dd546d6a5e1df30ee7aa04a54aebe2fce71ab79da1e10a4ba5a952fe843e02d7"), looks := true }, kinds := [], alts := [], laidByText := true, laidKinds := [.data, .data, .data, .data, .data, .data, .data, .data, .data, .pinned], laidTests := true, laidLooks := .later }
def AskSamesCardSaid : Prop := Claim7.holds Tryz.pinned (.plain (OpenSpec.ofChange askSamesSpec)) askSamesCard

/-- THE SECOND FORM's CARD OF 'gimletlaw11.AskParses'. -/
def askParsesUptoCard : Claim7 := { stood := { row := askParsesUptoRow, standIns := [], harness := (true, "dd546d6a5e1df30ee7aa04a54aebe2fce71ab79da1e10a4ba5a952fe843e02d7"), looks := true }, kinds := [], alts := [], laidByText := true, laidKinds := [.data, .data, .data, .data, .handle, .data, .data, .data, .data, .data, .pinned], laidTests := true, laidLooks := .later }
def AskParsesUptoCardSaid : Prop := Claim7.holds Tryz.pinned (.plain (OpenSpec.upto askParsesSpec)) askParsesUptoCard

/-- THE SECOND FORM's CARD OF 'gimletlaw11.AskSames'. -/
def askSamesUptoCard : Claim7 := { stood := { row := askSamesUptoRow, standIns := [], harness := (true, "dd546d6a5e1df30ee7aa04a54aebe2fce71ab79da1e10a4ba5a952fe843e02d7"), looks := true }, kinds := [], alts := [], laidByText := true, laidKinds := [.data, .data, .data, .data, .data, .data, .data, .data, .data, .pinned], laidTests := true, laidLooks := .later }
def AskSamesUptoCardSaid : Prop := Claim7.holds Tryz.pinned (.plain (OpenSpec.upto askSamesSpec)) askSamesUptoCard
end Rows
end Go.Proofs.YtcnagbkdckipnaaGreatDoor
