/-
  DERIVED. GIVEN WITH THE SEED: THE CARDS: each row of YtinehnbjdlmopabDoorRows.lean that lists a variable, with what it lists TIED to the program's text (the seventh form; the later family's looks); each row that meets fmt, with fmt's text TOLD by the authors' own Lean function (tested against real Go, not proved from fmt's source: count such statements apart). THE CARD IS WHAT COUNTS. Prove the row's statement (the work); the ties are given (YtinehnbjdlmopabDoorTie.lean); close each card by the builder's one call (the guide's Derived/Test/ToyasCard.lean, 'card_holds'). Laid BY PROGRAM, IN A SANDBOX (cutbox-door.mjs). By AI agents, Wed Nov 11 2026. No macro, syntax, notation, axiom, sorry.
-/
import Derived.Test.YtinehnbjdlmopabDoorRows
import GoSem.ClaimSeven
namespace Go.Proofs.YtinehnbjdlmopabDoor
namespace Rows

/-- THE TIED CARD OF 'gimletlaw02.CharsRange'. -/
def charsRangeCard : Claim7 := { stood := { row := charsRangeRow, standIns := [], harness := (true, "f2d26b3b470d9d8258493906b79512219344731451c5456d65e9dbc2d64a41ad"), looks := false }, kinds := [], alts := [], laidByText := true, laidKinds := [.data, .data, .pinned], laidTests := true, laidLooks := .later }
def CharsRangeCardSaid : Prop := Claim7.holds Tryd.pinned (.plain (OpenSpec.ofChange charsRangeSpec)) charsRangeCard

/-- THE TIED CARD OF 'gimletlaw02.CharsWithin'. -/
def charsWithinCard : Claim7 := { stood := { row := charsWithinRow, standIns := [], harness := (true, "f2d26b3b470d9d8258493906b79512219344731451c5456d65e9dbc2d64a41ad"), looks := false }, kinds := [], alts := [], laidByText := true, laidKinds := [.data, .data, .pinned], laidTests := true, laidLooks := .later }
def CharsWithinCardSaid : Prop := Claim7.holds Tryd.pinned (.plain (OpenSpec.ofChange charsWithinSpec)) charsWithinCard

/-- THE SECOND FORM's CARD OF 'gimletlaw02.CharsRange'. -/
def charsRangeUptoCard : Claim7 := { stood := { row := charsRangeUptoRow, standIns := [], harness := (true, "f2d26b3b470d9d8258493906b79512219344731451c5456d65e9dbc2d64a41ad"), looks := false }, kinds := [], alts := [], laidByText := true, laidKinds := [.data, .data, .pinned], laidTests := true, laidLooks := .later }
def CharsRangeUptoCardSaid : Prop := Claim7.holds Tryd.pinned (.plain (OpenSpec.upto charsRangeSpec)) charsRangeUptoCard

/-- THE SECOND FORM's CARD OF 'gimletlaw02.CharsWithin'. -/
def charsWithinUptoCard : Claim7 := { stood := { row := charsWithinUptoRow, standIns := [], harness := (true, "f2d26b3b470d9d8258493906b79512219344731451c5456d65e9dbc2d64a41ad"), looks := false }, kinds := [], alts := [], laidByText := true, laidKinds := [.data, .data, .pinned], laidTests := true, laidLooks := .later }
def CharsWithinUptoCardSaid : Prop := Claim7.holds Tryd.pinned (.plain (OpenSpec.upto charsWithinSpec)) charsWithinUptoCard
end Rows
end Go.Proofs.YtinehnbjdlmopabDoor
