/-
  DERIVED. GIVEN WITH THE SEED: THE CARDS: each row of YtfbjkebinbemdaaDoorRows.lean that lists a variable, with what it lists TIED to the program's text (the seventh form; the later family's looks); each row that meets fmt, with fmt's text TOLD by the authors' own Lean function (tested against real Go, not proved from fmt's source: count such statements apart). THE CARD IS WHAT COUNTS. Prove the row's statement (the work); the ties are given (YtfbjkebinbemdaaDoorTie.lean); close each card by the builder's one call (the guide's Derived/Test/ToyasCard.lean, 'card_holds'). Laid BY PROGRAM, IN A SANDBOX (cutbox-door.mjs). By AI agents, Wed Nov 11 2026. No macro, syntax, notation, axiom, sorry.
-/
import Derived.Test.YtfbjkebinbemdaaDoorRows
import GoSem.ClaimSeven
namespace Go.Proofs.YtfbjkebinbemdaaDoor
namespace Rows

/-- THE TIED CARD OF 'gimletlaw03.WordsAsked'. -/
def wordsAskedCard : Claim7 := { stood := { row := wordsAskedRow, standIns := [], harness := (true, "16ba14a260f8480625061dd3b9ed6893c296f2466e457fbbbf00a487b2d96940"), looks := false }, kinds := [], alts := [], laidByText := true, laidKinds := [.data, .data, .pinned], laidTests := true, laidLooks := .later }
def WordsAskedCardSaid : Prop := Claim7.holds Tryd.pinned (.plain (OpenSpec.ofChange wordsAskedSpec)) wordsAskedCard

/-- THE TIED CARD OF 'gimletlaw03.WordsFound'. -/
def wordsFoundCard : Claim7 := { stood := { row := wordsFoundRow, standIns := [], harness := (true, "16ba14a260f8480625061dd3b9ed6893c296f2466e457fbbbf00a487b2d96940"), looks := false }, kinds := [], alts := [], laidByText := true, laidKinds := [.data, .pinned], laidTests := true, laidLooks := .later }
def WordsFoundCardSaid : Prop := Claim7.holds Tryd.pinned (.plain (OpenSpec.ofChange wordsFoundSpec)) wordsFoundCard

/-- THE TIED CARD OF 'gimletlaw03.WordsTurned'. -/
def wordsTurnedCard : Claim7 := { stood := { row := wordsTurnedRow, standIns := [], harness := (true, "16ba14a260f8480625061dd3b9ed6893c296f2466e457fbbbf00a487b2d96940"), looks := false }, kinds := [], alts := [], laidByText := true, laidKinds := [.data, .pinned], laidTests := true, laidLooks := .later }
def WordsTurnedCardSaid : Prop := Claim7.holds Tryd.pinned (.plain (OpenSpec.ofChange wordsTurnedSpec)) wordsTurnedCard

/-- THE TIED CARD OF 'gimletlaw03.WordsBorders'. -/
def wordsBordersCard : Claim7 := { stood := { row := wordsBordersRow, standIns := [], harness := (true, "16ba14a260f8480625061dd3b9ed6893c296f2466e457fbbbf00a487b2d96940"), looks := false }, kinds := [], alts := [], laidByText := true, laidKinds := [.data, .pinned], laidTests := true, laidLooks := .later }
def WordsBordersCardSaid : Prop := Claim7.holds Tryd.pinned (.plain (OpenSpec.ofChange wordsBordersSpec)) wordsBordersCard

/-- THE TIED CARD OF 'gimletlaw03.WordsPieces'. -/
def wordsPiecesCard : Claim7 := { stood := { row := wordsPiecesRow, standIns := [], harness := (true, "16ba14a260f8480625061dd3b9ed6893c296f2466e457fbbbf00a487b2d96940"), looks := false }, kinds := [], alts := [], laidByText := true, laidKinds := [.data, .pinned], laidTests := true, laidLooks := .later }
def WordsPiecesCardSaid : Prop := Claim7.holds Tryd.pinned (.plain (OpenSpec.ofChange wordsPiecesSpec)) wordsPiecesCard

/-- THE TIED CARD OF 'gimletlaw03.WordsOrder'. -/
def wordsOrderCard : Claim7 := { stood := { row := wordsOrderRow, standIns := [], harness := (true, "16ba14a260f8480625061dd3b9ed6893c296f2466e457fbbbf00a487b2d96940"), looks := false }, kinds := [], alts := [], laidByText := true, laidKinds := [.data, .pinned], laidTests := true, laidLooks := .later }
def WordsOrderCardSaid : Prop := Claim7.holds Tryd.pinned (.plain (OpenSpec.ofChange wordsOrderSpec)) wordsOrderCard

/-- THE SECOND FORM's CARD OF 'gimletlaw03.WordsAsked'. -/
def wordsAskedUptoCard : Claim7 := { stood := { row := wordsAskedUptoRow, standIns := [], harness := (true, "16ba14a260f8480625061dd3b9ed6893c296f2466e457fbbbf00a487b2d96940"), looks := false }, kinds := [], alts := [], laidByText := true, laidKinds := [.data, .data, .pinned], laidTests := true, laidLooks := .later }
def WordsAskedUptoCardSaid : Prop := Claim7.holds Tryd.pinned (.plain (OpenSpec.upto wordsAskedSpec)) wordsAskedUptoCard

/-- THE SECOND FORM's CARD OF 'gimletlaw03.WordsFound'. -/
def wordsFoundUptoCard : Claim7 := { stood := { row := wordsFoundUptoRow, standIns := [], harness := (true, "16ba14a260f8480625061dd3b9ed6893c296f2466e457fbbbf00a487b2d96940"), looks := false }, kinds := [], alts := [], laidByText := true, laidKinds := [.data, .pinned], laidTests := true, laidLooks := .later }
def WordsFoundUptoCardSaid : Prop := Claim7.holds Tryd.pinned (.plain (OpenSpec.upto wordsFoundSpec)) wordsFoundUptoCard

/-- THE SECOND FORM's CARD OF 'gimletlaw03.WordsTurned'. -/
def wordsTurnedUptoCard : Claim7 := { stood := { row := wordsTurnedUptoRow, standIns := [], harness := (true, "16ba14a260f8480625061dd3b9ed6893c296f2466e457fbbbf00a487b2d96940"), looks := false }, kinds := [], alts := [], laidByText := true, laidKinds := [.data, .pinned], laidTests := true, laidLooks := .later }
def WordsTurnedUptoCardSaid : Prop := Claim7.holds Tryd.pinned (.plain (OpenSpec.upto wordsTurnedSpec)) wordsTurnedUptoCard

/-- THE SECOND FORM's CARD OF 'gimletlaw03.WordsBorders'. -/
def wordsBordersUptoCard : Claim7 := { stood := { row := wordsBordersUptoRow, standIns := [], harness := (true, "16ba14a260f8480625061dd3b9ed6893c296f2466e457fbbbf00a487b2d96940"), looks := false }, kinds := [], alts := [], laidByText := true, laidKinds := [.data, .pinned], laidTests := true, laidLooks := .later }
def WordsBordersUptoCardSaid : Prop := Claim7.holds Tryd.pinned (.plain (OpenSpec.upto wordsBordersSpec)) wordsBordersUptoCard

/-- THE SECOND FORM's CARD OF 'gimletlaw03.WordsPieces'. -/
def wordsPiecesUptoCard : Claim7 := { stood := { row := wordsPiecesUptoRow, standIns := [], harness := (true, "16ba14a260f8480625061dd3b9ed6893c296f2466e457fbbbf00a487b2d96940"), looks := false }, kinds := [], alts := [], laidByText := true, laidKinds := [.data, .pinned], laidTests := true, laidLooks := .later }
def WordsPiecesUptoCardSaid : Prop := Claim7.holds Tryd.pinned (.plain (OpenSpec.upto wordsPiecesSpec)) wordsPiecesUptoCard

/-- THE SECOND FORM's CARD OF 'gimletlaw03.WordsOrder'. -/
def wordsOrderUptoCard : Claim7 := { stood := { row := wordsOrderUptoRow, standIns := [], harness := (true, "16ba14a260f8480625061dd3b9ed6893c296f2466e457fbbbf00a487b2d96940"), looks := false }, kinds := [], alts := [], laidByText := true, laidKinds := [.data, .pinned], laidTests := true, laidLooks := .later }
def WordsOrderUptoCardSaid : Prop := Claim7.holds Tryd.pinned (.plain (OpenSpec.upto wordsOrderSpec)) wordsOrderUptoCard
end Rows
end Go.Proofs.YtfbjkebinbemdaaDoor
