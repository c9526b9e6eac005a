/-
  DERIVED. GIVEN WITH THE SEED: THE CARDS: each row of YtfockjlegpbooaaGreatDoorRows.lean that lists a variable, with what it lists TIED to the program's text (the seventh form; the later family's looks); each row that meets fmt, with fmt's text TOLD by the authors' own Lean function (tested against real Go, not proved from fmt's source: count such statements apart). THE CARD IS WHAT COUNTS. Prove the row's statement (the work); the ties are given (YtfockjlegpbooaaGreatDoorTie.lean); close each card by the builder's one call (the guide's Derived/Test/ToyasCard.lean, 'card_holds'). Laid BY PROGRAM, IN A SANDBOX (cutbox-door.mjs). By AI agents, Wed Nov 11 2026. No macro, syntax, notation, axiom, sorry.
-/
import Derived.Test.YtfockjlegpbooaaGreatDoorRows
import GoSem.ClaimSeven
namespace Go.Proofs.YtfockjlegpbooaaGreatDoor
namespace Rows

/-- THE TIED CARD OF 'gimletlaw12.MeanSelects'. -/
def meanSelectsCard : Claim7 := { stood := { row := meanSelectsRow, standIns := [], harness := (true, "fd0df42df2b4667fbc42d98e0bc785c3918e2de1d1b5d23eea75a4ae495b6e35"), looks := false }, kinds := [], alts := [], laidByText := true, laidKinds := [.data, .data, .pinned], laidTests := true, laidLooks := .later }
def MeanSelectsCardSaid : Prop := Claim7.holds Tryz.pinned (.plain (OpenSpec.ofChange meanSelectsSpec)) meanSelectsCard

/-- THE TIED CARD OF 'gimletlaw12.MeanHolds'. -/
def meanHoldsCard : Claim7 := { stood := { row := meanHoldsRow, standIns := [], harness := (true, "fd0df42df2b4667fbc42d98e0bc785c3918e2de1d1b5d23eea75a4ae495b6e35"), looks := false }, kinds := [], alts := [], laidByText := true, laidKinds := [.data, .data, .pinned], laidTests := true, laidLooks := .later }
def MeanHoldsCardSaid : Prop := Claim7.holds Tryz.pinned (.plain (OpenSpec.ofChange meanHoldsSpec)) meanHoldsCard

/-- THE TIED CARD OF 'gimletlaw12.MeanCompared'. -/
def meanComparedCard : Claim7 := { stood := { row := meanComparedRow, standIns := [], harness := (true, "fd0df42df2b4667fbc42d98e0bc785c3918e2de1d1b5d23eea75a4ae495b6e35"), looks := false }, kinds := [], alts := [], laidByText := true, laidKinds := [.data, .data, .pinned], laidTests := true, laidLooks := .later }
def MeanComparedCardSaid : Prop := Claim7.holds Tryz.pinned (.plain (OpenSpec.ofChange meanComparedSpec)) meanComparedCard

/-- THE TIED CARD OF 'gimletlaw12.MeanSteps'. -/
def meanStepsCard : Claim7 := { stood := { row := meanStepsRow, standIns := [], harness := (true, "fd0df42df2b4667fbc42d98e0bc785c3918e2de1d1b5d23eea75a4ae495b6e35"), looks := false }, kinds := [], alts := [], laidByText := true, laidKinds := [.data, .data, .pinned], laidTests := true, laidLooks := .later }
def MeanStepsCardSaid : Prop := Claim7.holds Tryz.pinned (.plain (OpenSpec.ofChange meanStepsSpec)) meanStepsCard

/-- THE TIED CARD OF 'gimletlaw12.MeanLogic'. -/
def meanLogicCard : Claim7 := { stood := { row := meanLogicRow, standIns := [], harness := (true, "fd0df42df2b4667fbc42d98e0bc785c3918e2de1d1b5d23eea75a4ae495b6e35"), looks := false }, kinds := [], alts := [], laidByText := true, laidKinds := [.data, .data, .pinned], laidTests := true, laidLooks := .later }
def MeanLogicCardSaid : Prop := Claim7.holds Tryz.pinned (.plain (OpenSpec.ofChange meanLogicSpec)) meanLogicCard

/-- THE TIED CARD OF 'gimletlaw12.MeanNil'. -/
def meanNilCard : Claim7 := { stood := { row := meanNilRow, standIns := [], harness := (true, "fd0df42df2b4667fbc42d98e0bc785c3918e2de1d1b5d23eea75a4ae495b6e35"), looks := false }, kinds := [], alts := [], laidByText := true, laidKinds := [.data, .data, .pinned], laidTests := true, laidLooks := .later }
def MeanNilCardSaid : Prop := Claim7.holds Tryz.pinned (.plain (OpenSpec.ofChange meanNilSpec)) meanNilCard

/-- THE SECOND FORM's CARD OF 'gimletlaw12.MeanSelects'. -/
def meanSelectsUptoCard : Claim7 := { stood := { row := meanSelectsUptoRow, standIns := [], harness := (true, "fd0df42df2b4667fbc42d98e0bc785c3918e2de1d1b5d23eea75a4ae495b6e35"), looks := false }, kinds := [], alts := [], laidByText := true, laidKinds := [.data, .data, .pinned], laidTests := true, laidLooks := .later }
def MeanSelectsUptoCardSaid : Prop := Claim7.holds Tryz.pinned (.plain (OpenSpec.upto meanSelectsSpec)) meanSelectsUptoCard

/-- THE SECOND FORM's CARD OF 'gimletlaw12.MeanHolds'. -/
def meanHoldsUptoCard : Claim7 := { stood := { row := meanHoldsUptoRow, standIns := [], harness := (true, "fd0df42df2b4667fbc42d98e0bc785c3918e2de1d1b5d23eea75a4ae495b6e35"), looks := false }, kinds := [], alts := [], laidByText := true, laidKinds := [.data, .data, .pinned], laidTests := true, laidLooks := .later }
def MeanHoldsUptoCardSaid : Prop := Claim7.holds Tryz.pinned (.plain (OpenSpec.upto meanHoldsSpec)) meanHoldsUptoCard

/-- THE SECOND FORM's CARD OF 'gimletlaw12.MeanCompared'. -/
def meanComparedUptoCard : Claim7 := { stood := { row := meanComparedUptoRow, standIns := [], harness := (true, "fd0df42df2b4667fbc42d98e0bc785c3918e2de1d1b5d23eea75a4ae495b6e35"), looks := false }, kinds := [], alts := [], laidByText := true, laidKinds := [.data, .data, .pinned], laidTests := true, laidLooks := .later }
def MeanComparedUptoCardSaid : Prop := Claim7.holds Tryz.pinned (.plain (OpenSpec.upto meanComparedSpec)) meanComparedUptoCard

/-- THE SECOND FORM's CARD OF 'gimletlaw12.MeanSteps'. -/
def meanStepsUptoCard : Claim7 := { stood := { row := meanStepsUptoRow, standIns := [], harness := (true, "fd0df42df2b4667fbc42d98e0bc785c3918e2de1d1b5d23eea75a4ae495b6e35"), looks := false }, kinds := [], alts := [], laidByText := true, laidKinds := [.data, .data, .pinned], laidTests := true, laidLooks := .later }
def MeanStepsUptoCardSaid : Prop := Claim7.holds Tryz.pinned (.plain (OpenSpec.upto meanStepsSpec)) meanStepsUptoCard

/-- THE SECOND FORM's CARD OF 'gimletlaw12.MeanLogic'. -/
def meanLogicUptoCard : Claim7 := { stood := { row := meanLogicUptoRow, standIns := [], harness := (true, "fd0df42df2b4667fbc42d98e0bc785c3918e2de1d1b5d23eea75a4ae495b6e35"), looks := false }, kinds := [], alts := [], laidByText := true, laidKinds := [.data, .data, .pinned], laidTests := true, laidLooks := .later }
def MeanLogicUptoCardSaid : Prop := Claim7.holds Tryz.pinned (.plain (OpenSpec.upto meanLogicSpec)) meanLogicUptoCard

/-- THE SECOND FORM's CARD OF 'gimletlaw12.MeanNil'. -/
def meanNilUptoCard : Claim7 := { stood := { row := meanNilUptoRow, standIns := [], harness := (true, "fd0df42df2b4667fbc42d98e0bc785c3918e2de1d1b5d23eea75a4ae495b6e35"), looks := false }, kinds := [], alts := [], laidByText := true, laidKinds := [.data, .data, .pinned], laidTests := true, laidLooks := .later }
def MeanNilUptoCardSaid : Prop := Claim7.holds Tryz.pinned (.plain (OpenSpec.upto meanNilSpec)) meanNilUptoCard
end Rows
end Go.Proofs.YtfockjlegpbooaaGreatDoor
