/-
  DERIVED. GIVEN WITH THE SEED: THE CARDS: each row of YteiiepjegdlbeaaDoorRows.lean that lists a variable, with what it lists TIED to the program's text (the seventh form; the later family's looks); each row that meets fmt, with fmt's text TOLD by the authors' own Lean function (tested against real Go, not proved from fmt's source: count such statements apart). THE CARD IS WHAT COUNTS. Prove the row's statement (the work); the ties are given (YteiiepjegdlbeaaDoorTie.lean); close each card by the builder's one call (the guide's Derived/Test/ToyasCard.lean, 'card_holds'). Laid BY PROGRAM, IN A SANDBOX (cutbox-door.mjs). By AI agents, Wed Nov 11 2026. No macro, syntax, notation, axiom, sorry.
-/
import Derived.Test.YteiiepjegdlbeaaDoorRows
import GoSem.ClaimSeven
namespace Go.Proofs.YteiiepjegdlbeaaDoor
namespace Rows

/-- THE TIED CARD OF 'gimletlaw06.ScanCuts'. -/
def scanCutsCard : Claim7 := { stood := { row := scanCutsRow, standIns := [], harness := (true, "64795b7a7499041e0afb9d73eb86a702cbdc15b15cccc447b6e93e835a779234"), looks := false }, kinds := [], alts := [], laidByText := true, laidKinds := [.data, .data, .pinned], laidTests := true, laidLooks := .later }
def ScanCutsCardSaid : Prop := Claim7.holds Tryd.pinned (.plain (OpenSpec.ofChange scanCutsSpec)) scanCutsCard

/-- THE TIED CARD OF 'gimletlaw06.ScanPlaces'. -/
def scanPlacesCard : Claim7 := { stood := { row := scanPlacesRow, standIns := [], harness := (true, "64795b7a7499041e0afb9d73eb86a702cbdc15b15cccc447b6e93e835a779234"), looks := false }, kinds := [], alts := [], laidByText := true, laidKinds := [.data, .data, .pinned], laidTests := true, laidLooks := .later }
def ScanPlacesCardSaid : Prop := Claim7.holds Tryd.pinned (.plain (OpenSpec.ofChange scanPlacesSpec)) scanPlacesCard

/-- THE TIED CARD OF 'gimletlaw06.ScanBad'. -/
def scanBadCard : Claim7 := { stood := { row := scanBadRow, standIns := [], harness := (true, "64795b7a7499041e0afb9d73eb86a702cbdc15b15cccc447b6e93e835a779234"), looks := false }, kinds := [], alts := [], laidByText := true, laidKinds := [.data, .data, .pinned], laidTests := true, laidLooks := .later }
def ScanBadCardSaid : Prop := Claim7.holds Tryd.pinned (.plain (OpenSpec.ofChange scanBadSpec)) scanBadCard

/-- THE TIED CARD OF 'gimletlaw06.ScanWritten'. -/
def scanWrittenCard : Claim7 := { stood := { row := scanWrittenRow, standIns := [], harness := (true, "64795b7a7499041e0afb9d73eb86a702cbdc15b15cccc447b6e93e835a779234"), looks := false }, kinds := [], alts := [], laidByText := true, laidKinds := [.data, .data, .pinned], laidTests := true, laidLooks := .later }
def ScanWrittenCardSaid : Prop := Claim7.holds Tryd.pinned (.plain (OpenSpec.ofChange scanWrittenSpec)) scanWrittenCard

/-- THE TIED CARD OF 'gimletlaw06.ScanNil'. -/
def scanNilCard : Claim7 := { stood := { row := scanNilRow, standIns := [], harness := (true, "64795b7a7499041e0afb9d73eb86a702cbdc15b15cccc447b6e93e835a779234"), looks := false }, kinds := [], alts := [], laidByText := true, laidKinds := [.data, .data, .pinned], laidTests := true, laidLooks := .later }
def ScanNilCardSaid : Prop := Claim7.holds Tryd.pinned (.plain (OpenSpec.ofChange scanNilSpec)) scanNilCard

/-- THE SECOND FORM's CARD OF 'gimletlaw06.ScanCuts'. -/
def scanCutsUptoCard : Claim7 := { stood := { row := scanCutsUptoRow, standIns := [], harness := (true, "64795b7a7499041e0afb9d73eb86a702cbdc15b15cccc447b6e93e835a779234"), looks := false }, kinds := [], alts := [], laidByText := true, laidKinds := [.data, .data, .pinned], laidTests := true, laidLooks := .later }
def ScanCutsUptoCardSaid : Prop := Claim7.holds Tryd.pinned (.plain (OpenSpec.upto scanCutsSpec)) scanCutsUptoCard

/-- THE SECOND FORM's CARD OF 'gimletlaw06.ScanPlaces'. -/
def scanPlacesUptoCard : Claim7 := { stood := { row := scanPlacesUptoRow, standIns := [], harness := (true, "64795b7a7499041e0afb9d73eb86a702cbdc15b15cccc447b6e93e835a779234"), looks := false }, kinds := [], alts := [], laidByText := true, laidKinds := [.data, .data, .pinned], laidTests := true, laidLooks := .later }
def ScanPlacesUptoCardSaid : Prop := Claim7.holds Tryd.pinned (.plain (OpenSpec.upto scanPlacesSpec)) scanPlacesUptoCard

/-- THE SECOND FORM's CARD OF 'gimletlaw06.ScanBad'. -/
def scanBadUptoCard : Claim7 := { stood := { row := scanBadUptoRow, standIns := [], harness := (true, "64795b7a7499041e0afb9d73eb86a702cbdc15b15cccc447b6e93e835a779234"), looks := false }, kinds := [], alts := [], laidByText := true, laidKinds := [.data, .data, .pinned], laidTests := true, laidLooks := .later }
def ScanBadUptoCardSaid : Prop := Claim7.holds Tryd.pinned (.plain (OpenSpec.upto scanBadSpec)) scanBadUptoCard

/-- THE SECOND FORM's CARD OF 'gimletlaw06.ScanWritten'. -/
def scanWrittenUptoCard : Claim7 := { stood := { row := scanWrittenUptoRow, standIns := [], harness := (true, "64795b7a7499041e0afb9d73eb86a702cbdc15b15cccc447b6e93e835a779234"), looks := false }, kinds := [], alts := [], laidByText := true, laidKinds := [.data, .data, .pinned], laidTests := true, laidLooks := .later }
def ScanWrittenUptoCardSaid : Prop := Claim7.holds Tryd.pinned (.plain (OpenSpec.upto scanWrittenSpec)) scanWrittenUptoCard

/-- THE SECOND FORM's CARD OF 'gimletlaw06.ScanNil'. -/
def scanNilUptoCard : Claim7 := { stood := { row := scanNilUptoRow, standIns := [], harness := (true, "64795b7a7499041e0afb9d73eb86a702cbdc15b15cccc447b6e93e835a779234"), looks := false }, kinds := [], alts := [], laidByText := true, laidKinds := [.data, .data, .pinned], laidTests := true, laidLooks := .later }
def ScanNilUptoCardSaid : Prop := Claim7.holds Tryd.pinned (.plain (OpenSpec.upto scanNilSpec)) scanNilUptoCard
end Rows
end Go.Proofs.YteiiepjegdlbeaaDoor
