/-
  DERIVED. GIVEN WITH THE SEED: THE CARDS: each row of YtbbbokkfhfmoeaaDoorRows.lean that lists a variable, with what it lists TIED to the program's text (the seventh form; the later family's looks); each row that meets fmt, with fmt's text TOLD by the authors' own Lean function (tested against real Go, not proved from fmt's source: count such statements apart). THE CARD IS WHAT COUNTS. Prove the row's statement (the work); the ties are given (YtbbbokkfhfmoeaaDoorTie.lean); close each card by the builder's one call (the guide's Derived/Test/ToyasCard.lean, 'card_holds'). Laid BY PROGRAM, IN A SANDBOX (cutbox-door.mjs). By AI agents, Wed Nov 11 2026. No macro, syntax, notation, axiom, sorry.
-/
import Derived.Test.YtbbbokkfhfmoeaaDoorRows
import GoSem.ClaimSeven
namespace Go.Proofs.YtbbbokkfhfmoeaaDoor
namespace Rows

/-- THE TIED CARD OF 'gimletlaw05.RefsReads'. -/
def refsReadsCard : Claim7 := { stood := { row := refsReadsRow, standIns := [], harness := (true, "084cceda7f336febd23b1ba8e2dc8784299ad4705ca84a0b71a02cdb18afe181"), looks := false }, kinds := [], alts := [], laidByText := true, laidKinds := [.data], laidTests := true, laidLooks := .later }
def RefsReadsCardSaid : Prop := Claim7.holds Tryd.pinned (.plain (OpenSpec.ofChange refsReadsSpec)) refsReadsCard

/-- THE TIED CARD OF 'gimletlaw05.RefsWrites'. -/
def refsWritesCard : Claim7 := { stood := { row := refsWritesRow, standIns := [], harness := (true, "084cceda7f336febd23b1ba8e2dc8784299ad4705ca84a0b71a02cdb18afe181"), looks := false }, kinds := [], alts := [], laidByText := true, laidKinds := [.data], laidTests := true, laidLooks := .later }
def RefsWritesCardSaid : Prop := Claim7.holds Tryd.pinned (.plain (OpenSpec.ofChange refsWritesSpec)) refsWritesCard

/-- THE TIED CARD OF 'gimletlaw05.RefsPlains'. -/
def refsPlainsCard : Claim7 := { stood := { row := refsPlainsRow, standIns := [], harness := (true, "084cceda7f336febd23b1ba8e2dc8784299ad4705ca84a0b71a02cdb18afe181"), looks := false }, kinds := [], alts := [], laidByText := true, laidKinds := [.data, .data, .pinned], laidTests := true, laidLooks := .later }
def RefsPlainsCardSaid : Prop := Claim7.holds Tryd.pinned (.plain (OpenSpec.ofChange refsPlainsSpec)) refsPlainsCard

/-- THE TIED CARD OF 'gimletlaw05.RefsBack'. -/
def refsBackCard : Claim7 := { stood := { row := refsBackRow, standIns := [], harness := (true, "084cceda7f336febd23b1ba8e2dc8784299ad4705ca84a0b71a02cdb18afe181"), looks := false }, kinds := [], alts := [], laidByText := true, laidKinds := [.data, .data, .pinned], laidTests := true, laidLooks := .later }
def RefsBackCardSaid : Prop := Claim7.holds Tryd.pinned (.plain (OpenSpec.ofChange refsBackSpec)) refsBackCard

/-- THE TIED CARD OF 'gimletlaw05.RefsNumbers'. -/
def refsNumbersCard : Claim7 := { stood := { row := refsNumbersRow, standIns := [], harness := (true, "084cceda7f336febd23b1ba8e2dc8784299ad4705ca84a0b71a02cdb18afe181"), looks := false }, kinds := [], alts := [], laidByText := true, laidKinds := [.data], laidTests := true, laidLooks := .later }
def RefsNumbersCardSaid : Prop := Claim7.holds Tryd.pinned (.plain (OpenSpec.ofChange refsNumbersSpec)) refsNumbersCard

/-- THE TIED CARD OF 'gimletlaw05.RefsCuts'. -/
def refsCutsCard : Claim7 := { stood := { row := refsCutsRow, standIns := [], harness := (true, "084cceda7f336febd23b1ba8e2dc8784299ad4705ca84a0b71a02cdb18afe181"), looks := false }, kinds := [], alts := [], laidByText := true, laidKinds := [.data], laidTests := true, laidLooks := .later }
def RefsCutsCardSaid : Prop := Claim7.holds Tryd.pinned (.plain (OpenSpec.ofChange refsCutsSpec)) refsCutsCard

/-- THE SECOND FORM's CARD OF 'gimletlaw05.RefsReads'. -/
def refsReadsUptoCard : Claim7 := { stood := { row := refsReadsUptoRow, standIns := [], harness := (true, "084cceda7f336febd23b1ba8e2dc8784299ad4705ca84a0b71a02cdb18afe181"), looks := false }, kinds := [], alts := [], laidByText := true, laidKinds := [.data], laidTests := true, laidLooks := .later }
def RefsReadsUptoCardSaid : Prop := Claim7.holds Tryd.pinned (.plain (OpenSpec.upto refsReadsSpec)) refsReadsUptoCard

/-- THE SECOND FORM's CARD OF 'gimletlaw05.RefsWrites'. -/
def refsWritesUptoCard : Claim7 := { stood := { row := refsWritesUptoRow, standIns := [], harness := (true, "084cceda7f336febd23b1ba8e2dc8784299ad4705ca84a0b71a02cdb18afe181"), looks := false }, kinds := [], alts := [], laidByText := true, laidKinds := [.data], laidTests := true, laidLooks := .later }
def RefsWritesUptoCardSaid : Prop := Claim7.holds Tryd.pinned (.plain (OpenSpec.upto refsWritesSpec)) refsWritesUptoCard

/-- THE SECOND FORM's CARD OF 'gimletlaw05.RefsPlains'. -/
def refsPlainsUptoCard : Claim7 := { stood := { row := refsPlainsUptoRow, standIns := [], harness := (true, "084cceda7f336febd23b1ba8e2dc8784299ad4705ca84a0b71a02cdb18afe181"), looks := false }, kinds := [], alts := [], laidByText := true, laidKinds := [.data, .data, .pinned], laidTests := true, laidLooks := .later }
def RefsPlainsUptoCardSaid : Prop := Claim7.holds Tryd.pinned (.plain (OpenSpec.upto refsPlainsSpec)) refsPlainsUptoCard

/-- THE SECOND FORM's CARD OF 'gimletlaw05.RefsBack'. -/
def refsBackUptoCard : Claim7 := { stood := { row := refsBackUptoRow, standIns := [], harness := (true, "084cceda7f336febd23b1ba8e2dc8784299ad4705ca84a0b71a02cdb18afe181"), looks := false }, kinds := [], alts := [], laidByText := true, laidKinds := [.data, .data, .pinned], laidTests := true, laidLooks := .later }
def RefsBackUptoCardSaid : Prop := Claim7.holds Tryd.pinned (.plain (OpenSpec.upto refsBackSpec)) refsBackUptoCard

/-- THE SECOND FORM's CARD OF 'gimletlaw05.RefsNumbers'. -/
def refsNumbersUptoCard : Claim7 := { stood := { row := refsNumbersUptoRow, standIns := [], harness := (true, "084cceda7f336febd23b1ba8e2dc8784299ad4705ca84a0b71a02cdb18afe181"), looks := false }, kinds := [], alts := [], laidByText := true, laidKinds := [.data], laidTests := true, laidLooks := .later }
def RefsNumbersUptoCardSaid : Prop := Claim7.holds Tryd.pinned (.plain (OpenSpec.upto refsNumbersSpec)) refsNumbersUptoCard

/-- THE SECOND FORM's CARD OF 'gimletlaw05.RefsCuts'. -/
def refsCutsUptoCard : Claim7 := { stood := { row := refsCutsUptoRow, standIns := [], harness := (true, "084cceda7f336febd23b1ba8e2dc8784299ad4705ca84a0b71a02cdb18afe181"), looks := false }, kinds := [], alts := [], laidByText := true, laidKinds := [.data], laidTests := true, laidLooks := .later }
def RefsCutsUptoCardSaid : Prop := Claim7.holds Tryd.pinned (.plain (OpenSpec.upto refsCutsSpec)) refsCutsUptoCard
end Rows
end Go.Proofs.YtbbbokkfhfmoeaaDoor
