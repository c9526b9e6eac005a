/-
  DERIVED. GIVEN WITH THE SEED: THE CARDS: each row of YtddinjgpoillgaaDoorRows.lean that lists a variable, with what it lists TIED to the program's text (the seventh form; the later family's looks); each row that meets fmt, with fmt's text TOLD by the authors' own Lean function (tested against real Go, not proved from fmt's source: count such statements apart). THE CARD IS WHAT COUNTS. Prove the row's statement (the work); the ties are given (YtddinjgpoillgaaDoorTie.lean); close each card by the builder's one call (the guide's Derived/Test/ToyasCard.lean, 'card_holds'). Laid BY PROGRAM, IN A SANDBOX (cutbox-door.mjs). By AI agents, Wed Nov 11 2026. No macro, syntax, notation, axiom, sorry.
-/
import Derived.Test.YtddinjgpoillgaaDoorRows
import GoSem.ClaimSeven
namespace Go.Proofs.YtddinjgpoillgaaDoor
namespace Rows

/-- THE TIED CARD OF 'gimletlaw16.HuntWords'. -/
def huntWordsCard : Claim7 := { stood := { row := huntWordsRow, standIns := [], harness := (true, "282f1a96bda97ac6b5ed60dc33a2b3cce39a91e4f61daaed68ad1ecc2147c995"), looks := false }, kinds := [], alts := [], laidByText := true, laidKinds := [.data, .pinned], laidTests := true, laidLooks := .later }
def HuntWordsCardSaid : Prop := Claim7.holds Tryd.pinned (.plain (OpenSpec.ofChange huntWordsSpec)) huntWordsCard

/-- THE TIED CARD OF 'gimletlaw16.HuntEarly'. -/
def huntEarlyCard : Claim7 := { stood := { row := huntEarlyRow, standIns := [], harness := (true, "282f1a96bda97ac6b5ed60dc33a2b3cce39a91e4f61daaed68ad1ecc2147c995"), looks := false }, kinds := [], alts := [], laidByText := true, laidKinds := [.data, .pinned], laidTests := true, laidLooks := .later }
def HuntEarlyCardSaid : Prop := Claim7.holds Tryd.pinned (.plain (OpenSpec.ofChange huntEarlySpec)) huntEarlyCard

/-- THE SECOND FORM's CARD OF 'gimletlaw16.HuntWords'. -/
def huntWordsUptoCard : Claim7 := { stood := { row := huntWordsUptoRow, standIns := [], harness := (true, "282f1a96bda97ac6b5ed60dc33a2b3cce39a91e4f61daaed68ad1ecc2147c995"), looks := false }, kinds := [], alts := [], laidByText := true, laidKinds := [.data, .pinned], laidTests := true, laidLooks := .later }
def HuntWordsUptoCardSaid : Prop := Claim7.holds Tryd.pinned (.plain (OpenSpec.upto huntWordsSpec)) huntWordsUptoCard

/-- THE SECOND FORM's CARD OF 'gimletlaw16.HuntEarly'. -/
def huntEarlyUptoCard : Claim7 := { stood := { row := huntEarlyUptoRow, standIns := [], harness := (true, "282f1a96bda97ac6b5ed60dc33a2b3cce39a91e4f61daaed68ad1ecc2147c995"), looks := false }, kinds := [], alts := [], laidByText := true, laidKinds := [.data, .pinned], laidTests := true, laidLooks := .later }
def HuntEarlyUptoCardSaid : Prop := Claim7.holds Tryd.pinned (.plain (OpenSpec.upto huntEarlySpec)) huntEarlyUptoCard
end Rows
end Go.Proofs.YtddinjgpoillgaaDoor
