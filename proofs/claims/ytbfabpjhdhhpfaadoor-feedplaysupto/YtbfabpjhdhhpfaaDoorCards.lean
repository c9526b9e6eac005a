/-
  DERIVED. GIVEN WITH THE SEED: THE CARDS: each row of YtbfabpjhdhhpfaaDoorRows.lean that lists a variable, with what it lists TIED to the program's text (the seventh form; the later family's looks); each row that meets fmt, with fmt's text TOLD by the authors' own Lean function (tested against real Go, not proved from fmt's source: count such statements apart). THE CARD IS WHAT COUNTS. Prove the row's statement (the work); the ties are given (YtbfabpjhdhhpfaaDoorTie.lean); close each card by the builder's one call (the guide's Derived/Test/ToyasCard.lean, 'card_holds'). Laid BY PROGRAM, IN A SANDBOX (cutbox-door.mjs). By AI agents, Wed Nov 11 2026. No macro, syntax, notation, axiom, sorry.
-/
import Derived.Test.YtbfabpjhdhhpfaaDoorRows
import GoSem.ClaimSeven
namespace Go.Proofs.YtbfabpjhdhhpfaaDoor
namespace Rows

/-- THE TIED CARD OF 'gimletlaw04.FeedPlays'. -/
def feedPlaysCard : Claim7 := { stood := { row := feedPlaysRow, standIns := [], harness := (true, "5ac4a4c03bc3706259d1a5fa76965fef33ef397472e1cf108438c15e690f76b9"), looks := false }, kinds := [], alts := [], laidByText := true, laidKinds := [.data, .pinned], laidTests := true, laidLooks := .later }
def FeedPlaysCardSaid : Prop := Claim7.holds Tryd.pinned (.plain (OpenSpec.ofChange feedPlaysSpec)) feedPlaysCard

/-- THE TIED CARD OF 'gimletlaw04.FeedCuts'. -/
def feedCutsCard : Claim7 := { stood := { row := feedCutsRow, standIns := [], harness := (true, "5ac4a4c03bc3706259d1a5fa76965fef33ef397472e1cf108438c15e690f76b9"), looks := false }, kinds := [], alts := [], laidByText := true, laidKinds := [.data, .pinned], laidTests := true, laidLooks := .later }
def FeedCutsCardSaid : Prop := Claim7.holds Tryd.pinned (.plain (OpenSpec.ofChange feedCutsSpec)) feedCutsCard

/-- THE TIED CARD OF 'gimletlaw04.FeedChars'. -/
def feedCharsCard : Claim7 := { stood := { row := feedCharsRow, standIns := [], harness := (true, "5ac4a4c03bc3706259d1a5fa76965fef33ef397472e1cf108438c15e690f76b9"), looks := false }, kinds := [], alts := [], laidByText := true, laidKinds := [.data, .pinned], laidTests := true, laidLooks := .later }
def FeedCharsCardSaid : Prop := Claim7.holds Tryd.pinned (.plain (OpenSpec.ofChange feedCharsSpec)) feedCharsCard

/-- THE TIED CARD OF 'gimletlaw04.FeedEager'. -/
def feedEagerCard : Claim7 := { stood := { row := feedEagerRow, standIns := [], harness := (true, "5ac4a4c03bc3706259d1a5fa76965fef33ef397472e1cf108438c15e690f76b9"), looks := false }, kinds := [], alts := [], laidByText := true, laidKinds := [.data, .pinned], laidTests := true, laidLooks := .later }
def FeedEagerCardSaid : Prop := Claim7.holds Tryd.pinned (.plain (OpenSpec.ofChange feedEagerSpec)) feedEagerCard

/-- THE SECOND FORM's CARD OF 'gimletlaw04.FeedPlays'. -/
def feedPlaysUptoCard : Claim7 := { stood := { row := feedPlaysUptoRow, standIns := [], harness := (true, "5ac4a4c03bc3706259d1a5fa76965fef33ef397472e1cf108438c15e690f76b9"), looks := false }, kinds := [], alts := [], laidByText := true, laidKinds := [.data, .pinned], laidTests := true, laidLooks := .later }
def FeedPlaysUptoCardSaid : Prop := Claim7.holds Tryd.pinned (.plain (OpenSpec.upto feedPlaysSpec)) feedPlaysUptoCard

/-- THE SECOND FORM's CARD OF 'gimletlaw04.FeedCuts'. -/
def feedCutsUptoCard : Claim7 := { stood := { row := feedCutsUptoRow, standIns := [], harness := (true, "5ac4a4c03bc3706259d1a5fa76965fef33ef397472e1cf108438c15e690f76b9"), looks := false }, kinds := [], alts := [], laidByText := true, laidKinds := [.data, .pinned], laidTests := true, laidLooks := .later }
def FeedCutsUptoCardSaid : Prop := Claim7.holds Tryd.pinned (.plain (OpenSpec.upto feedCutsSpec)) feedCutsUptoCard

/-- THE SECOND FORM's CARD OF 'gimletlaw04.FeedChars'. -/
def feedCharsUptoCard : Claim7 := { stood := { row := feedCharsUptoRow, standIns := [], harness := (true, "5ac4a4c03bc3706259d1a5fa76965fef33ef397472e1cf108438c15e690f76b9"), looks := false }, kinds := [], alts := [], laidByText := true, laidKinds := [.data, .pinned], laidTests := true, laidLooks := .later }
def FeedCharsUptoCardSaid : Prop := Claim7.holds Tryd.pinned (.plain (OpenSpec.upto feedCharsSpec)) feedCharsUptoCard

/-- THE SECOND FORM's CARD OF 'gimletlaw04.FeedEager'. -/
def feedEagerUptoCard : Claim7 := { stood := { row := feedEagerUptoRow, standIns := [], harness := (true, "5ac4a4c03bc3706259d1a5fa76965fef33ef397472e1cf108438c15e690f76b9"), looks := false }, kinds := [], alts := [], laidByText := true, laidKinds := [.data, .pinned], laidTests := true, laidLooks := .later }
def FeedEagerUptoCardSaid : Prop := Claim7.holds Tryd.pinned (.plain (OpenSpec.upto feedEagerSpec)) feedEagerUptoCard
end Rows
end Go.Proofs.YtbfabpjhdhhpfaaDoor
