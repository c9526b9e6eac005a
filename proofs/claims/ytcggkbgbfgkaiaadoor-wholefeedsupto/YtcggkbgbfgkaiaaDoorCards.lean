/-
  DERIVED. GIVEN WITH THE SEED: THE CARDS: each row of YtcggkbgbfgkaiaaDoorRows.lean that lists a variable, with what it lists TIED to the program's text (the seventh form; the later family's looks); each row that meets fmt, with fmt's text TOLD by the authors' own Lean function (tested against real Go, not proved from fmt's source: count such statements apart). THE CARD IS WHAT COUNTS. Prove the row's statement (the work); the ties are given (YtcggkbgbfgkaiaaDoorTie.lean); close each card by the builder's one call (the guide's Derived/Test/ToyasCard.lean, 'card_holds'). Laid BY PROGRAM, IN A SANDBOX (cutbox-door.mjs). By AI agents, Wed Nov 11 2026. No macro, syntax, notation, axiom, sorry.
-/
import Derived.Test.YtcggkbgbfgkaiaaDoorRows
import GoSem.ClaimSeven
namespace Go.Proofs.YtcggkbgbfgkaiaaDoor
namespace Rows

/-- THE TIED CARD OF 'gimlettop.WholeRunes'. -/
def wholeRunesCard : Claim7 := { stood := { row := wholeRunesRow, standIns := [], harness := (true, "3e22945c0c502c5fef11033861ad14f5d820eece8ac911ff97d414122cce0930"), looks := false }, kinds := [], alts := [], laidByText := true, laidKinds := [.data, .pinned], laidTests := true, laidLooks := .later }
def WholeRunesCardSaid : Prop := Claim7.holds Tryd.pinned (.plain (OpenSpec.ofChange wholeRunesSpec)) wholeRunesCard

/-- THE TIED CARD OF 'gimlettop.WholeFeeds'. -/
def wholeFeedsCard : Claim7 := { stood := { row := wholeFeedsRow, standIns := [], harness := (true, "3e22945c0c502c5fef11033861ad14f5d820eece8ac911ff97d414122cce0930"), looks := false }, kinds := [], alts := [], laidByText := true, laidKinds := [.data, .pinned], laidTests := true, laidLooks := .later }
def WholeFeedsCardSaid : Prop := Claim7.holds Tryd.pinned (.plain (OpenSpec.ofChange wholeFeedsSpec)) wholeFeedsCard

/-- THE SECOND FORM's CARD OF 'gimlettop.WholeRunes'. -/
def wholeRunesUptoCard : Claim7 := { stood := { row := wholeRunesUptoRow, standIns := [], harness := (true, "3e22945c0c502c5fef11033861ad14f5d820eece8ac911ff97d414122cce0930"), looks := false }, kinds := [], alts := [], laidByText := true, laidKinds := [.data, .pinned], laidTests := true, laidLooks := .later }
def WholeRunesUptoCardSaid : Prop := Claim7.holds Tryd.pinned (.plain (OpenSpec.upto wholeRunesSpec)) wholeRunesUptoCard

/-- THE SECOND FORM's CARD OF 'gimlettop.WholeFeeds'. -/
def wholeFeedsUptoCard : Claim7 := { stood := { row := wholeFeedsUptoRow, standIns := [], harness := (true, "3e22945c0c502c5fef11033861ad14f5d820eece8ac911ff97d414122cce0930"), looks := false }, kinds := [], alts := [], laidByText := true, laidKinds := [.data, .pinned], laidTests := true, laidLooks := .later }
def WholeFeedsUptoCardSaid : Prop := Claim7.holds Tryd.pinned (.plain (OpenSpec.upto wholeFeedsSpec)) wholeFeedsUptoCard
end Rows
end Go.Proofs.YtcggkbgbfgkaiaaDoor
