/-
  DERIVED. GIVEN WITH THE SEED: THE CARDS: each row of YtcmjipgigkalcaaDoorRows.lean that lists a variable, with what it lists TIED to the program's text (the seventh form; the later family's looks); each row that meets fmt, with fmt's text TOLD by the authors' own Lean function (tested against real Go, not proved from fmt's source: count such statements apart). THE CARD IS WHAT COUNTS. Prove the row's statement (the work); the ties are given (YtcmjipgigkalcaaDoorTie.lean); close each card by the builder's one call (the guide's Derived/Test/ToyasCard.lean, 'card_holds'). Laid BY PROGRAM, IN A SANDBOX (cutbox-door.mjs). By AI agents, Wed Nov 11 2026. No macro, syntax, notation, axiom, sorry.
-/
import Derived.Test.YtcmjipgigkalcaaDoorRows
import GoSem.ClaimSeven
namespace Go.Proofs.YtcmjipgigkalcaaDoor
namespace Rows

/-- THE TIED CARD OF 'gimletlaw09.TreeBuilt'. -/
def treeBuiltCard : Claim7 := { stood := { row := treeBuiltRow, standIns := [], harness := (true, "036ec2645b9c1230b5dae33bd9d6a1019880f147b246dc96481aaa123252b773"), looks := false }, kinds := [], alts := [], laidByText := true, laidKinds := [.data, .data, .pinned], laidTests := true, laidLooks := .later }
def TreeBuiltCardSaid : Prop := Claim7.holds Tryd.pinned (.plain (OpenSpec.ofChange treeBuiltSpec)) treeBuiltCard

/-- THE SECOND FORM's CARD OF 'gimletlaw09.TreeBuilt'. -/
def treeBuiltUptoCard : Claim7 := { stood := { row := treeBuiltUptoRow, standIns := [], harness := (true, "036ec2645b9c1230b5dae33bd9d6a1019880f147b246dc96481aaa123252b773"), looks := false }, kinds := [], alts := [], laidByText := true, laidKinds := [.data, .data, .pinned], laidTests := true, laidLooks := .later }
def TreeBuiltUptoCardSaid : Prop := Claim7.holds Tryd.pinned (.plain (OpenSpec.upto treeBuiltSpec)) treeBuiltUptoCard
end Rows
end Go.Proofs.YtcmjipgigkalcaaDoor
