/-
  DERIVED. GIVEN WITH THE SEED: THE CARDS: each row of YtbbbokkfhfmoeabDoorRows.lean that lists a variable, with what it lists TIED to the program's text (the seventh form; the later family's looks); each row that meets fmt, with fmt's text TOLD by the authors' own Lean function (tested against real Go, not proved from fmt's source: count such statements apart). THE CARD IS WHAT COUNTS. Prove the row's statement (the work); the ties are given (YtbbbokkfhfmoeabDoorTie.lean); close each card by the builder's one call (the guide's Derived/Test/ToyasCard.lean, 'card_holds'). Laid BY PROGRAM, IN A SANDBOX (cutbox-door.mjs). By AI agents, Wed Nov 11 2026. No macro, syntax, notation, axiom, sorry.
-/
import Derived.Test.YtbbbokkfhfmoeabDoorRows
import GoSem.ClaimSeven
namespace Go.Proofs.YtbbbokkfhfmoeabDoor
namespace Rows

/-- THE TIED CARD OF 'gimletlaw05.RefsGoOn'. -/
def refsGoOnCard : Claim7 := { stood := { row := refsGoOnRow, standIns := [], harness := (true, "4fc9ef502fcbba75881fae20da21236a870783fefee368b50d53dc1b6b0f9db7"), looks := false }, kinds := [], alts := [], laidByText := true, laidKinds := [.data], laidTests := true, laidLooks := .later }
def RefsGoOnCardSaid : Prop := Claim7.holds Tryd.pinned (.plain (OpenSpec.ofChange refsGoOnSpec)) refsGoOnCard

/-- THE TIED CARD OF 'gimletlaw05.RefsPieces'. -/
def refsPiecesCard : Claim7 := { stood := { row := refsPiecesRow, standIns := [], harness := (true, "4fc9ef502fcbba75881fae20da21236a870783fefee368b50d53dc1b6b0f9db7"), looks := false }, kinds := [], alts := [], laidByText := true, laidKinds := [.data], laidTests := true, laidLooks := .later }
def RefsPiecesCardSaid : Prop := Claim7.holds Tryd.pinned (.plain (OpenSpec.ofChange refsPiecesSpec)) refsPiecesCard

/-- THE SECOND FORM's CARD OF 'gimletlaw05.RefsGoOn'. -/
def refsGoOnUptoCard : Claim7 := { stood := { row := refsGoOnUptoRow, standIns := [], harness := (true, "4fc9ef502fcbba75881fae20da21236a870783fefee368b50d53dc1b6b0f9db7"), looks := false }, kinds := [], alts := [], laidByText := true, laidKinds := [.data], laidTests := true, laidLooks := .later }
def RefsGoOnUptoCardSaid : Prop := Claim7.holds Tryd.pinned (.plain (OpenSpec.upto refsGoOnSpec)) refsGoOnUptoCard

/-- THE SECOND FORM's CARD OF 'gimletlaw05.RefsPieces'. -/
def refsPiecesUptoCard : Claim7 := { stood := { row := refsPiecesUptoRow, standIns := [], harness := (true, "4fc9ef502fcbba75881fae20da21236a870783fefee368b50d53dc1b6b0f9db7"), looks := false }, kinds := [], alts := [], laidByText := true, laidKinds := [.data], laidTests := true, laidLooks := .later }
def RefsPiecesUptoCardSaid : Prop := Claim7.holds Tryd.pinned (.plain (OpenSpec.upto refsPiecesSpec)) refsPiecesUptoCard
end Rows
end Go.Proofs.YtbbbokkfhfmoeabDoor
