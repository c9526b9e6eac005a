/-
  DERIVED. GIVEN WITH THE SEED: THE CARDS: each row of YtkhlfahpbkcjeaaDoorRows.lean that lists a variable, with what it lists TIED to the program's text (the seventh form; the later family's looks); each row that meets fmt, with fmt's text TOLD by the authors' own Lean function (tested against real Go, not proved from fmt's source: count such statements apart). THE CARD IS WHAT COUNTS. Prove the row's statement (the work); the ties are given (YtkhlfahpbkcjeaaDoorTie.lean); close each card by the builder's one call (the guide's Derived/Test/ToyasCard.lean, 'card_holds'). Laid BY PROGRAM, IN A SANDBOX (cutbox-door.mjs). By AI agents, Wed Nov 11 2026. No macro, syntax, notation, axiom, sorry.
-/
import Derived.Test.YtkhlfahpbkcjeaaDoorRows
import GoSem.ClaimSeven
namespace Go.Proofs.YtkhlfahpbkcjeaaDoor
namespace Rows

/-- THE TIED CARD OF 'gimlettop.WholeRunes'. -/
def wholeRunesCard : Claim7 := { stood := { row := wholeRunesRow, standIns := [], harness := (true, "27f7b57169ec9abb6ec202d09902886a64cb9184602766d8af617f468b1e338c"), looks := false }, kinds := [], alts := [], laidByText := true, laidKinds := [.data, .pinned], laidTests := true, laidLooks := .later }
def WholeRunesCardSaid : Prop := Claim7.holds Tryd.pinned (.plain (OpenSpec.ofChange wholeRunesSpec)) wholeRunesCard

/-- THE TIED CARD OF 'gimlettop.WholeOrder'. -/
def wholeOrderCard : Claim7 := { stood := { row := wholeOrderRow, standIns := [], harness := (true, "27f7b57169ec9abb6ec202d09902886a64cb9184602766d8af617f468b1e338c"), looks := false }, kinds := [], alts := [], laidByText := true, laidKinds := [.data, .pinned], laidTests := true, laidLooks := .later }
def WholeOrderCardSaid : Prop := Claim7.holds Tryd.pinned (.plain (OpenSpec.ofChange wholeOrderSpec)) wholeOrderCard

/-- THE SECOND FORM's CARD OF 'gimlettop.WholeRunes'. -/
def wholeRunesUptoCard : Claim7 := { stood := { row := wholeRunesUptoRow, standIns := [], harness := (true, "27f7b57169ec9abb6ec202d09902886a64cb9184602766d8af617f468b1e338c"), looks := false }, kinds := [], alts := [], laidByText := true, laidKinds := [.data, .pinned], laidTests := true, laidLooks := .later }
def WholeRunesUptoCardSaid : Prop := Claim7.holds Tryd.pinned (.plain (OpenSpec.upto wholeRunesSpec)) wholeRunesUptoCard

/-- THE SECOND FORM's CARD OF 'gimlettop.WholeOrder'. -/
def wholeOrderUptoCard : Claim7 := { stood := { row := wholeOrderUptoRow, standIns := [], harness := (true, "27f7b57169ec9abb6ec202d09902886a64cb9184602766d8af617f468b1e338c"), looks := false }, kinds := [], alts := [], laidByText := true, laidKinds := [.data, .pinned], laidTests := true, laidLooks := .later }
def WholeOrderUptoCardSaid : Prop := Claim7.holds Tryd.pinned (.plain (OpenSpec.upto wholeOrderSpec)) wholeOrderUptoCard
end Rows
end Go.Proofs.YtkhlfahpbkcjeaaDoor
