/-
  WALKS over the document's Stands, Find, Begins, Ends, Length.
-/
import Derived.Test.YtgbldbohadacmaaWdRef
namespace Go.Proofs.Ytgbldbohadacmaa
open Go.RowKit

/-- numbers that lie one behind the other, or none -/
def RowO (w : World) (pa : Option Addr) (n : Nat) (p : Nat → Nat) : Prop := n = 0 ∨ ∃ g o, pa = some ⟨g, o, none⟩ ∧ Row .i32 w g o n p
theorem RowO.below {w w' : World} {pa : Option Addr} {n : Nat} {p : Nat → Nat} (h : RowO w pa n p) {B : Nat} (hb : Below B w w') (hB : w.heap.size ≤ B) : RowO w' pa n p := by
  rcases h with h | ⟨g, o, h1, h2⟩
  · exact .inl h
  · exact .inr ⟨g, o, h1, h2.below hb hB⟩

/-- the answer says whether it is so -/
def SaysB (e : Ending) (P : Prop) : Prop := ∃ b : Bool, e = .returned (.bool b) ∧ (b = true ↔ P)

end Go.Proofs.Ytgbldbohadacmaa
