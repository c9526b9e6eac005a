/-
  WALKS over gimletlaw16.into, asked.
-/
import Derived.Test.YtgbldbohadacmaaHtNew
import Derived.Test.YtgbldbohadacmaaHtClose
import Derived.Deep.RegionHeld
namespace Go.Proofs.Ytgbldbohadacmaa
open Go.RowKit Go.Lib
namespace Ht
/-- brought to 0 .. m - 1 -/
def inz (x : Int) (m : Nat) : Nat := (Int.tmod (Int.tmod x m + m) m).toNat
theorem inz_lt (x : Int) {m : Nat} (h : 0 < m) : inz x m < m := by
  have b4 : Int.tmod (Int.tmod x m + m) m < m := Int.tmod_lt_of_pos _ (by omega)
  unfold inz
  omega
end Ht
namespace Ht
theorem keep3 {w w' : World} {a b c : Addr} {x y z : Value} (h : w.cell? a = some x ∧ w.cell? b = some y ∧ w.cell? c = some z) (k : Below w.heap.size w w') : w'.cell? a = some x ∧ w'.cell? b = some y ∧ w'.cell? c = some z :=
  ⟨(k.cell (p := a) (block_lt_of_cell h.1)).trans h.1, (k.cell (p := b) (block_lt_of_cell h.2.1)).trans h.2.1, (k.cell (p := c) (block_lt_of_cell h.2.2)).trans h.2.2⟩
/-- what asked answers of a comparison c, a text T, a number N -/
def AskE (w : World) (C : Int) (T : List Nat) (N : Int) (e : Ending) (w' : World) : Prop :=
  ∃ b, e = .returned (.tuple #[.pointer (some ⟨b, 0, none⟩), .bool true]) ∧ w.heap.size ≤ b ∧ Hu w' b (cc (inz C 9)) (tdc (inz C 9)) (cn (inz C 9) (max N 0)) T [] false ∧ Below w.heap.size w w'
end Ht
end Go.Proofs.Ytgbldbohadacmaa
