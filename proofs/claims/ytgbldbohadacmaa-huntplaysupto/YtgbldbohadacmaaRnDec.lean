/-
  WALKS over runes.New, (*Decoder).Take and (*Decoder).Pending.
-/
import Derived.Test.YtgbldbohadacmaaRnGood
import Derived.Lib.SmallJoins
namespace Go.Proofs.Ytgbldbohadacmaa
open Go.RowKit Go.Lib

namespace Rn
def upd (x : Nat → Nat) (n v : Nat) : Nat → Nat := fun j => if j = n then v else x j
theorem upd_lt {x : Nat → Nat} {n v : Nat} (hx : ∀ j, x j < 256) (hv : v < 256) : ∀ j, upd x n v j < 256 := by
  intro j
  unfold upd
  split
  · exact hv
  · exact hx j
end Rn

structure But (D : Nat) (w w' : World) : Prop where
  os : w'.os = w.os
  tape : w'.tape = w.tape
  output : w'.output = w.output
  size : w.heap.size ≤ w'.heap.size
  block : ∀ k, k < w.heap.size → k ≠ D → w'.heap[k]? = w.heap[k]?
theorem But.of_below {D : Nat} {w w' : World} (h : Below w.heap.size w w') : But D w w' :=
  ⟨h.os, h.tape, h.output, h.size, fun k hk _ => h.block k hk⟩
theorem But.of_alloc {D : Nat} {w w' : World} {o : Obj} (h : Below (w.alloc o).heap.size (w.alloc o) w') : But D w w' :=
  But.of_below (((Below.refl w.heap.size w).alloc (Nat.le_refl _) o).trans (h.mono (by simp)))
theorem But.trans {D : Nat} {a b c : World} (h : But D a b) (k : But D b c) : But D a c :=
  ⟨k.os.trans h.os, k.tape.trans h.tape, k.output.trans h.output, Nat.le_trans h.size k.size, fun i hi hn => (k.block i (Nat.lt_of_lt_of_le hi h.size) hn).trans (h.block i hi hn)⟩
theorem But.setCell {D : Nat} {w w' : World} {p : Addr} (h : But D w w') (hp : p.block = D) (v : Value) : But D w (w'.setCell p v) := by
  have hb := (Below.refl 0 w').setCell (p := p) (Nat.zero_le _) v
  exact ⟨hb.os.trans h.os, hb.tape.trans h.tape, hb.output.trans h.output, Nat.le_trans h.size hb.size, fun k hk hn => (Below.heap_setCell w' p v k (by rw [hp]; exact hn)).trans (h.block k hk hn)⟩
theorem But.below {D B : Nat} {w w' : World} (h : But D w w') (hB : B ≤ D) (hw : B ≤ w.heap.size) : Below B w w' :=
  ⟨h.os, h.tape, h.output, h.size, fun k hk => h.block k (by omega) (by omega)⟩

theorem But.set {D : Nat} {w w' : World} (h : But D w w') (v0 v1 v2 v3 v4 : Value) :
    But D w (((((w'.setCell ⟨D, 0, none⟩ v0).setCell ⟨D, 1, none⟩ v1).setCell ⟨D, 2, none⟩ v2).setCell ⟨D, 3, none⟩ v3).setCell ⟨D, 4, none⟩ v4) :=
  ((((h.setCell (p := ⟨D, 0, none⟩) rfl _).setCell (p := ⟨D, 1, none⟩) rfl _).setCell (p := ⟨D, 2, none⟩) rfl _).setCell (p := ⟨D, 3, none⟩) rfl _).setCell (p := ⟨D, 4, none⟩) rfl _

end Go.Proofs.Ytgbldbohadacmaa
