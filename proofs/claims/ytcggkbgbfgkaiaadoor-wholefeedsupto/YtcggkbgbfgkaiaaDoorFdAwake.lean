/-
  THE WALK over gimletlaw04.awake, and what a law knows of a fresh Feed.
-/
import Derived.Test.YtcggkbgbfgkaiaaDoorFdDrain
import Derived.Lib.SlBytesConst
namespace Go.Proofs.YtcggkbgbfgkaiaaDoor
open Go.RowKit Go.Lib

/-- the bytes of awake -/
def awF : Nat → Nat := fun j => if j = 0 then 13 else if j = 1 then 10 else if j = 2 then 195 else 169
theorem awF_lt (j : Nat) : awF j < 256 := by unfold awF; repeat' split
                                             all_goals omega
theorem aw1 : Fd.pk awF 1 0 false = (0, 0, 0, 1) := by decide
theorem aw2 : Fd.pk awF 4 0 false = (10, 0, 2, 0) := by decide
theorem aw3 : Fd.pk awF 4 2 false = (233, 0, 2, 0) := by decide
theorem tabs_low {w : World} (hT : Lib.Utf8Tabs 0 1 w) : 0 < w.heap.size ∧ 1 < w.heap.size :=
  ⟨block_lt_of_cell (hT.1 0 (by omega)), block_lt_of_cell (hT.2 0 (by omega)).1⟩
theorem heap_top (w : World) (o : Obj) {k : Nat} (h : k = w.heap.size) : (w.alloc o).heap[k]? = some o := by
  subst h
  show (w.heap.push _)[w.heap.size]? = _
  simp
theorem lit_cells {w : World} {b : Nat} {f : Nat → Nat} {n : Nat} {cs : Array Value} {t : TypeId} {fr : Nat × Nat} (h : w.heap[b]? = some (.cells cs t fr)) (hc : cs.toList = xs f n) : ∀ j u, (xs f n)[j]? = some u → w.cell? (Addr.add ⟨b, 0, none⟩ j) = some u := by
  intro j u hu
  rw [show Addr.add ⟨b, 0, none⟩ j = ⟨b, j, none⟩ by simp [Addr.add]; try omega, Lib.cell_of_heap h]
  rw [← hc] at hu
  simpa using hu

end Go.Proofs.YtcggkbgbfgkaiaaDoor
