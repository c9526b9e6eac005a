/-
  WALKS over slices.Reverse at runes, and words.Reverse.
-/
import Derived.Test.YtddinjgpoillgaaDoorWdFu
import Derived.Test.YtddinjgpoillgaaDoorWdExt
import Derived.Test.YtddinjgpoillgaaDoorWdFind
import Derived.Test.YtddinjgpoillgaaDoorRnJoin
import Derived.Shelf.RegionOpen
import Derived.Lib.SmallJoins
namespace Go.Proofs.YtddinjgpoillgaaDoor
open Go.RowKit Go.Shelf

/-- runes in a block of their own -/
structure InBlock (w : World) (g cap m : Nat) (v : Nat → Nat) (cs : Array Value) : Prop where
  blk : w.heap[g]? = some (.cells cs 21 (0, 0))
  size : cs.size = cap
  get : ∀ j, j < m → cs[j]? = some (.int .i32 (v j))
theorem InBlock.cell {w : World} {g cap m : Nat} {v : Nat → Nat} {cs : Array Value} (h : InBlock w g cap m v cs) {j : Nat} (hj : j < m) : w.cell? ⟨g, j, none⟩ = some (.int .i32 (v j)) := by
  rw [Lib.cell_of_heap h.blk]
  exact h.get j hj
theorem InBlock.frozen {w : World} {g cap m : Nat} {v : Nat → Nat} {cs : Array Value} (h : InBlock w g cap m v cs) (j : Nat) : w.frozen? ⟨g, j, none⟩ = false := Lib.frozen_of_heap h.blk j

theorem lg_reverse (L : List Nat) (j : Nat) (hj : j < L.length) : Wd.lg L (L.length - 1 - j) = L.reverse[j]'(by simpa using hj) := by
  unfold Wd.lg
  rw [List.getElem_reverse, List.getElem?_eq_getElem (by omega)]
  rfl
end Go.Proofs.YtddinjgpoillgaaDoor
