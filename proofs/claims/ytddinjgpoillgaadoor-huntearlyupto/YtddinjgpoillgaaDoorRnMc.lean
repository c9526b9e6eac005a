/-
  runes.Mend and runes.Runes, of and into texts that are characters all through.
-/
import Derived.Test.YtddinjgpoillgaaDoorRnOrd
namespace Go.Proofs.YtddinjgpoillgaaDoor
open Go.RowKit Go.Shelf

namespace Rn
/-- a text that is these characters -/
def tx (L : List Nat) : ByteArray := arr (lf (cat L)) (cat L).length
theorem tx_toList (L : List Nat) : (tx L).toList = cat L := by
  unfold tx
  rw [arr_lf, ByteArray.toList_mk]
end Rn

theorem runes_cat (L : List Nat) (hL : ∀ r ∈ L, Rn.scal r) (w : World) (hbig : (Rn.cat L).length ≤ 70368744177664) :
    Calls Tryd.prog 23 #[.string (Rn.tx L)] w fun e W => ∃ cap, e = .returned (.slice (some ⟨w.heap.size, 0, none⟩) L.length cap) ∧ L.length ≤ cap ∧ cap ≤ maxLen ∧ Lie W w.heap.size L ∧ Below w.heap.size w W ∧ W.heap.size = w.heap.size + 1 ∧
      ∃ cs, W.heap[w.heap.size]? = some (.cells cs 21 (0, 0)) ∧ cs.size = cap := by
  have h := runes_any (Rn.lf (Rn.cat L)) (Rn.cat L).length w (Rn.lf_lt _) hbig
  rw [Rn.rl_cat L hL] at h
  exact h
end Go.Proofs.YtddinjgpoillgaaDoor
