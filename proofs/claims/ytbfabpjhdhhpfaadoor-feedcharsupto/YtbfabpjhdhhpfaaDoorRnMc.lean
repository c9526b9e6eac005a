/-
  runes.Mend and runes.Runes, of and into texts that are characters all through.
-/
import Derived.Test.YtbfabpjhdhhpfaaDoorRnOrd
namespace Go.Proofs.YtbfabpjhdhhpfaaDoor
open Go.RowKit Go.Shelf

namespace Rn
/-- a text that is these characters -/
def tx (L : List Nat) : ByteArray := arr (lf (cat L)) (cat L).length
theorem tx_toList (L : List Nat) : (tx L).toList = cat L := by
  unfold tx
  rw [arr_lf, ByteArray.toList_mk]
end Rn

theorem mend_cat (f : Nat → Nat) (n : Nat) (w : World) (hf : ∀ j, f j < 256) (hbig : n ≤ 35184372088832) :
    Calls Tryd.prog 17 #[.string (Rn.arr f n)] w fun e w' => ∃ L, L = Rn.rl (Rn.chs f n hf) ∧ e = .returned (.string (Rn.tx L)) ∧ Below w.heap.size w w' ∧ (Rn.cat L).length ≤ 4 * n ∧ (∀ r ∈ L, Rn.scal r) := by
  refine (mend_any f n w hf hbig).mono ?_
  rintro e w' ⟨rfl, hb, hl⟩
  refine ⟨_, rfl, ?_, hb, by rw [← Rn.md_cat]; exact hl, Rn.chs_scal f n hf⟩
  rw [Rn.md_cat, Rn.tx, Rn.arr_lf]
end Go.Proofs.YtbfabpjhdhhpfaaDoor
