/-
  THE WALK over gimletlaw02.fixed: answers that the document fixes.
-/
import Derived.Test.YtcmjipgigkalcaaDoorChName
namespace Go.Proofs.YtcmjipgigkalcaaDoor
open Go.RowKit Go.Lib

namespace Ch
/-- the text 'a-1' -/
def am : Nat → Nat := fun j => ([97, 45, 49] : List Nat)[j]?.getD 0
theorem am_lt : ∀ j, am j < 256 := by
  intro j
  match j with
  | 0 => decide
  | 1 => decide
  | 2 => decide
  | (j + 3) => simp [am]
theorem am_arr : Rn.arr am 3 = ⟨#[97, 45, 49]⟩ := by decide +kernel
theorem am_name : (allFrom am 3 3 3 0 2 && (decide (0 < 3) && valid am 3)) = true := by decide +kernel
end Ch

end Go.Proofs.YtcmjipgigkalcaaDoor
