/-
  THE WALK over gimletlaw03.awake: answers that the document fixes.
-/
import Derived.Test.YtddinjgpoillgaaDoorWdCmp
import Derived.Test.YtddinjgpoillgaaDoorWdRev
namespace Go.Proofs.YtddinjgpoillgaaDoor
open Go.RowKit Go.Shelf

namespace Wd
theorem aw_find : FIs (lg [97, 98, 97, 98, 99]) 5 (lg [97, 98, 99]) 3 2 := by
  refine .inr ⟨2, rfl, by omega, fun i hi => ?_, fun k hk => ?_⟩
  · have : i = 0 ∨ i = 1 ∨ i = 2 := by omega
    rcases this with rfl | rfl | rfl <;> rfl
  · intro h
    have : k = 0 ∨ k = 1 := by omega
    rcases this with rfl | rfl
    · have := h 2 (by omega)
      simp [lg] at this
    · have := h 0 (by omega)
      simp [lg] at this
end Wd

end Go.Proofs.YtddinjgpoillgaaDoor
