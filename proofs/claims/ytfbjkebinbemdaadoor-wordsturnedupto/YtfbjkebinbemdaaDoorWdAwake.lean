/-
  THE WALK over gimletlaw03.awake: answers that the document fixes.
-/
import Derived.Test.YtfbjkebinbemdaaDoorWdCmp
import Derived.Test.YtfbjkebinbemdaaDoorWdRev
namespace Go.Proofs.YtfbjkebinbemdaaDoor
open Go.RowKit Go.Shelf

namespace Wd
theorem aw_find : FIs (lg [97, 98, 97, 98, 99]) 5 (lg [97, 98, 99]) 3 2 := by
  refine .inr ⟨2, rfl, by omega, fun i hi => ?_, fun k hk => ?_⟩
  · have : i = 0 ∨ i = 1 ∨ i = 2 := by omega
    rcases this with rfl | rfl | rfl <;> rfl
  · intro h
    have : k = 0 ∨ k = 1 := by omega
    rcases this with rfl | rfl
    · have := h 2 (by omega)
      simp [lg] at this
    · have := h 0 (by omega)
      simp [lg] at this
end Wd

set_option maxRecDepth 100000 in
set_option maxHeartbeats 2000000 in
theorem wAwake_any (w : World) (hT : Lib.Utf8Tabs 0 1 w) :
    Calls Tryd.prog 9 #[] w fun e w' => e = .returned (.bool true) ∧ Below w.heap.size w w' := by
  have c1 := length_any (Rn.lf [97, 255, 98]) 3 w (Rn.lf_lt _) (by decide)
  rw [show Rn.arr (Rn.lf [97, 255, 98]) 3 = ⟨#[97, 255, 98]⟩ from by decide +kernel, show (Wd.R (Rn.lf [97, 255, 98]) 3 0).length = 3 from by decide +kernel] at c1
  have c2 := fun w1 => find_any (Rn.lf [97, 98, 97, 98, 99]) 5 (Rn.lf [97, 98, 99]) 3 w1 (Rn.lf_lt _) (Rn.lf_lt _) (by decide) (by decide)
  rw [show Rn.arr (Rn.lf [97, 98, 97, 98, 99]) 5 = ⟨#[97, 98, 97, 98, 99]⟩ from by decide +kernel, show Rn.arr (Rn.lf [97, 98, 99]) 3 = ⟨#[97, 98, 99]⟩ from by decide +kernel,
    show Wd.R (Rn.lf [97, 98, 97, 98, 99]) 5 0 = [97, 98, 97, 98, 99] from by decide +kernel, show Wd.R (Rn.lf [97, 98, 99]) 3 0 = [97, 98, 99] from by decide +kernel] at c2
  have c3 : ∀ w1, Below w.heap.size w w1 → _ := fun w1 hb => compare_any (Rn.lf [97]) 1 (Rn.lf [98]) 1 w1 (Rn.lf_lt _) (Rn.lf_lt _) (tabs_below hT hb (Nat.le_refl _))
  rw [show Rn.arr (Rn.lf [97]) 1 = ⟨#[97]⟩ from by decide +kernel, show Rn.arr (Rn.lf [98]) 1 = ⟨#[98]⟩ from by decide +kernel, show Wd.cmp (Wd.R (Rn.lf [97]) 1 0) (Wd.R (Rn.lf [98]) 1 0) = -1 from by decide +kernel] at c3
  have c4 := fun w1 => reverse_any (Rn.lf [97, 98]) 2 w1 (Rn.lf_lt _) (by decide)
  rw [show Rn.arr (Rn.lf [97, 98]) 2 = ⟨#[97, 98]⟩ from by decide +kernel, show Rn.tx (Wd.R (Rn.lf [97, 98]) 2 0).reverse = ⟨#[98, 97]⟩ from by decide +kernel] at c4
  clear hT
  go_enter Tryd.func9, Tryd.ntmps9
  go_wp2_with fail
  refine c1.mono ?_
  rintro e w1 ⟨rfl, hb1⟩
  go_wp2_with fail
  refine (c2 w1).mono ?_
  rintro e w2 ⟨⟨z, rfl, hz⟩, hb2⟩
  obtain rfl := hz.uniq Wd.aw_find
  have hB2 := hb1.trans (hb2.mono hb1.size)
  go_wp2_with fail
  refine (c3 w2 hB2).mono ?_
  rintro e w3 ⟨rfl, hb3⟩
  have hB3 := hB2.trans (hb3.mono hB2.size)
  go_wp2_with fail
  refine (c4 w3).mono ?_
  rintro e w4 ⟨rfl, hb4⟩
  have hB4 := hB3.trans (hb4.mono hB3.size)
  go_wp2_with fail
  go_ret
  exact ⟨rfl, hB4⟩
end Go.Proofs.YtfbjkebinbemdaaDoor
