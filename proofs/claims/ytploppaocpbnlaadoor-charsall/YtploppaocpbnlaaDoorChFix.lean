/-
  THE WALK over gimletlaw02.fixed: answers that the document fixes.
-/
import Derived.Test.YtploppaocpbnlaaDoorChName
namespace Go.Proofs.YtploppaocpbnlaaDoor
open Go.RowKit Go.Lib

namespace Ch
/-- the text 'a-1' -/
def am : Nat → Nat := fun j => ([97, 45, 49] : List Nat)[j]?.getD 0
theorem am_lt : ∀ j, am j < 256 := by
  intro j
  match j with
  | 0 => decide
  | 1 => decide
  | 2 => decide
  | (j + 3) => simp [am]
theorem am_arr : Rn.arr am 3 = ⟨#[97, 45, 49]⟩ := by decide +kernel
theorem am_name : (allFrom am 3 3 3 0 2 && (decide (0 < 3) && valid am 3)) = true := by decide +kernel
end Ch

set_option maxHeartbeats 2000000 in
theorem fixed_any (w : World) (hS : Spans w) (hT : Lib.Utf8Tabs 1 2 w) :
    Calls Tryd.prog 9 #[] w fun e w' => e = .returned (.bool true) ∧ Below w.heap.size w w' := by
  have cN := chNext_any 0 55295 w hS (by decide)
  rw [show Ch.nextT Ch.tab 0 55295 = (57344, true) from by decide +kernel] at cN
  have cI : ∀ (c : Int) w1, Below w.heap.size w w1 → _ := fun c w1 hb => is_any c 45 w1 (hS.below hb (Nat.le_refl _))
  have e3 : Ch.isT Ch.tab 3 45 = true := by decide +kernel
  have e2 : Ch.isT Ch.tab 2 45 = false := by decide +kernel
  have c3 := cI 3
  have c2 := cI 2
  rw [e3] at c3
  rw [e2] at c2
  have cM : ∀ w1, Below w.heap.size w w1 → _ := fun w1 hb => name_any Ch.am 3 w1 Ch.am_lt (by decide) (hS.below hb (Nat.le_refl _)) (tabs_below hT hb (Nat.le_refl _))
  rw [Ch.am_name, Ch.am_arr] at cM
  clear hS hT cI e3 e2
  go_enter Tryd.func9, Tryd.ntmps9
  go_wp2_with fail
  refine cN.mono ?_
  rintro e w1 ⟨rfl, hb1⟩
  go_wp2_with fail
  refine (c3 w1 hb1).mono ?_
  rintro e w2 ⟨rfl, hb2⟩
  have hB2 := hb1.trans (hb2.mono hb1.size)
  go_wp2_with fail
  refine (c2 w2 hB2).mono ?_
  rintro e w3 ⟨rfl, hb3⟩
  have hB3 := hB2.trans (hb3.mono hB2.size)
  go_wp2_with fail
  refine (cM w3 hB3).mono ?_
  rintro e w4 ⟨rfl, hb4⟩
  have hB4 := hB3.trans (hb4.mono hB3.size)
  go_wp2_with fail
  go_ret
  exact ⟨rfl, hB4⟩
end Go.Proofs.YtploppaocpbnlaaDoor
