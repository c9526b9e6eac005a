/-
  THE WALK over gimletlaw02.CharsIs: at every class and rune.
-/
import Derived.Test.YtinehnbjdlmopaaDoorChRef
namespace Go.Proofs.YtinehnbjdlmopaaDoor
open Go.RowKit Go.Lib

set_option maxHeartbeats 4000000 in
theorem lawIs_any (c r : Int) (w : World) (hr0 : -2147483648 ≤ r) (hr1 : r ≤ 2147483647) (hS : Spans w) (hT : Lib.Utf8Tabs 1 2 w) :
    Calls Tryd.prog 3 #[.int .i64 c, .int .i32 r] w fun e w' => e = .returned (.bool true) ∧ Below w.heap.size w w' := by
  have cF := fixed_any w hS hT
  have cC : ∀ w1, Below w.heap.size w w1 → _ := fun w1 hb => count_any c r w1 (hS.below hb (Nat.le_refl _)) hr0 hr1
  have cI : ∀ w1, Below w.heap.size w w1 → _ := fun w1 hb => is_any c r w1 (hS.below hb (Nat.le_refl _))
  have cN : ∀ w1, Below w.heap.size w w1 → _ := fun w1 hb => chNext_any c r w1 (hS.below hb (Nat.le_refl _)) hr0
  have dC := fun w1 => refCount_any c r w1 hr0 hr1
  have dI := fun w1 => refIs_any c r w1
  have dN := fun w1 => refNext_any c r w1 hr0 hr1
  simp only [Ch.countT_eq, Ch.isT_eq, Ch.nextT_eq] at cC cI cN
  have hn : Ch.nextR (Ch.rg c) r = Ch.nextR (Ch.pick Ch.tab c) r := rfl
  have hc : Ch.countR (Ch.rg c) r = Ch.countR (Ch.pick Ch.tab c) r := rfl
  have hi : Ch.isR (Ch.rg c) r = Ch.isR (Ch.pick Ch.tab c) r := rfl
  rw [hn] at dN
  rw [hc] at dC
  rw [hi] at dI
  clear hn hc hi hS hT
  have hnx : -2147483648 ≤ (Ch.nextR (Ch.pick Ch.tab c) r).1 ∧ (Ch.nextR (Ch.pick Ch.tab c) r).1 ≤ 2147483647 := by
    cases h : (Ch.nextR (Ch.pick Ch.tab c) r).2
    · have := (Ch.nextR_none (Ch.rg_rise c) h).1
      exact ⟨by rw [show Ch.pick Ch.tab c = Ch.rg c from rfl, this]; decide, by rw [show Ch.pick Ch.tab c = Ch.rg c from rfl, this]; decide⟩
    · have := Ch.nextR_some (Ch.rg_rise c) h
      rw [show Ch.pick Ch.tab c = Ch.rg c from rfl]
      omega
  generalize Ch.nextR (Ch.pick Ch.tab c) r = nx at *
  obtain ⟨nv, nb⟩ := nx
  generalize Ch.countR (Ch.pick Ch.tab c) r = C at *
  generalize Ch.isR (Ch.pick Ch.tab c) r = I at *
  simp only at cN dN hnx
  obtain ⟨hn0, hn1⟩ := hnx
  go_enter Tryd.func3, Tryd.ntmps3
  go_wp2_with fail
  refine cF.mono ?_
  rintro e w1 ⟨rfl, hb1⟩
  go_wp2_with fail
  refine (cI w1 hb1).mono ?_
  rintro e w2 ⟨rfl, hb2⟩
  have hB2 := hb1.trans (hb2.mono hb1.size)
  go_wp2_with fail
  refine (dI w2).mono ?_
  rintro e w3 ⟨rfl, hb3⟩
  have hB3 := hB2.trans (hb3.mono hB2.size)
  have t1 : (I != I) = false := by simp
  go_wp2_with fail
  refine (cN w3 hB3).mono ?_
  rintro e w4 ⟨rfl, hb4⟩
  have hB4 := hB3.trans (hb4.mono hB3.size)
  go_wp2_with fail
  refine (dN w4).mono ?_
  rintro e w5 ⟨rfl, hb5⟩
  have hB5 := hB4.trans (hb5.mono hB4.size)
  have t2 : (nb == nb) = true := by simp
  go_wp2_with fail
  refine (cC w5 hB5).mono ?_
  rintro e w6 ⟨rfl, hb6⟩
  have hB6 := hB5.trans (hb6.mono hB5.size)
  go_wp2_with fail
  refine (dC w6).mono ?_
  rintro e w7 ⟨rfl, hb7⟩
  have hB7 := hB6.trans (hb7.mono hB6.size)
  go_wp2_with fail
  go_ret
  exact ⟨ret_bool (by simp), hB7⟩
end Go.Proofs.YtinehnbjdlmopaaDoor
