/-
  THE WALK over gimletlaw16.awake.
-/
import Derived.Test.YtgbldbohadacmaaHtNew
import Derived.Test.YtgbldbohadacmaaHtClose
namespace Go.Proofs.Ytgbldbohadacmaa
open Go.RowKit Go.Lib
set_option maxRecDepth 100000 in
set_option maxHeartbeats 4000000 in
theorem htAwake (w : World) : Calls Try.prog 4 #[] w fun e w' => e = .returned (.bool true) ∧ Below w.heap.size w w' := by
  have C1 := hide' (fun w1 => htNew 5 0 (Rn.lf [97, 97, 98]) 3 w1 (Rn.lf_lt _) (by decide) (by decide) (by decide) (by decide) (by decide))
  rw [show Rn.arr (Rn.lf [97, 97, 98]) 3 = ⟨#[97, 97, 98]⟩ from by decide +kernel, show Wd.R (Rn.lf [97, 97, 98]) 3 0 = [97, 97, 98] from by decide +kernel] at C1
  unfold Ht.NewE at C1
  rw [show Ht.cc 5 = 5 from by decide, show Ht.tdc 5 = false from by decide, show Ht.cn 5 0 = 0 from by decide] at C1
  have C2 := hide' (fun (w1 : World) b (h : Ht.Hu w1 b 5 false 0 [97, 97, 98] [] false) => htAdd h (Rn.lf [97, 97]) 2 (Rn.lf_lt _) (by decide))
  rw [show Rn.arr (Rn.lf [97, 97]) 2 = ⟨#[97, 97]⟩ from by decide +kernel, show ([] : List Nat) ++ Wd.R (Rn.lf [97, 97]) 2 0 = [97, 97] from by decide +kernel] at C2
  have C3 := hide' (fun (w1 : World) b (h : Ht.Hu w1 b 5 false 0 [97, 97, 98] [97, 97] false) => htTruth h)
  rw [show Ht.tru 5 false 0 [97, 97, 98] [97, 97] false = 1 from by decide +kernel] at C3
  have C4 := hide' (fun (w1 : World) b (h : Ht.Hu w1 b 5 false 0 [97, 97, 98] [97, 97] false) => htAdd h (Rn.lf [97, 98]) 2 (Rn.lf_lt _) (by decide))
  rw [show Rn.arr (Rn.lf [97, 98]) 2 = ⟨#[97, 98]⟩ from by decide +kernel, show ([97, 97] : List Nat) ++ Wd.R (Rn.lf [97, 98]) 2 0 = [97, 97, 97, 98] from by decide +kernel] at C4
  have C5 := hide' (fun (w1 : World) b (h : Ht.Hu w1 b 5 false 0 [97, 97, 98] [97, 97, 97, 98] false) => htTruth h)
  rw [show Ht.tru 5 false 0 [97, 97, 98] [97, 97, 97, 98] false = 2 from by decide +kernel] at C5
  have D1 := hide' (fun w1 => htNew 1 0 (Rn.lf [195, 169]) 2 w1 (Rn.lf_lt _) (by decide) (by decide) (by decide) (by decide) (by decide))
  rw [show Rn.arr (Rn.lf [195, 169]) 2 = ⟨#[195, 169]⟩ from by decide +kernel, show Wd.R (Rn.lf [195, 169]) 2 0 = [233] from by decide +kernel] at D1
  unfold Ht.NewE at D1
  rw [show Ht.cc 1 = 1 from by decide, show Ht.tdc 1 = false from by decide, show Ht.cn 1 0 = 0 from by decide] at D1
  have D2 := hide' (fun (w1 : World) b (h : Ht.Hu w1 b 1 false 0 [233] [] false) => htAdd h (Rn.lf [195, 169]) 2 (Rn.lf_lt _) (by decide))
  rw [show Rn.arr (Rn.lf [195, 169]) 2 = ⟨#[195, 169]⟩ from by decide +kernel, show ([] : List Nat) ++ Wd.R (Rn.lf [195, 169]) 2 0 = [233] from by decide +kernel] at D2
  have D3 := hide' (fun (w1 : World) b (h : Ht.Hu w1 b 1 false 0 [233] [233] false) => htTruth h)
  rw [show Ht.tru 1 false 0 [233] [233] false = 1 from by decide +kernel] at D3
  have D4 := hide' (fun (w1 : World) b (h : Ht.Hu w1 b 1 false 0 [233] [233] false) => htClose h)
  have D5 := hide' (fun (w1 : World) b (h : Ht.Hu w1 b 1 false 0 [233] [233] true) => htTruth h)
  rw [show Ht.tru 1 false 0 [233] [233] true = 2 from by decide +kernel] at D5
  go_enter Try.func4, Try.ntmps4
  go_wp2_with fail
  refine (C1.out w).mono ?_
  rintro e w1 ⟨b, rfl, hb, hu, hB⟩
  have HU := hide' hu
  have HB := hide' hB
  clear hu hB C1
  go_wp2_with fail
  refine (C2.out _ _ HU.out).mono ?_
  rintro e w2 ⟨rfl, hu, hB⟩
  have HU2 := hide' hu
  have HB2 := hide' (HB.out.trans (hB.below hb HB.out.size))
  clear hu hB C2 HB HU
  go_wp2_with fail
  refine (C3.out _ _ HU2.out).mono ?_
  rintro e w3 ⟨rfl, rfl⟩
  go_wp2_with fail
  refine (C4.out _ _ HU2.out).mono ?_
  rintro e w4 ⟨rfl, hu, hB⟩
  have HU4 := hide' hu
  have HB4 := hide' (HB2.out.trans (hB.below hb HB2.out.size))
  clear hu hB C4 C3 HB2 HU2
  go_wp2_with fail
  refine (C5.out _ _ HU4.out).mono ?_
  rintro e w5 ⟨rfl, rfl⟩
  clear C5 HU4
  go_wp2_with fail
  refine (D1.out _).mono ?_
  rintro e w6 ⟨g, rfl, hg, hu, hB⟩
  have hg2 := Nat.le_trans HB4.out.size hg
  have HU6 := hide' hu
  have HB6 := hide' (HB4.out.trans (hB.mono HB4.out.size))
  clear hu hB D1 HB4 hg
  go_wp2_with fail
  refine (D2.out _ _ HU6.out).mono ?_
  rintro e w7 ⟨rfl, hu, hB⟩
  have HU7 := hide' hu
  have HB7 := hide' (HB6.out.trans (hB.below hg2 HB6.out.size))
  clear hu hB D2 HB6 HU6
  go_wp2_with fail
  refine (D3.out _ _ HU7.out).mono ?_
  rintro e w8 ⟨rfl, rfl⟩
  go_wp2_with fail
  refine (D4.out _ _ HU7.out).mono ?_
  rintro e w9 ⟨rfl, hu, hB⟩
  have HU9 := hide' hu
  have HB9 := hide' (HB7.out.trans (hB.below hg2 HB7.out.size))
  clear hu hB D4 D3 HB7 HU7
  go_wp2_with fail
  refine (D5.out _ _ HU9.out).mono ?_
  rintro e w10 ⟨rfl, rfl⟩
  go_wp2_with fail
  go_ret
  exact ⟨rfl, HB9.out⟩
end Go.Proofs.Ytgbldbohadacmaa
