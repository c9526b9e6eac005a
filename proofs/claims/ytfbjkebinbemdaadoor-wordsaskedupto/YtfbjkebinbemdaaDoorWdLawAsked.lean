/-
  THE WALK over gimletlaw03.WordsAsked: of any two texts and numbers.
-/
import Derived.Test.YtfbjkebinbemdaaDoorWdSqzW
import Derived.Test.YtfbjkebinbemdaaDoorWdUnits
import Derived.Test.YtfbjkebinbemdaaDoorWdRefRev
import Derived.Test.YtfbjkebinbemdaaDoorWdAwake
namespace Go.Proofs.YtfbjkebinbemdaaDoor
open Go.RowKit

set_option maxRecDepth 100000 in
set_option maxHeartbeats 4000000 in
theorem lawAsked_any (f : Nat → Nat) (n : Nat) (g : Nat → Nat) (m : Nat) (from' count : Int) (w : World) (hT : Lib.Utf8Tabs 0 1 w) (hS : Spans w) (hf : ∀ j, f j < 256) (hg : ∀ j, g j < 256) (hn : n ≤ 1099511627776) (hm : m ≤ 1099511627776)
    (hf1 : -9223372036854775808 ≤ from') (hf2 : from' ≤ 9223372036854775807) (hc1 : -9223372036854775808 ≤ count) (hc2 : count ≤ 9223372036854775807) :
    Calls Tryd.prog 3 #[.agg #[.string (Rn.arr f n), .string (Rn.arr g m), .int .i64 from', .int .i64 count]] w fun e w' => e = .returned (.bool true) ∧ Below w.heap.size w w' := by
  have hb0 : ∀ o, Below w.heap.size w (w.alloc o) := fun o => (Below.refl _ _).alloc (Nat.le_refl _) _
  have c0 := fun o => wAwake_any (w.alloc o) (tabs_below hT (hb0 o) (Nat.le_refl _))
  have c1 := fun w1 => length_any f n w1 hf (by omega)
  have c2 := fun w1 => refLength3_any f n w1 hf hn
  have c3 := fun w1 => sub_any f n from' count w1 hf hn hf1 hf2 hc1 hc2
  have c4 := fun w1 => refSub_any f n from' count w1 hf hn hf1 hf2 hc1 hc2
  have c5 : ∀ w1, Below w.heap.size w w1 → _ := fun w1 hb => squeeze_any f n w1 hf hn (hS.below hb (Nat.le_refl _))
  have c6 := fun w1 => refSqueeze_any f n w1 hf hn
  have c7 := fun w1 => reverse_any f n w1 hf (by omega)
  have c8 := fun w1 => refReverse_any f n w1 hf hn
  have c9 : ∀ w1, Below w.heap.size w w1 → _ := fun w1 hb => compare_any f n g m w1 hf hg (tabs_below hT hb (Nat.le_refl _))
  have c10 := fun w1 => refCompare_any f n g m w1 hf hg hn hm
  have c11 : ∀ w1, Below w.heap.size w w1 → _ := fun w1 hb => compareUnits_any f n g m w1 hf hg (tabs_below hT hb (Nat.le_refl _))
  have c12 := fun w1 => refCompareUnits_any f n g m w1 hf hg hn hm
  clear hT hS
  generalize Rn.tx (Wd.sub (Wd.R f n 0) from' count) = S1 at *
  generalize Rn.tx (Wd.sq (Wd.R f n 0)).1 = S2 at *
  generalize Rn.tx (Wd.R f n 0).reverse = S3 at *
  generalize (Wd.R f n 0).length = N1 at *
  generalize Wd.cmp (Wd.R f n 0) (Wd.R g m 0) = z1 at *
  generalize Wd.cmpU (Wd.R f n 0) (Wd.R g m 0) = z2 at *
  have e1 : (S1.toList == S1.toList) = true := by simp
  have e2 : (S2.toList == S2.toList) = true := by simp
  have e3 : (S3.toList == S3.toList) = true := by simp
  have e4 : ((N1 : Int) == (N1 : Int)) = true := by simp
  have e5 : (z1 == z1) = true := by simp
  have e6 : (z2 == z2) = true := by simp
  go_enter Tryd.func3, Tryd.ntmps3
  go_wp2_with fail
  refine (c0 _).mono ?_
  rintro e w1 ⟨rfl, hb1⟩
  have q0 : ∀ j, w1.cell? ⟨w.heap.size, j, none⟩ = _ := fun j => hb1.cell (p := ⟨w.heap.size, j, none⟩) (by simp)
  have k0 := q0 0
  have k1 := q0 1
  have k2 := q0 2
  have k3 := q0 3
  simp at k0 k1 k2 k3
  have hB1 := (hb0 _).trans (hb1.mono (hb0 _).size)
  clear hb1 hb0 q0 c0
  go_wp2
  go_quiet (fail)
  obtain ⟨w2, hw2⟩ : ∃ w2, w2 = w1.drewN nq := ⟨_, rfl⟩
  rw [← hw2]
  have hB2 : Below w.heap.size w w2 := by rw [hw2]; exact below_drewN hB1 _
  clear hw2 k0 k1 k2 k3 hB1
  go_wp2_with fail
  refine (c1 w2).mono ?_
  rintro e w3 ⟨rfl, hbw3⟩
  have hB3 := hB2.trans (hbw3.mono hB2.size)
  clear hbw3
  go_wp2_with fail
  refine (c2 w3).mono ?_
  rintro e w4 ⟨rfl, hbw4⟩
  have hB4 := hB3.trans (hbw4.mono hB3.size)
  clear hbw4
  go_wp2_with fail
  refine (c3 w4).mono ?_
  rintro e w5 ⟨rfl, hbw5⟩
  have hB5 := hB4.trans (hbw5.mono hB4.size)
  clear hbw5
  go_wp2_with fail
  refine (c4 w5).mono ?_
  rintro e w6 ⟨rfl, hbw6⟩
  have hB6 := hB5.trans (hbw6.mono hB5.size)
  clear hbw6
  go_wp2_with fail
  refine (c5 w6 hB6).mono ?_
  rintro e w7 ⟨rfl, hbw7⟩
  have hB7 := hB6.trans (hbw7.mono hB6.size)
  clear hbw7
  go_wp2_with fail
  refine (c6 w7).mono ?_
  rintro e w8 ⟨rfl, hbw8⟩
  have hB8 := hB7.trans (hbw8.mono hB7.size)
  clear hbw8
  go_wp2_with fail
  refine (c7 w8).mono ?_
  rintro e w9 ⟨rfl, hbw9⟩
  have hB9 := hB8.trans (hbw9.mono hB8.size)
  clear hbw9
  go_wp2_with fail
  refine (c8 w9).mono ?_
  rintro e w10 ⟨rfl, hbw10⟩
  have hB10 := hB9.trans (hbw10.mono hB9.size)
  clear hbw10
  go_wp2_with fail
  refine (c9 w10 hB10).mono ?_
  rintro e w11 ⟨rfl, hbw11⟩
  have hB11 := hB10.trans (hbw11.mono hB10.size)
  clear hbw11
  go_wp2_with fail
  refine (c10 w11).mono ?_
  rintro e w12 ⟨rfl, hbw12⟩
  have hB12 := hB11.trans (hbw12.mono hB11.size)
  clear hbw12
  go_wp2_with fail
  refine (c11 w12 hB12).mono ?_
  rintro e w13 ⟨rfl, hbw13⟩
  have hB13 := hB12.trans (hbw13.mono hB12.size)
  clear hbw13
  go_wp2_with fail
  refine (c12 w13).mono ?_
  rintro e w14 ⟨rfl, hbw14⟩
  have hB14 := hB13.trans (hbw14.mono hB13.size)
  clear hbw14
  go_wp2_with fail
  go_ret
  exact ⟨ret_bool (by simp), hB14⟩
end Go.Proofs.YtfbjkebinbemdaaDoor
