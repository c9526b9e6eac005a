/-
  THE WALK over gimletlaw12.MeanCompared.
-/
import Derived.Test.YtfockjlegpbooaaGreatDoorMnCmp
import Derived.Test.YtfockjlegpbooaaGreatDoorMnAwake
namespace Go.Proofs.YtfockjlegpbooaaGreatDoor
open Go.RowKit Go.Shelf Go.Lib
set_option maxRecDepth 100000 in
set_option maxHeartbeats 4000000 in
theorem lawCompared (f : Nat → Nat) (n : Nat) (g : Nat → Nat) (m : Nat) (c num : Int) (w : World) (hf : ∀ j, f j < 256) (hg : ∀ j, g j < 256) (hn : n ≤ 1099511627776) (hm : m ≤ 1099511627776) (hS : Spans w) (hT : Lib.Utf8Tabs 1 2 w) :
    Calls Tryz.prog 5 #[.agg #[.string (Rn.arr f n), .string (Rn.arr g m), .int .i64 c, .int .i64 num]] w fun e w' => e = .returned (.bool true) ∧ Below w.heap.size w w' := by
  obtain ⟨w0, hw0⟩ : ∃ w0, w.alloc (.cells #[.string (Rn.arr f n), .string (Rn.arr g m), .int .i64 c, .int .i64 num] 55) = w0 := ⟨_, rfl⟩
  have hb0 : Below w.heap.size w w0 := by rw [← hw0]; exact (Below.refl _ _).alloc (Nat.le_refl _) _
  have hq0 : w0.heap[w.heap.size]? = some (.cells #[.string (Rn.arr f n), .string (Rn.arr g m), .int .i64 c, .int .i64 num] 55 (0, 0)) := by rw [← hw0]; exact heap_alloc_new w _
  have CA := hide' (mnAwake w0 (hS.below hb0 (Nat.le_refl _)) (tabs_below hT hb0 (Nat.le_refl _)))
  have C1 : Hid (∀ w1, Below w.heap.size w w1 → _) := fun w1 hb => mnCompared f n g m c num w1 hf hg hn hm (tabs_below hT hb (Nat.le_refl _))
  have C2 : Hid (∀ w1 : World, _) := fun w1 => refCompared f n g m c num w1 hf hg hn hm
  have HB0 := hide' hb0
  have HQ0 := hide' hq0
  have HW0 := hide' hw0
  clear hS hT hb0 hq0 hw0 hf hg
  generalize Rn.arr f n = A at *
  generalize Rn.arr g m = B at *
  go_enter Tryz.func5, Tryz.ntmps5
  go_wp2_with fail
  rw [HW0.out]
  refine CA.out.mono ?_
  rintro e w1 ⟨rfl, hb1⟩
  have hl0 : w.heap.size < w0.heap.size := (Array.getElem?_eq_some_iff.1 HQ0.out).1
  have hq1 := (hb1.block _ hl0).trans HQ0.out
  have q0 : w1.cell? ⟨w.heap.size, 0, none⟩ = some (.string A) := by rw [Lib.cell_of_heap hq1]; rfl
  have q1 : w1.cell? ⟨w.heap.size, 1, none⟩ = some (.string B) := by rw [Lib.cell_of_heap hq1]; rfl
  have q2 : w1.cell? ⟨w.heap.size, 2, none⟩ = some (.int .i64 c) := by rw [Lib.cell_of_heap hq1]; rfl
  have q3 : w1.cell? ⟨w.heap.size, 3, none⟩ = some (.int .i64 num) := by rw [Lib.cell_of_heap hq1]; rfl
  have hbw1 := HB0.out.trans (hb1.mono HB0.out.size)
  have HQ1 := hide' hq1
  have HBW1 := hide' hbw1
  have HC1 := hide' (C1.out w1 hbw1)
  clear hb1 hl0 hq1 hbw1 CA HQ0 HB0 HW0 C1
  go_wp2_with fail
  refine HC1.out.mono ?_
  rintro e w2 ⟨he, hb2⟩
  have hl1 : w.heap.size < w1.heap.size := (Array.getElem?_eq_some_iff.1 HQ1.out).1
  have hq2 := (hb2.block _ hl1).trans HQ1.out
  have q0 : w2.cell? ⟨w.heap.size, 0, none⟩ = some (.string A) := by rw [Lib.cell_of_heap hq2]; rfl
  have q1 : w2.cell? ⟨w.heap.size, 1, none⟩ = some (.string B) := by rw [Lib.cell_of_heap hq2]; rfl
  have q2 : w2.cell? ⟨w.heap.size, 2, none⟩ = some (.int .i64 c) := by rw [Lib.cell_of_heap hq2]; rfl
  have q3 : w2.cell? ⟨w.heap.size, 3, none⟩ = some (.int .i64 num) := by rw [Lib.cell_of_heap hq2]; rfl
  have HBW2 := hide' (HBW1.out.trans (hb2.mono HBW1.out.size))
  have HC2 := hide' (C2.out w2)
  have HE := hide' he
  clear hb2 hl1 hq2 HC1 HQ1 HBW1 C2
  rcases he with ⟨h0, h8, b, rfl, hb⟩ | ⟨hno, rfl⟩
  · have HBB := hide' hb
    clear hb HE
    go_wp2_with fail
    refine HC2.out.mono ?_
    rintro e w3 ⟨he2, hb3⟩
    have HBW3 := hide' (HBW2.out.trans (hb3.mono HBW2.out.size))
    rcases he2 with ⟨_, _, b2, rfl, hb2⟩ | ⟨hno, _⟩
    · obtain rfl : b = b2 := by
        have := HBB.out
        rw [Bool.eq_iff_iff, this, hb2]
      have e1 : (b == b) = true := by simp
      clear hb2 hb3 HBB HC2 HBW2
      go_wp2_with fail
      go_ret
      exact ⟨ret_bool (by simp), HBW3.out⟩
    · exact absurd ⟨h0, h8⟩ hno
  · clear HE
    go_wp2_with fail
    refine HC2.out.mono ?_
    rintro e w3 ⟨he2, hb3⟩
    have HBW3 := hide' (HBW2.out.trans (hb3.mono HBW2.out.size))
    rcases he2 with ⟨h0, h8, _⟩ | ⟨_, rfl⟩
    · exact absurd ⟨h0, h8⟩ hno
    · clear hb3 HC2 HBW2
      go_wp2_with fail
      go_ret
      exact ⟨rfl, HBW3.out⟩
end Go.Proofs.YtfockjlegpbooaaGreatDoor
