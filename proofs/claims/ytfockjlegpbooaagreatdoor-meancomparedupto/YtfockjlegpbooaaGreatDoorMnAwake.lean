/-
  THE WALK over gimletlaw12.awake.
-/
import Derived.Test.YtfockjlegpbooaaGreatDoorMnAwM
namespace Go.Proofs.YtfockjlegpbooaaGreatDoor
open Go.RowKit Go.Shelf Go.Lib
set_option maxRecDepth 100000 in
set_option maxHeartbeats 4000000 in
theorem mnAwake (w : World) (hS : Spans w) (hT : Lib.Utf8Tabs 1 2 w) :
    Calls Tryz.prog 9 #[] w fun r w' => r = .returned (.bool true) ∧ Below w.heap.size w w' := by
  have hb0 : Below w.heap.size w (w.alloc (.cells Tr.mwC 71)) := (Below.refl _ _).alloc (Nat.le_refl _) _
  have CB := hide' (trBuild _ 3 Tr.mwE (w.alloc (.cells Tr.mwC 71)) (Tr.mw_evs w) Tr.mw_small (by decide) (hS.below hb0 (Nat.le_refl _)) (tabs_below hT hb0 (Nat.le_refl _)))
  have HB0 := hide' hb0
  have HS := hide' hS
  have HT := hide' hT
  clear hb0 hS hT
  go_enter Tryz.func9, Tryz.ntmps9
  go_wp2_with fail
  refine CB.out.mono ?_
  rintro e w1 ⟨hb1, hre⟩
  rcases hre with ⟨h1, _⟩ | ⟨_, D, E, L, q, cap, nd, rfl, hal, hR⟩
  · rw [Tr.mw_doc] at h1
    cases h1
  have hnd : nd = 2 := by
    have h1 := hR.shp.len
    rw [hal.grun 3 (Nat.le_refl _), Tr.mw_nd] at h1
    exact h1.symm
  have HB1 := hide' (HB0.out.trans (hb1.mono HB0.out.size))
  have HTR := hide' hR
  have HAL := hide' hal
  have HND := hide' hnd
  clear hb1 hR hal hnd CB HB0
  have htiny := HAL.out.tiny Tr.mw_tiny
  obtain ⟨W2, hW2⟩ : ∃ W2, w1.alloc (.cells #[.int .i64 0, .int .i64 0, .string ⟨#[97]⟩, .slice none 0 0] 64) = W2 := ⟨_, rfl⟩
  have hb2 : Below w1.heap.size w1 W2 := by rw [← hW2]; exact (Below.refl _ _).alloc (Nat.le_refl _) _
  have hst2 : W2.heap[w1.heap.size]? = some (.cells #[.int .i64 0, .int .i64 0, .string ⟨#[97]⟩, .slice none 0 0] 64 (0, 0)) := by rw [← hW2]; exact heap_alloc_new w1 _
  have hbw2 : Below w.heap.size w W2 := HB1.out.trans (hb2.mono HB1.out.size)
  have CS := hide' (mnSelect1 W2 _ D 3 E L q cap nd (HTR.out.below hb2) htiny (by decide) w1.heap.size 0 0 ⟨#[97]⟩ ⟨by decide, by decide⟩ hst2 (fun W' hb => by
    have hb' : Below w.heap.size w W' := hbw2.trans (hb.mono hbw2.size)
    have := askIsTest0 ⟨#[97]⟩ W' (by decide) (HS.out.below hb' (Nat.le_refl _)) (tabs_below HT.out hb' (Nat.le_refl _))
    rw [Tr.name_a] at this
    exact this) 0 (by decide) (Mn.mw_child HAL.out HND.out))
  have HTR2 := hide' (HTR.out.below hb2)
  have HBW2 := hide' hbw2
  have HW2 := hide' hW2
  have HTI := hide' htiny
  clear hb2 hst2 hbw2 hW2 HTR htiny HB1
  go_wp2_with fail
  rw [HW2.out]
  refine CS.out.mono ?_
  rintro e w3 ⟨⟨ua, rfl, hioa⟩, hb3⟩
  have hbw3 : Below w.heap.size w w3 := HBW2.out.trans (hb3.mono HBW2.out.size)
  obtain ⟨W4, hW4⟩ : ∃ W4, w3.alloc (.cells #[.int .i64 1, .int .i64 2, .string ⟨#[]⟩, .slice none 0 0] 64) = W4 := ⟨_, rfl⟩
  have hb4 : Below w3.heap.size w3 W4 := by rw [← hW4]; exact (Below.refl _ _).alloc (Nat.le_refl _) _
  have hst4 : W4.heap[w3.heap.size]? = some (.cells #[.int .i64 1, .int .i64 2, .string ⟨#[]⟩, .slice none 0 0] 64 (0, 0)) := by rw [← hW4]; exact heap_alloc_new w3 _
  have hbw4 : Below w.heap.size w W4 := hbw3.trans (hb4.mono hbw3.size)
  have CS2 := hide' (mnSelect1 W4 _ D 3 E L q cap nd ((HTR2.out.below hb3).below hb4) HTI.out (by decide) w3.heap.size 1 2 ⟨#[]⟩ ⟨by decide, by decide⟩ hst4 (fun W' _ => askIsTest2 W') 1 (by decide) (Mn.mw_text HAL.out HND.out))
  have HIA := hide' (hioa.below hb4)
  have HBW4 := hide' hbw4
  have HW4 := hide' hW4
  clear hb3 hb4 hst4 hbw3 hbw4 hioa hW4 CS HTR2 HTI HBW2 HW2
  go_wp2_with fail
  rw [HW4.out]
  refine CS2.out.mono ?_
  rintro e w5 ⟨⟨ub, rfl, hiob⟩, hb5⟩
  have HBW5 := hide' (HBW4.out.trans (hb5.mono HBW4.out.size))
  have HIA5 := hide' (HIA.out.below hb5)
  have HIB5 := hide' hiob
  clear hb5 hiob CS2 HIA HBW4 HW4
  have hb6 : Below w5.heap.size w5 (w5.alloc (.cells #[.int .i64 0] 3)) := (Below.refl _ _).alloc (Nat.le_refl _) _
  have CI := hide' (mnInts (w5.alloc (.cells #[.int .i64 0] 3)) ua (.slice (some ⟨w5.heap.size, 0, none⟩) 1 1) 1 [0] (HIA5.out.below hb6).row (Tr.io_new w5 0).row (by decide))
  have HBW6 := hide' (HBW5.out.trans (hb6.mono HBW5.out.size))
  have HIB6 := hide' (HIB5.out.below hb6)
  clear hb6 HIA5 HIB5 HBW5
  go_wp2_with fail
  refine CI.out.mono ?_
  rintro e w7 ⟨rfl, hb7⟩
  have hb8 : Below w7.heap.size w7 (w7.alloc (.cells #[.int .i64 1] 3)) := (Below.refl _ _).alloc (Nat.le_refl _) _
  have CI2 := hide' (mnInts (w7.alloc (.cells #[.int .i64 1] 3)) ub (.slice (some ⟨w7.heap.size, 0, none⟩) 1 1) 1 [1] ((HIB6.out.below hb7).below hb8).row (Tr.io_new w7 1).row (by decide))
  have hbw7 := HBW6.out.trans (hb7.mono HBW6.out.size)
  have HBW8 := hide' (hbw7.trans (hb8.mono hbw7.size))
  clear hb7 hb8 hbw7 CI HIB6 HBW6
  go_wp2_with fail
  refine CI2.out.mono ?_
  rintro e w9 ⟨rfl, hb9⟩
  have HBW9 := hide' (HBW8.out.trans (hb9.mono HBW8.out.size))
  clear hb9 CI2 HBW8
  go_wp2_with fail
  go_ret
  exact ⟨rfl, HBW9.out⟩
end Go.Proofs.YtfockjlegpbooaaGreatDoor
