/-
  WALKS over mean.From, Select, Holds at no tree, and gimletlaw12.MeanNil.
-/
import Derived.Test.YtfockjlegpbooaaGreatDoorMnGreat
import Derived.Test.YtfockjlegpbooaaGreatDoorMnAwake
namespace Go.Proofs.YtfockjlegpbooaaGreatDoor
open Go.RowKit Go.Shelf Go.Lib
set_option maxHeartbeats 1000000 in
theorem nilFrom (W : World) (k : Int) (sv : Value) (p : Option Addr) (n c : Nat) (hv : sv = .slice p n c) :
    Calls Tryz.prog 18 #[.pointer none, .int .i64 k, .agg #[sv]] W fun r w' => r = .returned (.tuple #[.slice none 0 0, .int .i64 1]) ∧ Below W.heap.size W w' := by
  subst hv
  go_enter Tryz.func18, Tryz.ntmps18
  go_wp2
  go_ret2
  exact ⟨rfl, (Below.refl _ _).alloc (Nat.le_refl _) _⟩
set_option maxHeartbeats 1000000 in
theorem nilSelect (W : World) (sv : Value) (p : Option Addr) (n c : Nat) (hv : sv = .slice p n c) :
    Calls Tryz.prog 15 #[.pointer none, .agg #[sv]] W fun r w' => r = .returned (.tuple #[.slice none 0 0, .int .i64 1]) ∧ Below W.heap.size W w' := by
  subst hv
  have hb1 : Below W.heap.size W (W.alloc (.cells #[.slice p n c] 25)) := (Below.refl _ _).alloc (Nat.le_refl _) _
  have C := hide' (nilFrom (W.alloc (.cells #[.slice p n c] 25)) (-1) _ p n c rfl)
  have HB1 := hide' hb1
  clear hb1
  go_enter Tryz.func15, Tryz.ntmps15
  go_wp2_with fail
  refine C.out.mono ?_
  rintro e w2 ⟨rfl, hb2⟩
  have HB2 := hide' (HB1.out.trans (hb2.mono HB1.out.size))
  clear hb2 C
  go_wp2
  go_ret2
  exact ⟨rfl, HB2.out⟩
namespace Mn
theorem paSize : (Tryz.prog.info? 25).map (·.size) = some 1 := by kernel_rfl
theorem load_path {w : World} {b : Nat} {x : Value} (h : w.heap[b]? = some (.cells #[x] 25 (0, 0))) : (loadVar 25 ⟨b, 0, none⟩).run Tryz.prog w = .ok (.agg #[x]) w :=
  run_loadVar_mid (P := Tryz.prog) w b 0 25 [x] _ (Tr.range_of h) Tryz.underlying25 rfl paSize
end Mn
set_option maxRecDepth 100000 in
set_option maxHeartbeats 2000000 in
theorem mnOnly (W : World) (op : Int) (pa : Option Addr) (na ca : Nat) (ps : Option Addr) (ns cs : Nat) (at_ : ByteArray) (cmp : Int) (tx : ByteArray) (num : Int) :
    Calls Tryz.prog 39 #[.agg #[.int .i64 op, .slice pa na ca, .slice ps ns cs, .string at_, .int .i64 cmp, .string tx, .int .i64 num]] W fun r w' => (∃ p n c, r = .returned (.agg #[.slice p n c])) ∧ Below W.heap.size W w' := by
  go_enter Tryz.func39, Tryz.ntmps39
  go_wp2
  have h1 := heap_alloc_new (W.alloc (.cells #[.int .i64 op, .slice pa na ca, .slice ps ns cs, .string at_, .int .i64 cmp, .string tx, .int .i64 num] 48)) (.cells #[.slice (some ⟨W.heap.size + 1 + 1 + 1, 0, none⟩) 1 1] 25)
  rw [World.size_alloc] at h1
  refine bodyPost_ret (Tr.results_cell Tryz.results39 _ ⟨W.heap.size + 1, 0, none⟩ rfl _ _ (Mn.load_path ((Below.heap_alloc _ _ _ (by simp)).trans ((Below.heap_alloc _ _ _ (by simp)).trans h1)))) rfl ?_
  exact ⟨⟨_, _, _, rfl⟩, ((((Below.refl _ _).alloc (Nat.le_refl _) _).alloc (by simp) _).alloc (by simp; omega) _).alloc (by simp; omega) _⟩
set_option maxRecDepth 100000 in
set_option maxHeartbeats 2000000 in
theorem nilHolds (W : World) (k : Int) (op : Int) (pa : Option Addr) (na ca : Nat) (ps : Option Addr) (ns cs : Nat) (at_ : ByteArray) (cmp : Int) (tx : ByteArray) (num : Int) :
    Calls Tryz.prog 21 #[.pointer none, .int .i64 k, .agg #[.int .i64 op, .slice pa na ca, .slice ps ns cs, .string at_, .int .i64 cmp, .string tx, .int .i64 num]] W fun r w' => r = .returned (.tuple #[.bool false, .int .i64 1]) ∧ Below W.heap.size W w' := by
  have hb1 : Below W.heap.size W (W.alloc (.cells #[.int .i64 op, .slice pa na ca, .slice ps ns cs, .string at_, .int .i64 cmp, .string tx, .int .i64 num] 48)) := (Below.refl _ _).alloc (Nat.le_refl _) _
  have C := hide' (mnOnly (W.alloc (.cells #[.int .i64 op, .slice pa na ca, .slice ps ns cs, .string at_, .int .i64 cmp, .string tx, .int .i64 num] 48)) op pa na ca ps ns cs at_ cmp tx num)
  have HB1 := hide' hb1
  clear hb1
  go_enter Tryz.func21, Tryz.ntmps21
  go_wp2_with fail
  refine C.out.mono ?_
  rintro e w2 ⟨⟨p, n, c, rfl⟩, hb2⟩
  have hb2' := HB1.out.trans (hb2.mono HB1.out.size)
  have HB2 := hide' hb2'
  have C2 := hide' (nilFrom w2 k _ p n c rfl)
  clear hb2 hb2' C
  go_wp2_with fail
  refine C2.out.mono ?_
  rintro e w3 ⟨rfl, hb3⟩
  have HB3 := hide' (HB2.out.trans (hb3.mono HB2.out.size))
  clear hb3 C2
  go_wp2
  go_ret2
  exact ⟨rfl, HB3.out⟩
set_option maxRecDepth 100000 in
set_option maxHeartbeats 4000000 in
theorem lawNil12 (d : Nat) (w : World) (k : Int) (p : Option Addr) (n c : Nat) (op : Int) (pa : Option Addr) (na ca : Nat) (ps : Option Addr) (ns cs : Nat) (at_ : ByteArray) (cmp : Int) (tx : ByteArray) (num : Int)
    (hp : Mn.StL d w (.slice p n c)) (hxa : Mn.ExL d w (.slice pa na ca)) (hxs : Mn.StL d w (.slice ps ns cs)) (hS : Spans w) (hT : Lib.Utf8Tabs 1 2 w) :
    Calls Tryz.prog 8 #[.int .i64 k, .agg #[.slice p n c], .agg #[.int .i64 op, .slice pa na ca, .slice ps ns cs, .string at_, .int .i64 cmp, .string tx, .int .i64 num]] w fun e w' => e = .returned (.bool true) ∧ Below w.heap.size w w' := by
  obtain ⟨W1, hW1⟩ : ∃ W1, (w.alloc (.cells #[.slice p n c] 25)).alloc (.cells #[.int .i64 op, .slice pa na ca, .slice ps ns cs, .string at_, .int .i64 cmp, .string tx, .int .i64 num] 48) = W1 := ⟨_, rfl⟩
  have hb1 : Below w.heap.size w W1 := by rw [← hW1]; exact ((Below.refl _ _).alloc (Nat.le_refl _) _).alloc (by simp) _
  have hz1 : W1.heap.size = w.heap.size + 2 := by rw [← hW1]; simp
  have hp1 : W1.heap[w.heap.size]? = some (.cells #[.slice p n c] 25 (0, 0)) := by rw [← hW1]; exact (Below.heap_alloc _ _ _ (by simp)).trans (heap_alloc_new w _)
  have hx1 : W1.heap[w.heap.size + 1]? = some (.cells #[.int .i64 op, .slice pa na ca, .slice ps ns cs, .string at_, .int .i64 cmp, .string tx, .int .i64 num] 48 (0, 0)) := by
    have h1 := heap_alloc_new (w.alloc (.cells #[.slice p n c] 25)) (.cells #[.int .i64 op, .slice pa na ca, .slice ps ns cs, .string at_, .int .i64 cmp, .string tx, .int .i64 num] 48)
    rw [World.size_alloc, hW1] at h1
    exact h1
  have CG := hide' (refGreat d W1 p n c (hp.below hb1))
  have CA : Hid (∀ W', Below w.heap.size w W' → _) := fun W' hb => mnAwake W' (hS.below hb (Nat.le_refl _)) (tabs_below hT hb (Nat.le_refl _))
  have HB1 := hide' hb1
  have HP1 := hide' hp1
  have HX1 := hide' hx1
  have HZ1 := hide' hz1
  have HW1 := hide' hW1
  have HXA := hide' hxa
  have HXS := hide' hxs
  clear hp hxa hxs hS hT hb1 hp1 hx1 hz1 hW1
  go_enter Tryz.func8, Tryz.ntmps8
  go_wp2_with fail
  rw [HW1.out]
  refine CG.out.mono ?_
  rintro e w2 ⟨⟨b1, rfl⟩, hb2⟩
  have hbw2 := HB1.out.trans (hb2.mono HB1.out.size)
  have hz1 := HZ1.out
  have hx2 := (hb2.block _ (show w.heap.size + 1 < W1.heap.size by omega)).trans HX1.out
  have hp2 := (hb2.block _ (show w.heap.size < W1.heap.size by omega)).trans HP1.out
  have HBW2 := hide' hbw2
  have HX2 := hide' hx2
  have HP2 := hide' hp2
  clear hb2 CG hz1 HW1 HX1 HP1 HB1
  cases b1
  · have y0 : w2.cell? ⟨w.heap.size + 1, 0, none⟩ = some (.int .i64 op) := by rw [Lib.cell_of_heap hx2]; rfl
    have y1 : w2.cell? ⟨w.heap.size + 1, 1, none⟩ = some (.slice pa na ca) := by rw [Lib.cell_of_heap hx2]; rfl
    have y2 : w2.cell? ⟨w.heap.size + 1, 2, none⟩ = some (.slice ps ns cs) := by rw [Lib.cell_of_heap hx2]; rfl
    have y3 : w2.cell? ⟨w.heap.size + 1, 3, none⟩ = some (.string at_) := by rw [Lib.cell_of_heap hx2]; rfl
    have y4 : w2.cell? ⟨w.heap.size + 1, 4, none⟩ = some (.int .i64 cmp) := by rw [Lib.cell_of_heap hx2]; rfl
    have y5 : w2.cell? ⟨w.heap.size + 1, 5, none⟩ = some (.string tx) := by rw [Lib.cell_of_heap hx2]; rfl
    have y6 : w2.cell? ⟨w.heap.size + 1, 6, none⟩ = some (.int .i64 num) := by rw [Lib.cell_of_heap hx2]; rfl
    clear hx2 hp2 hbw2
    obtain ⟨W3, hW3⟩ : ∃ W3, (w2.alloc (.cells #[.int .i64 op, .slice pa na ca, .slice ps ns cs, .string at_, .int .i64 cmp, .string tx, .int .i64 num] 48)).alloc (.cells #[.int .i64 0, .int .i64 0, .string ⟨#[]⟩, .slice (some ⟨w2.heap.size, 0, none⟩) 1 1] 64) = W3 := ⟨_, rfl⟩
    have hb3 : Below w2.heap.size w2 W3 := by rw [← hW3]; exact ((Below.refl _ _).alloc (Nat.le_refl _) _).alloc (by simp) _
    have he3 : W3.heap[w2.heap.size]? = some (.cells #[.int .i64 op, .slice pa na ca, .slice ps ns cs, .string at_, .int .i64 cmp, .string tx, .int .i64 num] 48 (0, 0)) := by rw [← hW3]; exact (Below.heap_alloc _ _ _ (by simp)).trans (heap_alloc_new w2 _)
    have hs3 : W3.heap[w2.heap.size + 1]? = some (.cells #[.int .i64 0, .int .i64 0, .string ⟨#[]⟩, .slice (some ⟨w2.heap.size, 0, none⟩) 1 1] 64 (0, 0)) := by
      have h1 := heap_alloc_new (w2.alloc (.cells #[.int .i64 op, .slice pa na ca, .slice ps ns cs, .string at_, .int .i64 cmp, .string tx, .int .i64 num] 48)) (.cells #[.int .i64 0, .int .i64 0, .string ⟨#[]⟩, .slice (some ⟨w2.heap.size, 0, none⟩) 1 1] 64)
      rw [World.size_alloc, hW3] at h1
      exact h1
    have hbw3 := HBW2.out.trans (hb3.mono HBW2.out.size)
    have hex : Mn.ExL (d + 1) W3 (.slice (some ⟨w2.heap.size, 0, none⟩) 1 1) := by
      unfold Mn.ExL
      refine ⟨_, 1, 1, rfl, Nat.le_refl _, by decide, fun _ => ⟨w2.heap.size, 0, rfl, fun i hi => ?_⟩⟩
      obtain rfl : i = 0 := by omega
      exact ⟨_, _, _, _, by rw [Lib.cell_of_heap he3]; rfl, by rw [Lib.cell_of_heap he3]; rfl, by rw [Lib.cell_of_heap he3]; rfl, by rw [Lib.cell_of_heap he3]; rfl, HXA.out.below hbw3, HXS.out.below hbw3⟩
    have hst : Mn.StL (d + 1 + 1) W3 (.slice (some ⟨w2.heap.size + 1, 0, none⟩) 1 1) := by
      unfold Mn.StL
      refine ⟨_, 1, 1, rfl, Nat.le_refl _, by decide, fun _ => ⟨w2.heap.size + 1, 0, rfl, fun i hi => ?_⟩⟩
      obtain rfl : i = 0 := by omega
      exact ⟨_, _, by rw [Lib.cell_of_heap hs3]; rfl, by rw [Lib.cell_of_heap hs3]; rfl, hex⟩
    have CG2 := hide' (refGreat (d + 1 + 1) W3 _ 1 1 hst)
    have HX3 : Hid (W3.heap[w.heap.size + 1]? = _) := (hb3.block _ (Array.getElem?_eq_some_iff.1 HX2.out).1).trans HX2.out
    have HP3 : Hid (W3.heap[w.heap.size]? = _) := (hb3.block _ (Array.getElem?_eq_some_iff.1 HP2.out).1).trans HP2.out
    have HBW3 := hide' hbw3
    have HW3 := hide' hW3
    clear hb3 he3 hs3 hbw3 hex hst hW3 HX2 HP2 HBW2 HXA HXS
    go_wp2_with fail
    rw [HW3.out]
    refine CG2.out.mono ?_
    rintro e w4 ⟨⟨b2, rfl⟩, hb4⟩
    have HBW4 := hide' (HBW3.out.trans (hb4.mono HBW3.out.size))
    have HX4 : Hid (w4.heap[w.heap.size + 1]? = _) := (hb4.block _ (Array.getElem?_eq_some_iff.1 HX3.out).1).trans HX3.out
    have HP4 : Hid (w4.heap[w.heap.size]? = _) := (hb4.block _ (Array.getElem?_eq_some_iff.1 HP3.out).1).trans HP3.out
    have CA4 := hide' (CA.out w4 HBW4.out)
    clear hb4 CG2 HX3 HP3 HBW3 HW3 y0 y1 y2 y3 y4 y5 y6 CA
    cases b2
    · go_wp2_with fail
      refine CA4.out.mono ?_
      rintro e w5 ⟨rfl, hb5⟩
      have HBW5 := hide' (HBW4.out.trans (hb5.mono HBW4.out.size))
      have hx5 := (hb5.block _ (Array.getElem?_eq_some_iff.1 HX4.out).1).trans HX4.out
      have hp5 := (hb5.block _ (Array.getElem?_eq_some_iff.1 HP4.out).1).trans HP4.out
      have p5 : w5.cell? ⟨w.heap.size, 0, none⟩ = some (.slice p n c) := by rw [Lib.cell_of_heap hp5]; rfl
      have CS := hide' (nilSelect w5 _ p n c rfl)
      have HX5 := hide' hx5
      have HP5 := hide' hp5
      clear hb5 hx5 hp5 CA4 HX4 HP4 HBW4
      go_wp2_with fail
      refine CS.out.mono ?_
      rintro e w6 ⟨rfl, hb6⟩
      have HBW6 := hide' (HBW5.out.trans (hb6.mono HBW5.out.size))
      have hx6 := (hb6.block _ (Array.getElem?_eq_some_iff.1 HX5.out).1).trans HX5.out
      have hp6 := (hb6.block _ (Array.getElem?_eq_some_iff.1 HP5.out).1).trans HP5.out
      have p6 : w6.cell? ⟨w.heap.size, 0, none⟩ = some (.slice p n c) := by rw [Lib.cell_of_heap hp6]; rfl
      have CF := hide' (nilFrom w6 k _ p n c rfl)
      have HX6 := hide' hx6
      clear hb6 hx6 hp6 CS HX5 HP5 HBW5 p5
      go_wp2_with fail
      refine CF.out.mono ?_
      rintro e w7 ⟨rfl, hb7⟩
      have HBW7 := hide' (HBW6.out.trans (hb7.mono HBW6.out.size))
      have hx7 := (hb7.block _ (Array.getElem?_eq_some_iff.1 HX6.out).1).trans HX6.out
      have y0 : w7.cell? ⟨w.heap.size + 1, 0, none⟩ = some (.int .i64 op) := by rw [Lib.cell_of_heap hx7]; rfl
      have y1 : w7.cell? ⟨w.heap.size + 1, 1, none⟩ = some (.slice pa na ca) := by rw [Lib.cell_of_heap hx7]; rfl
      have y2 : w7.cell? ⟨w.heap.size + 1, 2, none⟩ = some (.slice ps ns cs) := by rw [Lib.cell_of_heap hx7]; rfl
      have y3 : w7.cell? ⟨w.heap.size + 1, 3, none⟩ = some (.string at_) := by rw [Lib.cell_of_heap hx7]; rfl
      have y4 : w7.cell? ⟨w.heap.size + 1, 4, none⟩ = some (.int .i64 cmp) := by rw [Lib.cell_of_heap hx7]; rfl
      have y5 : w7.cell? ⟨w.heap.size + 1, 5, none⟩ = some (.string tx) := by rw [Lib.cell_of_heap hx7]; rfl
      have y6 : w7.cell? ⟨w.heap.size + 1, 6, none⟩ = some (.int .i64 num) := by rw [Lib.cell_of_heap hx7]; rfl
      have CH := hide' (nilHolds w7 k op pa na ca ps ns cs at_ cmp tx num)
      clear hb7 hx7 CF HX6 HBW6 p6
      go_wp2_with fail
      refine CH.out.mono ?_
      rintro e w8 ⟨rfl, hb8⟩
      have HBW8 := hide' (HBW7.out.trans (hb8.mono HBW7.out.size))
      clear hb8 CH HBW7 y0 y1 y2 y3 y4 y5 y6
      go_wp2
      go_ret
      exact ⟨rfl, HBW8.out⟩
    · go_wp2_with fail
      refine CA4.out.mono ?_
      rintro e w5 ⟨rfl, hb5⟩
      have HBW5 := hide' (HBW4.out.trans (hb5.mono HBW4.out.size))
      clear hb5 CA4
      go_wp2_with fail
      go_ret
      exact ⟨rfl, HBW5.out⟩
  · have CA2 := hide' (CA.out w2 hbw2)
    clear hx2 hp2 hbw2 CA
    go_wp2_with fail
    refine CA2.out.mono ?_
    rintro e w3 ⟨rfl, hb3⟩
    have HB3 := hide' (HBW2.out.trans (hb3.mono HBW2.out.size))
    clear hb3 CA2
    go_wp2_with fail
    go_ret
    exact ⟨rfl, HB3.out⟩
end Go.Proofs.YtfockjlegpbooaaGreatDoor
