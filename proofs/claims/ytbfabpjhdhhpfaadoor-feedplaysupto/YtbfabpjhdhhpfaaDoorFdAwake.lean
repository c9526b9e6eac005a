/-
  THE WALK over gimletlaw04.awake, and what a law knows of a fresh Feed.
-/
import Derived.Test.YtbfabpjhdhhpfaaDoorFdDrain
import Derived.Lib.SlBytesConst
namespace Go.Proofs.YtbfabpjhdhhpfaaDoor
open Go.RowKit Go.Lib

/-- the bytes of awake -/
def awF : Nat → Nat := fun j => if j = 0 then 13 else if j = 1 then 10 else if j = 2 then 195 else 169
theorem awF_lt (j : Nat) : awF j < 256 := by unfold awF; repeat' split
                                             all_goals omega
theorem aw1 : Fd.pk awF 1 0 false = (0, 0, 0, 1) := by decide
theorem aw2 : Fd.pk awF 4 0 false = (10, 0, 2, 0) := by decide
theorem aw3 : Fd.pk awF 4 2 false = (233, 0, 2, 0) := by decide
theorem tabs_low {w : World} (hT : Lib.Utf8Tabs 0 1 w) : 0 < w.heap.size ∧ 1 < w.heap.size :=
  ⟨block_lt_of_cell (hT.1 0 (by omega)), block_lt_of_cell (hT.2 0 (by omega)).1⟩
theorem heap_top (w : World) (o : Obj) {k : Nat} (h : k = w.heap.size) : (w.alloc o).heap[k]? = some o := by
  subst h
  show (w.heap.push _)[w.heap.size]? = _
  simp
theorem lit_cells {w : World} {b : Nat} {f : Nat → Nat} {n : Nat} {cs : Array Value} {t : TypeId} {fr : Nat × Nat} (h : w.heap[b]? = some (.cells cs t fr)) (hc : cs.toList = xs f n) : ∀ j u, (xs f n)[j]? = some u → w.cell? (Addr.add ⟨b, 0, none⟩ j) = some u := by
  intro j u hu
  rw [show Addr.add ⟨b, 0, none⟩ j = ⟨b, j, none⟩ by simp [Addr.add]; try omega, Lib.cell_of_heap h]
  rw [← hc] at hu
  simpa using hu

set_option maxRecDepth 100000 in
set_option maxHeartbeats 2000000 in
theorem feedAwake_any (w : World) (hT : Lib.Utf8Tabs 0 1 w) :
    Calls Tryd.prog 7 #[] w fun e w' => e = .returned (.bool true) ∧ Below w.heap.size w w' := by
  obtain ⟨t1, t2⟩ := tabs_low hT
  have HT := hide' hT
  clear hT
  have kc := fun (w : World) (C : Array Value) (n c : Nat) => Lib.run_convert_bytes_const (P := Tryd.prog) w 27 5 C n c Tryd.underlying27 Tryd.underlying5
  have cNew := feedNew_abs w awF w.heap.size
  go_enter Tryd.func7, Tryd.ntmps7
  go_wp2_with fail
  refine cNew.mono ?_
  rintro e w1 ⟨rfl, hF1, hb1, hs1⟩
  clear cNew
  have hb1a : Below w.heap.size w (w1.alloc (.cells #[.int .u8 13] 5 (1, 2))) := hb1.alloc hb1.size _
  have hF1a := hF1.below ((Below.refl w1.heap.size w1).alloc (Nat.le_refl _) (.cells #[.int .u8 13] 5 (1, 2)))
  have hl1 : ∀ j u, (xs (fun _ => 13) 1)[j]? = some u → (w1.alloc (.cells #[.int .u8 13] 5 (1, 2))).cell? (Addr.add ⟨w1.heap.size, 0, none⟩ j) = some u := lit_cells (cs := #[.int .u8 13]) (t := 5) (fr := (1, 2)) (by show (w1.heap.push _)[w1.heap.size]? = _; simp) rfl
  have hz1 : ∀ j, j < 1 → awF (0 + j) = (fun _ => 13) j := by
    intro j hj
    obtain rfl : j = 0 := by omega
    rfl
  have cP := feedPush_abs (G := awF) hF1a (tabs_below HT.out hb1a (Nat.le_refl _)) ⟨t1, t2⟩ (Nat.le_refl _) ⟨w1.heap.size, 0, none⟩ 1 1 (fun _ => 13) awF_lt (fun j hj => absurd hj (Nat.not_lt_zero j)) hz1 hl1 ⟨(show w1.heap.size ≠ w.heap.size by omega), (by simp [Value.ownBlock])⟩ (by omega)
  have HB := hide' hb1a
  clear hb1 hb1a hF1 hF1a
  go_wp2_with fail
  refine cP.mono ?_
  rintro e w2 ⟨rfl, v2, hF2, hv2, hbu2⟩
  clear cP
  have hb2 : Below w.heap.size w w2 := HB.out.trans ⟨hbu2.os, hbu2.tape, hbu2.output, hbu2.size, fun k hk => hbu2.block k (by simp; omega) (by omega) (by simp [Value.ownBlock])⟩
  have hs2 := hbu2.size
  simp at hs2
  have cK := feedPeek_abs (tabs_below HT.out hb2 (Nat.le_refl _)) awF_lt hF2
  rw [aw1] at cK
  simp only [Fd.pkV, show (1 : Nat) = 0 ↔ False by simp, show (1 : Nat) = 2 ↔ False by simp, if_false] at cK
  clear HB hbu2 hv2
  go_wp2_with fail
  refine cK.mono ?_
  rintro e w3 ⟨rfl, hb3⟩
  clear cK
  have hb3' := hb2.trans (hb3.mono hb2.size)
  have hF3 := hF2.below hb3
  have hs3 := hb3.size
  have hbb : Below w3.heap.size w3 ((w3.alloc (.cells #[.int .i32 0, .int .i64 0, .int .i64 0, .int .i64 0, .int .i64 0, .int .i64 0] 36)).alloc (.cells #[.int .u8 10, .int .u8 195, .int .u8 169] 5 (3, 4))) := ((Below.refl _ _).alloc (Nat.le_refl _) _).alloc (by simp) _
  have hB4 : Below w.heap.size w ((w3.alloc (.cells #[.int .i32 0, .int .i64 0, .int .i64 0, .int .i64 0, .int .i64 0, .int .i64 0] 36)).alloc (.cells #[.int .u8 10, .int .u8 195, .int .u8 169] 5 (3, 4))) := hb3'.trans (hbb.mono (by omega))
  have hF4 := hF3.below hbb
  have hl2 : ∀ j u, (xs (fun j => awF (1 + j)) 3)[j]? = some u → ((w3.alloc (.cells #[.int .i32 0, .int .i64 0, .int .i64 0, .int .i64 0, .int .i64 0, .int .i64 0] 36)).alloc (.cells #[.int .u8 10, .int .u8 195, .int .u8 169] 5 (3, 4))).cell? (Addr.add ⟨w3.heap.size + 1, 0, none⟩ j) = some u := lit_cells (cs := #[.int .u8 10, .int .u8 195, .int .u8 169]) (t := 5) (fr := (3, 4)) (heap_top _ _ (by simp)) rfl
  have hrow3 := hF3.row
  have cP2 := feedPush_abs (G := awF) hF4 (tabs_below HT.out hB4 (Nat.le_refl _)) ⟨t1, t2⟩ (Nat.le_refl _) ⟨w3.heap.size + 1, 0, none⟩ 3 3 (fun j => awF (1 + j)) awF_lt (fun j hj => rfl) (fun j hj => rfl) hl2 ⟨(show w3.heap.size + 1 ≠ w.heap.size by omega), (fun e => by have h9 : w3.heap.size + 1 < w3.heap.size := (hrow3 _ e).2; omega)⟩ (by omega)
  have kc2 := kc (w3.alloc (.cells #[.int .i32 0, .int .i64 0, .int .i64 0, .int .i64 0, .int .i64 0, .int .i64 0] 36)) #[.int .u8 10, .int .u8 195, .int .u8 169] 3 3
  rw [show (w3.alloc (.cells #[.int .i32 0, .int .i64 0, .int .i64 0, .int .i64 0, .int .i64 0, .int .i64 0] 36)).heap.size = w3.heap.size + 1 by simp] at kc2
  have HB3 := hide' hB4
  have HR3 := hide' hrow3
  clear hb2 hb3 hb3' hF2 hF3 hF4 hB4 hbb hl2 hrow3
  go_wp2_with fail
  refine cP2.mono ?_
  rintro e w4 ⟨rfl, v4, hF4, hv4, hbu4⟩
  have hb4 : Below w.heap.size w w4 := HB3.out.trans ⟨hbu4.os, hbu4.tape, hbu4.output, hbu4.size, fun k hk => hbu4.block k (by simp; omega) (by omega) (fun e => by have := (HR3.out _ e).1; omega)⟩
  have hs4 := hbu4.size
  simp at hs4
  have hF4' : Feed w4 w.heap.size w.heap.size awF 4 0 false v4 (0, 1, 1) := hF4
  have cK := feedNext_abs (tabs_below HT.out hb4 (Nat.le_refl _)) awF_lt hF4'
  rw [aw2] at cK
  have cK' : Calls Tryd.prog 10 #[.pointer (some ⟨w.heap.size, 0, none⟩)] w4 fun e w' => e = .returned (.tuple #[.agg #[.int .i32 10, .int .i64 0, .int .i64 0, .int .i64 1, .int .i64 1, .int .i64 2], .int .i64 0]) ∧ Feed w' w.heap.size w.heap.size awF 4 2 false v4 (2, 2, 1) ∧ But w.heap.size w4 w' := cK
  have HB4 := hide' hb4
  clear cK cP2 HB3 HR3 hbu4 hF4 hF4' hv4 hb4
  go_wp2_with fail
  refine cK'.mono ?_
  rintro e w5 ⟨rfl, hF5, hbu5⟩
  have hb5 : Below w.heap.size w w5 := HB4.out.trans (hbu5.below (Nat.le_refl _) (by omega))
  have hs5 := hbu5.size
  have hbb : Below w5.heap.size w5 (w5.alloc (.cells #[.int .i32 10, .int .i64 0, .int .i64 0, .int .i64 1, .int .i64 1, .int .i64 2] 36)) := (Below.refl _ _).alloc (Nat.le_refl _) _
  have hb6 := hb5.trans (hbb.mono (by omega))
  have hF6 := hF5.below hbb
  have cL := feedNext_abs (tabs_below HT.out hb6 (Nat.le_refl _)) awF_lt hF6
  rw [aw3] at cL
  have cL' : Calls Tryd.prog 10 #[.pointer (some ⟨w.heap.size, 0, none⟩)] (w5.alloc (.cells #[.int .i32 10, .int .i64 0, .int .i64 0, .int .i64 1, .int .i64 1, .int .i64 2] 36)) fun e w' => e = .returned (.tuple #[.agg #[.int .i32 233, .int .i64 2, .int .i64 2, .int .i64 2, .int .i64 1, .int .i64 2], .int .i64 0]) ∧ But w.heap.size (w5.alloc (.cells #[.int .i32 10, .int .i64 0, .int .i64 0, .int .i64 1, .int .i64 1, .int .i64 2] 36)) w' := cL.mono fun e w' h => ⟨h.1, h.2.2⟩
  have hC6 : (w5.alloc (.cells #[.int .i32 10, .int .i64 0, .int .i64 0, .int .i64 1, .int .i64 1, .int .i64 2] 36)).heap[w5.heap.size]? = some (.cells #[.int .i32 10, .int .i64 0, .int .i64 0, .int .i64 1, .int .i64 1, .int .i64 2] 36 (0, 0)) := by show (w5.heap.push _)[w5.heap.size]? = _; simp
  have HC6 := hide' hC6
  have HB6 := hide' hb6
  clear cL cK' hF5 hF6 hb5 hb6 hbb hbu5 HB4 hC6
  go_wp2_with fail
  refine cL'.mono ?_
  rintro e w7 ⟨rfl, hbu7⟩
  have hC7 := (hbu7.block w5.heap.size (by simp) (by omega)).trans HC6.out
  have hb7 : Below w.heap.size w w7 := HB6.out.trans (hbu7.below (Nat.le_refl _) (by simp; omega))
  have hs7 := hbu7.size
  simp at hs7
  have x0 : w7.cell? ⟨w5.heap.size, 0, none⟩ = some (.int .i32 10) := by rw [Lib.cell_of_heap hC7]; rfl
  have x5 : w7.cell? ⟨w5.heap.size, 5, none⟩ = some (.int .i64 2) := by rw [Lib.cell_of_heap hC7]; rfl
  have hlt7 : w5.heap.size < w7.heap.size := by omega
  have HB7 := hide' hb7
  clear cL' hbu7 hC7 HC6 HB6 hb7
  go_wp2_with fail
  go_ret
  exact ⟨rfl, HB7.out.alloc HB7.out.size _⟩
end Go.Proofs.YtbfabpjhdhhpfaaDoor
