/-
  THE WALK over feed's Peek.
-/
import Derived.Test.YtcggkbgbfgkaiaaDoorFdLine
namespace Go.Proofs.YtcggkbgbfgkaiaaDoor
open Go.RowKit Go.Lib
section
variable {D B : Nat} {v : Value} {g : Nat → Nat} {n k wh pb pr pl pc : Nat} {bad ended : Bool} {w : World}

set_option maxHeartbeats 2000000 in
theorem peek_have (h : FeedAt w D B v g n k wh pb pr pl pc bad ended) (r z : Nat) (hr : r ≠ 13) (cN : ∀ W, Below w.heap.size w W → Calls Tryd.prog 11 #[v, .int .i64 k] W fun e W' => e = .returned (.tuple #[.int .i32 r, .int .i64 z, .int .i64 0, .int .i64 0]) ∧ Below W.heap.size W W') :
    Calls Tryd.prog 33 #[.pointer (some ⟨D, 0, none⟩)] w fun e w' => e = .returned (.tuple #[.agg #[.int .i32 r, .int .i64 pb, .int .i64 pr, .int .i64 pl, .int .i64 pc, .int .i64 z], .int .i64 0]) ∧ Below w.heap.size w w' := by
  have hr' : ((r : Int) == 13) = false := by simp; omega
  clear hr
  obtain ⟨c0, c1, -, -, -, -, -, -, -⟩ := h.cell
  have hlt := h.lt
  have H := hide' h
  clear h
  have hW : Below w.heap.size w (w.alloc (.cells #[.int .i32 0, .int .i64 0, .int .i64 0, .int .i64 0, .int .i64 0, .int .i64 0] 45)) := (Below.refl _ _).alloc (Nat.le_refl _) _
  have hN := cN _ hW.drew
  clear cN
  go_enter Tryd.func33, Tryd.ntmps33
  go_wp2
  have g0 : (w.alloc (.cells #[.int .i32 0, .int .i64 0, .int .i64 0, .int .i64 0, .int .i64 0, .int .i64 0] 45)).cell? ⟨D, 0, none⟩ = some v := (hW.cell (p := ⟨D, 0, none⟩) hlt).trans c0
  have g1 : (w.alloc (.cells #[.int .i32 0, .int .i64 0, .int .i64 0, .int .i64 0, .int .i64 0, .int .i64 0] 45)).cell? ⟨D, 1, none⟩ = some (.int .i64 k) := (hW.cell (p := ⟨D, 1, none⟩) hlt).trans c1
  have gr : (w.alloc (.cells #[.int .i32 0, .int .i64 0, .int .i64 0, .int .i64 0, .int .i64 0, .int .i64 0] 45)).heap[w.heap.size]? = some (.cells #[.int .i32 0, .int .i64 0, .int .i64 0, .int .i64 0, .int .i64 0, .int .i64 0] 45 (0, 0)) := by show (w.heap.push _)[w.heap.size]? = _; simp
  have hsz : w.heap.size < (w.alloc (.cells #[.int .i32 0, .int .i64 0, .int .i64 0, .int .i64 0, .int .i64 0, .int .i64 0] 45)).heap.size := by simp
  generalize w.alloc (.cells #[.int .i32 0, .int .i64 0, .int .i64 0, .int .i64 0, .int .i64 0, .int .i64 0] 45) = W at *
  have HG := hide' gr
  clear gr c0 c1
  have g0' : W.drew.cell? ⟨D, 0, none⟩ = some v := g0
  have g1' : W.drew.cell? ⟨D, 1, none⟩ = some (.int .i64 k) := g1
  clear g0 g1
  go_region_held3 (fun w' => w'.cell? ⟨D, 0, none⟩ = some v ∧ w'.cell? ⟨D, 1, none⟩ = some (.int .i64 k)) (first | exact ⟨g0', g1'⟩ | exact ⟨q0, q1⟩)
    (first | (go_at_call 11; refine hN.mono ?_; rintro e W1 ⟨rfl, hb1⟩; have q0 : W1.cell? ⟨D, 0, none⟩ = some v := (hb1.cell (p := ⟨D, 0, none⟩) (show D < W.heap.size by omega)).trans g0'; have q1 : W1.cell? ⟨D, 1, none⟩ = some (.int .i64 k) := (hb1.cell (p := ⟨D, 1, none⟩) (show D < W.heap.size by omega)).trans g1'))
  have hB1 : Below w.heap.size w W1 := hW.drew.trans (hb1.mono hW.size)
  have hF1 := H.out.below hB1
  obtain ⟨d0, d1, d2, d3, d4, d5, d6, d7, d8⟩ := hF1.cell
  have hR1 : W1.heap[w.heap.size]? = some (.cells #[.int .i32 0, .int .i64 0, .int .i64 0, .int .i64 0, .int .i64 0, .int .i64 0] 45 (0, 0)) := (hb1.block w.heap.size (by show w.heap.size < W.heap.size; omega)).trans HG.out
  have hs1 : w.heap.size < W1.heap.size := Nat.lt_of_lt_of_le hsz hb1.size
  clear hN g0' g1' q0 q1 hW HG hsz hb1
  have r0 : W1.cell? ⟨w.heap.size, 0, none⟩ = some (.int .i32 0) := by rw [Lib.cell_of_heap hR1]; rfl
  have r1 : W1.cell? ⟨w.heap.size, 1, none⟩ = some (.int .i64 0) := by rw [Lib.cell_of_heap hR1]; rfl
  have r2 : W1.cell? ⟨w.heap.size, 2, none⟩ = some (.int .i64 0) := by rw [Lib.cell_of_heap hR1]; rfl
  have r3 : W1.cell? ⟨w.heap.size, 3, none⟩ = some (.int .i64 0) := by rw [Lib.cell_of_heap hR1]; rfl
  have r4 : W1.cell? ⟨w.heap.size, 4, none⟩ = some (.int .i64 0) := by rw [Lib.cell_of_heap hR1]; rfl
  have r5 : W1.cell? ⟨w.heap.size, 5, none⟩ = some (.int .i64 0) := by rw [Lib.cell_of_heap hR1]; rfl
  have z0 : W1.frozen? ⟨w.heap.size, 0, none⟩ = false := Lib.frozen_of_heap hR1 0
  have z1 : W1.frozen? ⟨w.heap.size, 1, none⟩ = false := Lib.frozen_of_heap hR1 1
  have z2 : W1.frozen? ⟨w.heap.size, 2, none⟩ = false := Lib.frozen_of_heap hR1 2
  have z3 : W1.frozen? ⟨w.heap.size, 3, none⟩ = false := Lib.frozen_of_heap hR1 3
  have z4 : W1.frozen? ⟨w.heap.size, 4, none⟩ = false := Lib.frozen_of_heap hR1 4
  have z5 : W1.frozen? ⟨w.heap.size, 5, none⟩ = false := Lib.frozen_of_heap hR1 5
  have HB := hide' hB1
  clear hB1 hF1 hR1 H
  go_wp2
  refine bodyPost_ret (v := .tuple #[.agg #[.int .i32 r, .int .i64 pb, .int .i64 pr, .int .i64 pl, .int .i64 pc, .int .i64 z], .int .i64 0]) (by simp [results, Tryd.results33, go_sem, r0, r1, r2, r3, r4, r5]) rfl ⟨rfl, ?_⟩
  (repeat refine Below.setCell ?_ (by simp) _)
  exact HB.out

set_option maxHeartbeats 2000000 in
theorem peek_cr (h : FeedAt w D B v g n k wh pb pr pl pc bad ended) (z : Nat) (cN : ∀ W, Below w.heap.size w W → Calls Tryd.prog 11 #[v, .int .i64 k] W fun e W' => e = .returned (.tuple #[.int .i32 13, .int .i64 z, .int .i64 0, .int .i64 0]) ∧ Below W.heap.size W W') (y0 : Nat) (y1 y2 y3 y4 y5 m : Nat)
    (cL : ∀ W, FeedAt W D B v g n k wh pb pr pl pc bad ended → Calls Tryd.prog 36 #[.pointer (some ⟨D, 0, none⟩)] W fun e W' => Below W.heap.size W W' ∧ e = .returned (.tuple #[.agg #[.int .i32 y0, .int .i64 y1, .int .i64 y2, .int .i64 y3, .int .i64 y4, .int .i64 y5], .int .i64 m])) :
    Calls Tryd.prog 33 #[.pointer (some ⟨D, 0, none⟩)] w fun e w' => e = .returned (.tuple #[.agg #[.int .i32 y0, .int .i64 y1, .int .i64 y2, .int .i64 y3, .int .i64 y4, .int .i64 y5], .int .i64 m]) ∧ Below w.heap.size w w' := by
  obtain ⟨c0, c1, -, -, -, -, -, -, -⟩ := h.cell
  have hlt := h.lt
  have H := hide' h
  clear h
  have hW : Below w.heap.size w (w.alloc (.cells #[.int .i32 0, .int .i64 0, .int .i64 0, .int .i64 0, .int .i64 0, .int .i64 0] 45)) := (Below.refl _ _).alloc (Nat.le_refl _) _
  have hN := cN _ hW.drew
  clear cN
  go_enter Tryd.func33, Tryd.ntmps33
  go_wp2
  have g0 : (w.alloc (.cells #[.int .i32 0, .int .i64 0, .int .i64 0, .int .i64 0, .int .i64 0, .int .i64 0] 45)).cell? ⟨D, 0, none⟩ = some v := (hW.cell (p := ⟨D, 0, none⟩) hlt).trans c0
  have g1 : (w.alloc (.cells #[.int .i32 0, .int .i64 0, .int .i64 0, .int .i64 0, .int .i64 0, .int .i64 0] 45)).cell? ⟨D, 1, none⟩ = some (.int .i64 k) := (hW.cell (p := ⟨D, 1, none⟩) hlt).trans c1
  have gr : (w.alloc (.cells #[.int .i32 0, .int .i64 0, .int .i64 0, .int .i64 0, .int .i64 0, .int .i64 0] 45)).heap[w.heap.size]? = some (.cells #[.int .i32 0, .int .i64 0, .int .i64 0, .int .i64 0, .int .i64 0, .int .i64 0] 45 (0, 0)) := by show (w.heap.push _)[w.heap.size]? = _; simp
  have hsz : w.heap.size < (w.alloc (.cells #[.int .i32 0, .int .i64 0, .int .i64 0, .int .i64 0, .int .i64 0, .int .i64 0] 45)).heap.size := by simp
  generalize w.alloc (.cells #[.int .i32 0, .int .i64 0, .int .i64 0, .int .i64 0, .int .i64 0, .int .i64 0] 45) = W at *
  have HG := hide' gr
  clear gr c0 c1
  have g0' : W.drew.cell? ⟨D, 0, none⟩ = some v := g0
  have g1' : W.drew.cell? ⟨D, 1, none⟩ = some (.int .i64 k) := g1
  clear g0 g1
  go_region_held3 (fun w' => w'.cell? ⟨D, 0, none⟩ = some v ∧ w'.cell? ⟨D, 1, none⟩ = some (.int .i64 k)) (first | exact ⟨g0', g1'⟩ | exact ⟨q0, q1⟩)
    (first | (go_at_call 11; refine hN.mono ?_; rintro e W1 ⟨rfl, hb1⟩; have q0 : W1.cell? ⟨D, 0, none⟩ = some v := (hb1.cell (p := ⟨D, 0, none⟩) (show D < W.heap.size by omega)).trans g0'; have q1 : W1.cell? ⟨D, 1, none⟩ = some (.int .i64 k) := (hb1.cell (p := ⟨D, 1, none⟩) (show D < W.heap.size by omega)).trans g1'))
  have hB1 : Below w.heap.size w W1 := hW.drew.trans (hb1.mono hW.size)
  have hF1 := H.out.below hB1
  obtain ⟨d0, d1, d2, d3, d4, d5, d6, d7, d8⟩ := hF1.cell
  have hR1 : W1.heap[w.heap.size]? = some (.cells #[.int .i32 0, .int .i64 0, .int .i64 0, .int .i64 0, .int .i64 0, .int .i64 0] 45 (0, 0)) := (hb1.block w.heap.size (by show w.heap.size < W.heap.size; omega)).trans HG.out
  have hs1 : w.heap.size < W1.heap.size := Nat.lt_of_lt_of_le hsz hb1.size
  clear hN g0' g1' q0 q1 hW HG hsz hb1
  have cL1 := cL W1 hF1
  clear cL hF1 H
  go_wp2_with fail
  refine cL1.mono ?_
  rintro e W2 ⟨hb2, rfl⟩
  have hB2 := hB1.trans (hb2.mono hB1.size)
  have hR2 := (hb2.block _ hs1).trans hR1
  have r0 : W2.cell? ⟨w.heap.size, 0, none⟩ = some (.int .i32 0) := by rw [Lib.cell_of_heap hR2]; rfl
  have r1 : W2.cell? ⟨w.heap.size, 1, none⟩ = some (.int .i64 0) := by rw [Lib.cell_of_heap hR2]; rfl
  have r2 : W2.cell? ⟨w.heap.size, 2, none⟩ = some (.int .i64 0) := by rw [Lib.cell_of_heap hR2]; rfl
  have r3 : W2.cell? ⟨w.heap.size, 3, none⟩ = some (.int .i64 0) := by rw [Lib.cell_of_heap hR2]; rfl
  have r4 : W2.cell? ⟨w.heap.size, 4, none⟩ = some (.int .i64 0) := by rw [Lib.cell_of_heap hR2]; rfl
  have r5 : W2.cell? ⟨w.heap.size, 5, none⟩ = some (.int .i64 0) := by rw [Lib.cell_of_heap hR2]; rfl
  have z0 : W2.frozen? ⟨w.heap.size, 0, none⟩ = false := Lib.frozen_of_heap hR2 0
  have z1 : W2.frozen? ⟨w.heap.size, 1, none⟩ = false := Lib.frozen_of_heap hR2 1
  have z2 : W2.frozen? ⟨w.heap.size, 2, none⟩ = false := Lib.frozen_of_heap hR2 2
  have z3 : W2.frozen? ⟨w.heap.size, 3, none⟩ = false := Lib.frozen_of_heap hR2 3
  have z4 : W2.frozen? ⟨w.heap.size, 4, none⟩ = false := Lib.frozen_of_heap hR2 4
  have z5 : W2.frozen? ⟨w.heap.size, 5, none⟩ = false := Lib.frozen_of_heap hR2 5
  have HB := hide' hB2
  clear hB1 hB2 hb2 hR1 hR2 cL1 d0 d1 d2 d3 d4 d5 d6 d7 d8
  go_wp2
  refine bodyPost_ret (v := .tuple #[.agg #[.int .i32 y0, .int .i64 y1, .int .i64 y2, .int .i64 y3, .int .i64 y4, .int .i64 y5], .int .i64 m]) (by simp [results, Tryd.results33, go_sem, r0, r1, r2, r3, r4, r5]) rfl ⟨rfl, ?_⟩
  (repeat refine Below.setCell ?_ (by simp) _)
  exact HB.out

set_option maxHeartbeats 2000000 in
theorem peek_wait (h : FeedAt w D B v g n k wh pb pr pl pc bad false) (z : Nat) (cN : ∀ W, Below w.heap.size w W → Calls Tryd.prog 11 #[v, .int .i64 k] W fun e W' => e = .returned (.tuple #[.int .i32 0, .int .i64 z, .int .i64 1, .int .i64 0]) ∧ Below W.heap.size W W') :
    Calls Tryd.prog 33 #[.pointer (some ⟨D, 0, none⟩)] w fun e w' => e = .returned (.tuple #[.agg #[.int .i32 0, .int .i64 0, .int .i64 0, .int .i64 0, .int .i64 0, .int .i64 0], .int .i64 1]) ∧ Below w.heap.size w w' := by
  obtain ⟨c0, c1, -, -, -, -, -, -, -⟩ := h.cell
  have hlt := h.lt
  have H := hide' h
  clear h
  have hW : Below w.heap.size w (w.alloc (.cells #[.int .i32 0, .int .i64 0, .int .i64 0, .int .i64 0, .int .i64 0, .int .i64 0] 45)) := (Below.refl _ _).alloc (Nat.le_refl _) _
  have hN := cN _ hW.drew
  clear cN
  go_enter Tryd.func33, Tryd.ntmps33
  go_wp2
  have g0 : (w.alloc (.cells #[.int .i32 0, .int .i64 0, .int .i64 0, .int .i64 0, .int .i64 0, .int .i64 0] 45)).cell? ⟨D, 0, none⟩ = some v := (hW.cell (p := ⟨D, 0, none⟩) hlt).trans c0
  have g1 : (w.alloc (.cells #[.int .i32 0, .int .i64 0, .int .i64 0, .int .i64 0, .int .i64 0, .int .i64 0] 45)).cell? ⟨D, 1, none⟩ = some (.int .i64 k) := (hW.cell (p := ⟨D, 1, none⟩) hlt).trans c1
  have gr : (w.alloc (.cells #[.int .i32 0, .int .i64 0, .int .i64 0, .int .i64 0, .int .i64 0, .int .i64 0] 45)).heap[w.heap.size]? = some (.cells #[.int .i32 0, .int .i64 0, .int .i64 0, .int .i64 0, .int .i64 0, .int .i64 0] 45 (0, 0)) := by show (w.heap.push _)[w.heap.size]? = _; simp
  have hsz : w.heap.size < (w.alloc (.cells #[.int .i32 0, .int .i64 0, .int .i64 0, .int .i64 0, .int .i64 0, .int .i64 0] 45)).heap.size := by simp
  generalize w.alloc (.cells #[.int .i32 0, .int .i64 0, .int .i64 0, .int .i64 0, .int .i64 0, .int .i64 0] 45) = W at *
  have HG := hide' gr
  clear gr c0 c1
  have g0' : W.drew.cell? ⟨D, 0, none⟩ = some v := g0
  have g1' : W.drew.cell? ⟨D, 1, none⟩ = some (.int .i64 k) := g1
  clear g0 g1
  go_region_held3 (fun w' => w'.cell? ⟨D, 0, none⟩ = some v ∧ w'.cell? ⟨D, 1, none⟩ = some (.int .i64 k)) (first | exact ⟨g0', g1'⟩ | exact ⟨q0, q1⟩)
    (first | (go_at_call 11; refine hN.mono ?_; rintro e W1 ⟨rfl, hb1⟩; have q0 : W1.cell? ⟨D, 0, none⟩ = some v := (hb1.cell (p := ⟨D, 0, none⟩) (show D < W.heap.size by omega)).trans g0'; have q1 : W1.cell? ⟨D, 1, none⟩ = some (.int .i64 k) := (hb1.cell (p := ⟨D, 1, none⟩) (show D < W.heap.size by omega)).trans g1'))
  have hB1 : Below w.heap.size w W1 := hW.drew.trans (hb1.mono hW.size)
  have hF1 := H.out.below hB1
  obtain ⟨d0, d1, d2, d3, d4, d5, d6, d7, d8⟩ := hF1.cell
  have hR1 : W1.heap[w.heap.size]? = some (.cells #[.int .i32 0, .int .i64 0, .int .i64 0, .int .i64 0, .int .i64 0, .int .i64 0] 45 (0, 0)) := (hb1.block w.heap.size (by show w.heap.size < W.heap.size; omega)).trans HG.out
  have hs1 : w.heap.size < W1.heap.size := Nat.lt_of_lt_of_le hsz hb1.size
  clear hN g0' g1' q0 q1 hW HG hsz hb1
  have r0 : W1.cell? ⟨w.heap.size, 0, none⟩ = some (.int .i32 0) := by rw [Lib.cell_of_heap hR1]; rfl
  have r1 : W1.cell? ⟨w.heap.size, 1, none⟩ = some (.int .i64 0) := by rw [Lib.cell_of_heap hR1]; rfl
  have r2 : W1.cell? ⟨w.heap.size, 2, none⟩ = some (.int .i64 0) := by rw [Lib.cell_of_heap hR1]; rfl
  have r3 : W1.cell? ⟨w.heap.size, 3, none⟩ = some (.int .i64 0) := by rw [Lib.cell_of_heap hR1]; rfl
  have r4 : W1.cell? ⟨w.heap.size, 4, none⟩ = some (.int .i64 0) := by rw [Lib.cell_of_heap hR1]; rfl
  have r5 : W1.cell? ⟨w.heap.size, 5, none⟩ = some (.int .i64 0) := by rw [Lib.cell_of_heap hR1]; rfl
  have z0 : W1.frozen? ⟨w.heap.size, 0, none⟩ = false := Lib.frozen_of_heap hR1 0
  have z1 : W1.frozen? ⟨w.heap.size, 1, none⟩ = false := Lib.frozen_of_heap hR1 1
  have z2 : W1.frozen? ⟨w.heap.size, 2, none⟩ = false := Lib.frozen_of_heap hR1 2
  have z3 : W1.frozen? ⟨w.heap.size, 3, none⟩ = false := Lib.frozen_of_heap hR1 3
  have z4 : W1.frozen? ⟨w.heap.size, 4, none⟩ = false := Lib.frozen_of_heap hR1 4
  have z5 : W1.frozen? ⟨w.heap.size, 5, none⟩ = false := Lib.frozen_of_heap hR1 5
  have HB := hide' hB1
  clear hB1 hF1 hR1 H
  go_wp2
  refine bodyPost_ret (v := .tuple #[.agg #[.int .i32 0, .int .i64 0, .int .i64 0, .int .i64 0, .int .i64 0, .int .i64 0], .int .i64 1]) (by simp [results, Tryd.results33, go_sem, r0, r1, r2, r3, r4, r5]) rfl ⟨rfl, ?_⟩
  (repeat refine Below.setCell ?_ (by simp) _)
  exact HB.out

set_option maxHeartbeats 2000000 in
theorem peek_done (h : FeedAt w D B v g n k wh pb pr pl pc bad false) (z : Nat) (cN : ∀ W, Below w.heap.size w W → Calls Tryd.prog 11 #[v, .int .i64 k] W fun e W' => e = .returned (.tuple #[.int .i32 0, .int .i64 z, .int .i64 3, .int .i64 0]) ∧ Below W.heap.size W W') :
    Calls Tryd.prog 33 #[.pointer (some ⟨D, 0, none⟩)] w fun e w' => e = .returned (.tuple #[.agg #[.int .i32 0, .int .i64 0, .int .i64 0, .int .i64 0, .int .i64 0, .int .i64 0], .int .i64 1]) ∧ Below w.heap.size w w' := by
  obtain ⟨c0, c1, -, -, -, -, -, -, -⟩ := h.cell
  have hlt := h.lt
  have H := hide' h
  clear h
  have hW : Below w.heap.size w (w.alloc (.cells #[.int .i32 0, .int .i64 0, .int .i64 0, .int .i64 0, .int .i64 0, .int .i64 0] 45)) := (Below.refl _ _).alloc (Nat.le_refl _) _
  have hN := cN _ hW.drew
  clear cN
  go_enter Tryd.func33, Tryd.ntmps33
  go_wp2
  have g0 : (w.alloc (.cells #[.int .i32 0, .int .i64 0, .int .i64 0, .int .i64 0, .int .i64 0, .int .i64 0] 45)).cell? ⟨D, 0, none⟩ = some v := (hW.cell (p := ⟨D, 0, none⟩) hlt).trans c0
  have g1 : (w.alloc (.cells #[.int .i32 0, .int .i64 0, .int .i64 0, .int .i64 0, .int .i64 0, .int .i64 0] 45)).cell? ⟨D, 1, none⟩ = some (.int .i64 k) := (hW.cell (p := ⟨D, 1, none⟩) hlt).trans c1
  have gr : (w.alloc (.cells #[.int .i32 0, .int .i64 0, .int .i64 0, .int .i64 0, .int .i64 0, .int .i64 0] 45)).heap[w.heap.size]? = some (.cells #[.int .i32 0, .int .i64 0, .int .i64 0, .int .i64 0, .int .i64 0, .int .i64 0] 45 (0, 0)) := by show (w.heap.push _)[w.heap.size]? = _; simp
  have hsz : w.heap.size < (w.alloc (.cells #[.int .i32 0, .int .i64 0, .int .i64 0, .int .i64 0, .int .i64 0, .int .i64 0] 45)).heap.size := by simp
  generalize w.alloc (.cells #[.int .i32 0, .int .i64 0, .int .i64 0, .int .i64 0, .int .i64 0, .int .i64 0] 45) = W at *
  have HG := hide' gr
  clear gr c0 c1
  have g0' : W.drew.cell? ⟨D, 0, none⟩ = some v := g0
  have g1' : W.drew.cell? ⟨D, 1, none⟩ = some (.int .i64 k) := g1
  clear g0 g1
  go_region_held3 (fun w' => w'.cell? ⟨D, 0, none⟩ = some v ∧ w'.cell? ⟨D, 1, none⟩ = some (.int .i64 k)) (first | exact ⟨g0', g1'⟩ | exact ⟨q0, q1⟩)
    (first | (go_at_call 11; refine hN.mono ?_; rintro e W1 ⟨rfl, hb1⟩; have q0 : W1.cell? ⟨D, 0, none⟩ = some v := (hb1.cell (p := ⟨D, 0, none⟩) (show D < W.heap.size by omega)).trans g0'; have q1 : W1.cell? ⟨D, 1, none⟩ = some (.int .i64 k) := (hb1.cell (p := ⟨D, 1, none⟩) (show D < W.heap.size by omega)).trans g1'))
  have hB1 : Below w.heap.size w W1 := hW.drew.trans (hb1.mono hW.size)
  have hF1 := H.out.below hB1
  obtain ⟨d0, d1, d2, d3, d4, d5, d6, d7, d8⟩ := hF1.cell
  have hR1 : W1.heap[w.heap.size]? = some (.cells #[.int .i32 0, .int .i64 0, .int .i64 0, .int .i64 0, .int .i64 0, .int .i64 0] 45 (0, 0)) := (hb1.block w.heap.size (by show w.heap.size < W.heap.size; omega)).trans HG.out
  have hs1 : w.heap.size < W1.heap.size := Nat.lt_of_lt_of_le hsz hb1.size
  clear hN g0' g1' q0 q1 hW HG hsz hb1
  have r0 : W1.cell? ⟨w.heap.size, 0, none⟩ = some (.int .i32 0) := by rw [Lib.cell_of_heap hR1]; rfl
  have r1 : W1.cell? ⟨w.heap.size, 1, none⟩ = some (.int .i64 0) := by rw [Lib.cell_of_heap hR1]; rfl
  have r2 : W1.cell? ⟨w.heap.size, 2, none⟩ = some (.int .i64 0) := by rw [Lib.cell_of_heap hR1]; rfl
  have r3 : W1.cell? ⟨w.heap.size, 3, none⟩ = some (.int .i64 0) := by rw [Lib.cell_of_heap hR1]; rfl
  have r4 : W1.cell? ⟨w.heap.size, 4, none⟩ = some (.int .i64 0) := by rw [Lib.cell_of_heap hR1]; rfl
  have r5 : W1.cell? ⟨w.heap.size, 5, none⟩ = some (.int .i64 0) := by rw [Lib.cell_of_heap hR1]; rfl
  have z0 : W1.frozen? ⟨w.heap.size, 0, none⟩ = false := Lib.frozen_of_heap hR1 0
  have z1 : W1.frozen? ⟨w.heap.size, 1, none⟩ = false := Lib.frozen_of_heap hR1 1
  have z2 : W1.frozen? ⟨w.heap.size, 2, none⟩ = false := Lib.frozen_of_heap hR1 2
  have z3 : W1.frozen? ⟨w.heap.size, 3, none⟩ = false := Lib.frozen_of_heap hR1 3
  have z4 : W1.frozen? ⟨w.heap.size, 4, none⟩ = false := Lib.frozen_of_heap hR1 4
  have z5 : W1.frozen? ⟨w.heap.size, 5, none⟩ = false := Lib.frozen_of_heap hR1 5
  have HB := hide' hB1
  clear hB1 hF1 hR1 H
  go_wp2
  refine bodyPost_ret (v := .tuple #[.agg #[.int .i32 0, .int .i64 0, .int .i64 0, .int .i64 0, .int .i64 0, .int .i64 0], .int .i64 1]) (by simp [results, Tryd.results33, go_sem, r0, r1, r2, r3, r4, r5]) rfl ⟨rfl, ?_⟩
  (repeat refine Below.setCell ?_ (by simp) _)
  exact HB.out

set_option maxHeartbeats 2000000 in
theorem peek_donee (h : FeedAt w D B v g n k wh pb pr pl pc bad true) (z : Nat) (cN : ∀ W, Below w.heap.size w W → Calls Tryd.prog 11 #[v, .int .i64 k] W fun e W' => e = .returned (.tuple #[.int .i32 0, .int .i64 z, .int .i64 3, .int .i64 0]) ∧ Below W.heap.size W W') :
    Calls Tryd.prog 33 #[.pointer (some ⟨D, 0, none⟩)] w fun e w' => e = .returned (.tuple #[.agg #[.int .i32 0, .int .i64 0, .int .i64 0, .int .i64 0, .int .i64 0, .int .i64 0], .int .i64 3]) ∧ Below w.heap.size w w' := by
  obtain ⟨c0, c1, -, -, -, -, -, -, -⟩ := h.cell
  have hlt := h.lt
  have H := hide' h
  clear h
  have hW : Below w.heap.size w (w.alloc (.cells #[.int .i32 0, .int .i64 0, .int .i64 0, .int .i64 0, .int .i64 0, .int .i64 0] 45)) := (Below.refl _ _).alloc (Nat.le_refl _) _
  have hN := cN _ hW.drew
  clear cN
  go_enter Tryd.func33, Tryd.ntmps33
  go_wp2
  have g0 : (w.alloc (.cells #[.int .i32 0, .int .i64 0, .int .i64 0, .int .i64 0, .int .i64 0, .int .i64 0] 45)).cell? ⟨D, 0, none⟩ = some v := (hW.cell (p := ⟨D, 0, none⟩) hlt).trans c0
  have g1 : (w.alloc (.cells #[.int .i32 0, .int .i64 0, .int .i64 0, .int .i64 0, .int .i64 0, .int .i64 0] 45)).cell? ⟨D, 1, none⟩ = some (.int .i64 k) := (hW.cell (p := ⟨D, 1, none⟩) hlt).trans c1
  have gr : (w.alloc (.cells #[.int .i32 0, .int .i64 0, .int .i64 0, .int .i64 0, .int .i64 0, .int .i64 0] 45)).heap[w.heap.size]? = some (.cells #[.int .i32 0, .int .i64 0, .int .i64 0, .int .i64 0, .int .i64 0, .int .i64 0] 45 (0, 0)) := by show (w.heap.push _)[w.heap.size]? = _; simp
  have hsz : w.heap.size < (w.alloc (.cells #[.int .i32 0, .int .i64 0, .int .i64 0, .int .i64 0, .int .i64 0, .int .i64 0] 45)).heap.size := by simp
  generalize w.alloc (.cells #[.int .i32 0, .int .i64 0, .int .i64 0, .int .i64 0, .int .i64 0, .int .i64 0] 45) = W at *
  have HG := hide' gr
  clear gr c0 c1
  have g0' : W.drew.cell? ⟨D, 0, none⟩ = some v := g0
  have g1' : W.drew.cell? ⟨D, 1, none⟩ = some (.int .i64 k) := g1
  clear g0 g1
  go_region_held3 (fun w' => w'.cell? ⟨D, 0, none⟩ = some v ∧ w'.cell? ⟨D, 1, none⟩ = some (.int .i64 k)) (first | exact ⟨g0', g1'⟩ | exact ⟨q0, q1⟩)
    (first | (go_at_call 11; refine hN.mono ?_; rintro e W1 ⟨rfl, hb1⟩; have q0 : W1.cell? ⟨D, 0, none⟩ = some v := (hb1.cell (p := ⟨D, 0, none⟩) (show D < W.heap.size by omega)).trans g0'; have q1 : W1.cell? ⟨D, 1, none⟩ = some (.int .i64 k) := (hb1.cell (p := ⟨D, 1, none⟩) (show D < W.heap.size by omega)).trans g1'))
  have hB1 : Below w.heap.size w W1 := hW.drew.trans (hb1.mono hW.size)
  have hF1 := H.out.below hB1
  obtain ⟨d0, d1, d2, d3, d4, d5, d6, d7, d8⟩ := hF1.cell
  have hR1 : W1.heap[w.heap.size]? = some (.cells #[.int .i32 0, .int .i64 0, .int .i64 0, .int .i64 0, .int .i64 0, .int .i64 0] 45 (0, 0)) := (hb1.block w.heap.size (by show w.heap.size < W.heap.size; omega)).trans HG.out
  have hs1 : w.heap.size < W1.heap.size := Nat.lt_of_lt_of_le hsz hb1.size
  clear hN g0' g1' q0 q1 hW HG hsz hb1
  have r0 : W1.cell? ⟨w.heap.size, 0, none⟩ = some (.int .i32 0) := by rw [Lib.cell_of_heap hR1]; rfl
  have r1 : W1.cell? ⟨w.heap.size, 1, none⟩ = some (.int .i64 0) := by rw [Lib.cell_of_heap hR1]; rfl
  have r2 : W1.cell? ⟨w.heap.size, 2, none⟩ = some (.int .i64 0) := by rw [Lib.cell_of_heap hR1]; rfl
  have r3 : W1.cell? ⟨w.heap.size, 3, none⟩ = some (.int .i64 0) := by rw [Lib.cell_of_heap hR1]; rfl
  have r4 : W1.cell? ⟨w.heap.size, 4, none⟩ = some (.int .i64 0) := by rw [Lib.cell_of_heap hR1]; rfl
  have r5 : W1.cell? ⟨w.heap.size, 5, none⟩ = some (.int .i64 0) := by rw [Lib.cell_of_heap hR1]; rfl
  have z0 : W1.frozen? ⟨w.heap.size, 0, none⟩ = false := Lib.frozen_of_heap hR1 0
  have z1 : W1.frozen? ⟨w.heap.size, 1, none⟩ = false := Lib.frozen_of_heap hR1 1
  have z2 : W1.frozen? ⟨w.heap.size, 2, none⟩ = false := Lib.frozen_of_heap hR1 2
  have z3 : W1.frozen? ⟨w.heap.size, 3, none⟩ = false := Lib.frozen_of_heap hR1 3
  have z4 : W1.frozen? ⟨w.heap.size, 4, none⟩ = false := Lib.frozen_of_heap hR1 4
  have z5 : W1.frozen? ⟨w.heap.size, 5, none⟩ = false := Lib.frozen_of_heap hR1 5
  have HB := hide' hB1
  clear hB1 hF1 hR1 H
  go_wp2
  refine bodyPost_ret (v := .tuple #[.agg #[.int .i32 0, .int .i64 0, .int .i64 0, .int .i64 0, .int .i64 0, .int .i64 0], .int .i64 3]) (by simp [results, Tryd.results33, go_sem, r0, r1, r2, r3, r4, r5]) rfl ⟨rfl, ?_⟩
  (repeat refine Below.setCell ?_ (by simp) _)
  exact HB.out

set_option maxHeartbeats 2000000 in
theorem peek_short (h : FeedAt w D B v g n k wh pb pr pl pc bad true) (z : Nat) (h1 : pb + z < 9223372036854775808) (h2 : pr + z < 9223372036854775808) (h3 : pc + z < 9223372036854775808) (cN : ∀ W, Below w.heap.size w W → Calls Tryd.prog 11 #[v, .int .i64 k] W fun e W' => e = .returned (.tuple #[.int .i32 0, .int .i64 z, .int .i64 1, .int .i64 0]) ∧ Below W.heap.size W W') :
    Calls Tryd.prog 33 #[.pointer (some ⟨D, 0, none⟩)] w fun e w' => e = .returned (.tuple #[.agg #[.int .i32 0, .int .i64 (pb + z : Nat), .int .i64 (pr + z : Nat), .int .i64 pl, .int .i64 (pc + z : Nat), .int .i64 0], .int .i64 2]) ∧ Below w.heap.size w w' := by
  obtain ⟨c0, c1, -, -, -, -, -, -, -⟩ := h.cell
  have hlt := h.lt
  have H := hide' h
  clear h
  have hW : Below w.heap.size w (w.alloc (.cells #[.int .i32 0, .int .i64 0, .int .i64 0, .int .i64 0, .int .i64 0, .int .i64 0] 45)) := (Below.refl _ _).alloc (Nat.le_refl _) _
  have hN := cN _ hW.drew
  clear cN
  go_enter Tryd.func33, Tryd.ntmps33
  go_wp2
  have g0 : (w.alloc (.cells #[.int .i32 0, .int .i64 0, .int .i64 0, .int .i64 0, .int .i64 0, .int .i64 0] 45)).cell? ⟨D, 0, none⟩ = some v := (hW.cell (p := ⟨D, 0, none⟩) hlt).trans c0
  have g1 : (w.alloc (.cells #[.int .i32 0, .int .i64 0, .int .i64 0, .int .i64 0, .int .i64 0, .int .i64 0] 45)).cell? ⟨D, 1, none⟩ = some (.int .i64 k) := (hW.cell (p := ⟨D, 1, none⟩) hlt).trans c1
  have gr : (w.alloc (.cells #[.int .i32 0, .int .i64 0, .int .i64 0, .int .i64 0, .int .i64 0, .int .i64 0] 45)).heap[w.heap.size]? = some (.cells #[.int .i32 0, .int .i64 0, .int .i64 0, .int .i64 0, .int .i64 0, .int .i64 0] 45 (0, 0)) := by show (w.heap.push _)[w.heap.size]? = _; simp
  have hsz : w.heap.size < (w.alloc (.cells #[.int .i32 0, .int .i64 0, .int .i64 0, .int .i64 0, .int .i64 0, .int .i64 0] 45)).heap.size := by simp
  generalize w.alloc (.cells #[.int .i32 0, .int .i64 0, .int .i64 0, .int .i64 0, .int .i64 0, .int .i64 0] 45) = W at *
  have HG := hide' gr
  clear gr c0 c1
  have g0' : W.drew.cell? ⟨D, 0, none⟩ = some v := g0
  have g1' : W.drew.cell? ⟨D, 1, none⟩ = some (.int .i64 k) := g1
  clear g0 g1
  go_region_held3 (fun w' => w'.cell? ⟨D, 0, none⟩ = some v ∧ w'.cell? ⟨D, 1, none⟩ = some (.int .i64 k)) (first | exact ⟨g0', g1'⟩ | exact ⟨q0, q1⟩)
    (first | (go_at_call 11; refine hN.mono ?_; rintro e W1 ⟨rfl, hb1⟩; have q0 : W1.cell? ⟨D, 0, none⟩ = some v := (hb1.cell (p := ⟨D, 0, none⟩) (show D < W.heap.size by omega)).trans g0'; have q1 : W1.cell? ⟨D, 1, none⟩ = some (.int .i64 k) := (hb1.cell (p := ⟨D, 1, none⟩) (show D < W.heap.size by omega)).trans g1'))
  have hB1 : Below w.heap.size w W1 := hW.drew.trans (hb1.mono hW.size)
  have hF1 := H.out.below hB1
  obtain ⟨d0, d1, d2, d3, d4, d5, d6, d7, d8⟩ := hF1.cell
  have hR1 : W1.heap[w.heap.size]? = some (.cells #[.int .i32 0, .int .i64 0, .int .i64 0, .int .i64 0, .int .i64 0, .int .i64 0] 45 (0, 0)) := (hb1.block w.heap.size (by show w.heap.size < W.heap.size; omega)).trans HG.out
  have hs1 : w.heap.size < W1.heap.size := Nat.lt_of_lt_of_le hsz hb1.size
  clear hN g0' g1' q0 q1 hW HG hsz hb1
  have cL1 := feedWrong_any hF1 z h1 h2 h3
  clear hF1 H h1 h2 h3
  go_wp2_with fail
  refine cL1.mono ?_
  rintro e W2 ⟨rfl, hb2⟩
  have hB2 := hB1.trans (hb2.mono hB1.size)
  have hR2 := (hb2.block _ hs1).trans hR1
  have r0 : W2.cell? ⟨w.heap.size, 0, none⟩ = some (.int .i32 0) := by rw [Lib.cell_of_heap hR2]; rfl
  have r1 : W2.cell? ⟨w.heap.size, 1, none⟩ = some (.int .i64 0) := by rw [Lib.cell_of_heap hR2]; rfl
  have r2 : W2.cell? ⟨w.heap.size, 2, none⟩ = some (.int .i64 0) := by rw [Lib.cell_of_heap hR2]; rfl
  have r3 : W2.cell? ⟨w.heap.size, 3, none⟩ = some (.int .i64 0) := by rw [Lib.cell_of_heap hR2]; rfl
  have r4 : W2.cell? ⟨w.heap.size, 4, none⟩ = some (.int .i64 0) := by rw [Lib.cell_of_heap hR2]; rfl
  have r5 : W2.cell? ⟨w.heap.size, 5, none⟩ = some (.int .i64 0) := by rw [Lib.cell_of_heap hR2]; rfl
  have z0 : W2.frozen? ⟨w.heap.size, 0, none⟩ = false := Lib.frozen_of_heap hR2 0
  have z1 : W2.frozen? ⟨w.heap.size, 1, none⟩ = false := Lib.frozen_of_heap hR2 1
  have z2 : W2.frozen? ⟨w.heap.size, 2, none⟩ = false := Lib.frozen_of_heap hR2 2
  have z3 : W2.frozen? ⟨w.heap.size, 3, none⟩ = false := Lib.frozen_of_heap hR2 3
  have z4 : W2.frozen? ⟨w.heap.size, 4, none⟩ = false := Lib.frozen_of_heap hR2 4
  have z5 : W2.frozen? ⟨w.heap.size, 5, none⟩ = false := Lib.frozen_of_heap hR2 5
  have HB := hide' hB2
  clear hB1 hB2 hb2 hR1 hR2 cL1 d0 d1 d2 d3 d4 d5 d6 d7 d8
  go_wp2
  refine bodyPost_ret (v := .tuple #[.agg #[.int .i32 0, .int .i64 (pb + z : Nat), .int .i64 (pr + z : Nat), .int .i64 pl, .int .i64 (pc + z : Nat), .int .i64 0], .int .i64 2]) (by simp [results, Tryd.results33, go_sem, r0, r1, r2, r3, r4, r5]) rfl ⟨rfl, ?_⟩
  (repeat refine Below.setCell ?_ (by simp) _)
  exact HB.out
end
end Go.Proofs.YtcggkbgbfgkaiaaDoor
