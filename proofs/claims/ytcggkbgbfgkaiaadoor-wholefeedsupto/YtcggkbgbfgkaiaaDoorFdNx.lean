/-
  THE WALK over feed's Next.
-/
import Derived.Test.YtcggkbgbfgkaiaaDoorFdNext
namespace Go.Proofs.YtcggkbgbfgkaiaaDoor
open Go.RowKit Go.Lib
theorem But.then {D : Nat} {w a b : World} (h : But D w a) (k : Below w.heap.size a b) : But D w b :=
  ⟨k.os.trans h.os, k.tape.trans h.tape, k.output.trans h.output, Nat.le_trans h.size k.size, fun i hi hn => (k.block i hi).trans (h.block i hi hn)⟩
theorem FeedAt.belowAt {w w' : World} {D B : Nat} {v : Value} {g : Nat → Nat} {n k wh pb pr pl pc : Nat} {bad ended : Bool} {X : Nat} (h : FeedAt w D B v g n k wh pb pr pl pc bad ended) (hb : Below X w w') (hD : D < X) (hr : ∀ q, v.ownBlock = some q → q < X) : FeedAt w' D B v g n k wh pb pr pl pc bad ended :=
  ⟨(hb.block D hD).trans h.1, kept_grown h.2 fun q hq => hb.block q (hr q hq)⟩
section
variable {D B : Nat} {v : Value} {g : Nat → Nat} {n k wh pb pr pl pc : Nat} {bad ended : Bool} {w : World}

set_option maxHeartbeats 1000000 in
theorem next_nl (h : FeedAt w D B v g n k wh pb pr pl pc bad ended) (z : Nat) (y1 y2 y3 y4 : Nat) (h0 : k + z < 9223372036854775808) (h1 : pb + z < 9223372036854775808) (h2 : pr + z < 9223372036854775808) (h3 : pl + 1 < 9223372036854775808)
    (cP : ∀ W, Below w.heap.size w W → Calls Tryd.prog 33 #[.pointer (some ⟨D, 0, none⟩)] W fun e W' => e = .returned (.tuple #[.agg #[.int .i32 10, .int .i64 y1, .int .i64 y2, .int .i64 y3, .int .i64 y4, .int .i64 z], .int .i64 0]) ∧ Below W.heap.size W W') :
    Calls Tryd.prog 26 #[.pointer (some ⟨D, 0, none⟩)] w fun e w' => e = .returned (.tuple #[.agg #[.int .i32 10, .int .i64 y1, .int .i64 y2, .int .i64 y3, .int .i64 y4, .int .i64 z], .int .i64 0]) ∧ FeedAt w' D B v g n (k + z) wh (pb + z) (pr + z) (pl + 1) 1 bad ended ∧ But D w w' := by
  have hlt := h.lt
  have hrow : Hid (∀ q, v.ownBlock = some q → q < w.heap.size) := fun q hq => (h.2.lt q hq).2
  have H := hide' h
  clear h
  have hW : Below w.heap.size w (w.alloc (.cells #[.int .i32 0, .int .i64 0, .int .i64 0, .int .i64 0, .int .i64 0, .int .i64 0] 45)) := (Below.refl _ _).alloc (Nat.le_refl _) _
  have hN := cP _ hW
  clear cP
  go_enter Tryd.func26, Tryd.ntmps26
  go_wp2_with fail
  refine hN.mono ?_
  rintro e W1 ⟨rfl, hb1⟩
  have hB1 : Below w.heap.size w W1 := hW.trans (hb1.mono hW.size)
  have hR1 : W1.heap[w.heap.size]? = some (.cells #[.int .i32 0, .int .i64 0, .int .i64 0, .int .i64 0, .int .i64 0, .int .i64 0] 45 (0, 0)) := (hb1.block w.heap.size (by simp)).trans (by show (w.heap.push _)[w.heap.size]? = _; simp)
  have hs1 : w.heap.size < W1.heap.size := Nat.lt_of_lt_of_le (by simp) hb1.size
  have hne : ¬ w.heap.size = D := by omega
  have hne2 : ¬ W1.heap.size = w.heap.size := by omega
  clear hN hb1 hW
  have hF2 : FeedAt (W1.alloc (.cells #[.int .i32 10, .int .i64 y1, .int .i64 y2, .int .i64 y3, .int .i64 y4, .int .i64 z] 45)) D B v g n k wh pb pr pl pc bad ended := (H.out.below hB1).below ((Below.refl _ _).alloc (Nat.le_refl _) _)
  have hB2 : Below w.heap.size w (W1.alloc (.cells #[.int .i32 10, .int .i64 y1, .int .i64 y2, .int .i64 y3, .int .i64 y4, .int .i64 z] 45)) := hB1.alloc hB1.size _
  have hR2 : (W1.alloc (.cells #[.int .i32 10, .int .i64 y1, .int .i64 y2, .int .i64 y3, .int .i64 y4, .int .i64 z] 45)).heap[w.heap.size]? = some (.cells #[.int .i32 0, .int .i64 0, .int .i64 0, .int .i64 0, .int .i64 0, .int .i64 0] 45 (0, 0)) := (Below.heap_alloc _ _ _ hs1).trans hR1
  have cT := feedTake_nl hF2 z y1 y2 y3 y4 h0 h1 h2 h3
  have hC2 : (W1.alloc (.cells #[.int .i32 10, .int .i64 y1, .int .i64 y2, .int .i64 y3, .int .i64 y4, .int .i64 z] 45)).heap[W1.heap.size]? = some (.cells #[.int .i32 10, .int .i64 y1, .int .i64 y2, .int .i64 y3, .int .i64 y4, .int .i64 z] 45 (0, 0)) := by show (W1.heap.push _)[W1.heap.size]? = _; simp
  have HF := hide' hF2
  have HB := hide' hB2
  have HC := hide' hC2
  have HR := hide' hR2
  have hDW : Hid (D ≠ W1.heap.size) := by show D ≠ W1.heap.size; omega
  clear hF2 hB2 hC2 hR2 hB1 hR1 H
  go_wp2_with fail
  refine cT.mono ?_
  rintro e W3 ⟨rfl, hF3, hb3⟩
  have hR3 := (hb3.block w.heap.size (by simp; omega) (by omega)).trans HR.out
  have hC3 := (hb3.block W1.heap.size (by simp) (fun e => hDW.out e.symm)).trans HC.out
  have r0 : W3.cell? ⟨w.heap.size, 0, none⟩ = some (.int .i32 0) := by rw [Lib.cell_of_heap hR3]; rfl
  have r1 : W3.cell? ⟨w.heap.size, 1, none⟩ = some (.int .i64 0) := by rw [Lib.cell_of_heap hR3]; rfl
  have r2 : W3.cell? ⟨w.heap.size, 2, none⟩ = some (.int .i64 0) := by rw [Lib.cell_of_heap hR3]; rfl
  have r3 : W3.cell? ⟨w.heap.size, 3, none⟩ = some (.int .i64 0) := by rw [Lib.cell_of_heap hR3]; rfl
  have r4 : W3.cell? ⟨w.heap.size, 4, none⟩ = some (.int .i64 0) := by rw [Lib.cell_of_heap hR3]; rfl
  have r5 : W3.cell? ⟨w.heap.size, 5, none⟩ = some (.int .i64 0) := by rw [Lib.cell_of_heap hR3]; rfl
  have rz0 : W3.frozen? ⟨w.heap.size, 0, none⟩ = false := Lib.frozen_of_heap hR3 0
  have rz1 : W3.frozen? ⟨w.heap.size, 1, none⟩ = false := Lib.frozen_of_heap hR3 1
  have rz2 : W3.frozen? ⟨w.heap.size, 2, none⟩ = false := Lib.frozen_of_heap hR3 2
  have rz3 : W3.frozen? ⟨w.heap.size, 3, none⟩ = false := Lib.frozen_of_heap hR3 3
  have rz4 : W3.frozen? ⟨w.heap.size, 4, none⟩ = false := Lib.frozen_of_heap hR3 4
  have rz5 : W3.frozen? ⟨w.heap.size, 5, none⟩ = false := Lib.frozen_of_heap hR3 5
  have c0 : W3.cell? ⟨W1.heap.size, 0, none⟩ = some (.int .i32 10) := by rw [Lib.cell_of_heap hC3]; rfl
  have c1 : W3.cell? ⟨W1.heap.size, 1, none⟩ = some (.int .i64 y1) := by rw [Lib.cell_of_heap hC3]; rfl
  have c2 : W3.cell? ⟨W1.heap.size, 2, none⟩ = some (.int .i64 y2) := by rw [Lib.cell_of_heap hC3]; rfl
  have c3 : W3.cell? ⟨W1.heap.size, 3, none⟩ = some (.int .i64 y3) := by rw [Lib.cell_of_heap hC3]; rfl
  have c4 : W3.cell? ⟨W1.heap.size, 4, none⟩ = some (.int .i64 y4) := by rw [Lib.cell_of_heap hC3]; rfl
  have c5 : W3.cell? ⟨W1.heap.size, 5, none⟩ = some (.int .i64 z) := by rw [Lib.cell_of_heap hC3]; rfl
  have hB3 : But D w W3 := (But.of_below HB.out).trans hb3
  have HF3 := hide' hF3
  have HB3 := hide' hB3
  clear hF3 hB3 hb3 hR3 hC3 HF HB HC HR cT
  go_wp2
  refine bodyPost_ret (v := .tuple #[.agg #[.int .i32 10, .int .i64 y1, .int .i64 y2, .int .i64 y3, .int .i64 y4, .int .i64 z], .int .i64 0]) (by simp [results, Tryd.results26, go_sem, r0, r1, r2, r3, r4, r5]) rfl ⟨rfl, ?_, ?_⟩
  · refine HF3.out.belowAt (X := w.heap.size) ?_ hlt hrow.out
    (repeat refine Below.setCell ?_ (by simp) _)
    exact Below.refl _ _
  · refine HB3.out.then ?_
    (repeat refine Below.setCell ?_ (by simp) _)
    exact Below.refl _ _

set_option maxHeartbeats 1000000 in
theorem next_ch (h : FeedAt w D B v g n k wh pb pr pl pc bad ended) (r z : Nat) (y1 y2 y3 y4 : Nat) (hr : r ≠ 10) (h0 : k + z < 9223372036854775808) (h1 : pb + z < 9223372036854775808) (h2 : pr + 1 < 9223372036854775808) (h3 : pc + 1 < 9223372036854775808)
    (cP : ∀ W, Below w.heap.size w W → Calls Tryd.prog 33 #[.pointer (some ⟨D, 0, none⟩)] W fun e W' => e = .returned (.tuple #[.agg #[.int .i32 r, .int .i64 y1, .int .i64 y2, .int .i64 y3, .int .i64 y4, .int .i64 z], .int .i64 0]) ∧ Below W.heap.size W W') :
    Calls Tryd.prog 26 #[.pointer (some ⟨D, 0, none⟩)] w fun e w' => e = .returned (.tuple #[.agg #[.int .i32 r, .int .i64 y1, .int .i64 y2, .int .i64 y3, .int .i64 y4, .int .i64 z], .int .i64 0]) ∧ FeedAt w' D B v g n (k + z) wh (pb + z) (pr + 1) pl (pc + 1) bad ended ∧ But D w w' := by
  have hlt := h.lt
  have hrow : Hid (∀ q, v.ownBlock = some q → q < w.heap.size) := fun q hq => (h.2.lt q hq).2
  have H := hide' h
  clear h
  have hW : Below w.heap.size w (w.alloc (.cells #[.int .i32 0, .int .i64 0, .int .i64 0, .int .i64 0, .int .i64 0, .int .i64 0] 45)) := (Below.refl _ _).alloc (Nat.le_refl _) _
  have hN := cP _ hW
  clear cP
  go_enter Tryd.func26, Tryd.ntmps26
  go_wp2_with fail
  refine hN.mono ?_
  rintro e W1 ⟨rfl, hb1⟩
  have hB1 : Below w.heap.size w W1 := hW.trans (hb1.mono hW.size)
  have hR1 : W1.heap[w.heap.size]? = some (.cells #[.int .i32 0, .int .i64 0, .int .i64 0, .int .i64 0, .int .i64 0, .int .i64 0] 45 (0, 0)) := (hb1.block w.heap.size (by simp)).trans (by show (w.heap.push _)[w.heap.size]? = _; simp)
  have hs1 : w.heap.size < W1.heap.size := Nat.lt_of_lt_of_le (by simp) hb1.size
  have hne : ¬ w.heap.size = D := by omega
  have hne2 : ¬ W1.heap.size = w.heap.size := by omega
  clear hN hb1 hW
  have hF2 : FeedAt (W1.alloc (.cells #[.int .i32 r, .int .i64 y1, .int .i64 y2, .int .i64 y3, .int .i64 y4, .int .i64 z] 45)) D B v g n k wh pb pr pl pc bad ended := (H.out.below hB1).below ((Below.refl _ _).alloc (Nat.le_refl _) _)
  have hB2 : Below w.heap.size w (W1.alloc (.cells #[.int .i32 r, .int .i64 y1, .int .i64 y2, .int .i64 y3, .int .i64 y4, .int .i64 z] 45)) := hB1.alloc hB1.size _
  have hR2 : (W1.alloc (.cells #[.int .i32 r, .int .i64 y1, .int .i64 y2, .int .i64 y3, .int .i64 y4, .int .i64 z] 45)).heap[w.heap.size]? = some (.cells #[.int .i32 0, .int .i64 0, .int .i64 0, .int .i64 0, .int .i64 0, .int .i64 0] 45 (0, 0)) := (Below.heap_alloc _ _ _ hs1).trans hR1
  have cT := feedTake_ch hF2 r z y1 y2 y3 y4 hr h0 h1 h2 h3
  have hC2 : (W1.alloc (.cells #[.int .i32 r, .int .i64 y1, .int .i64 y2, .int .i64 y3, .int .i64 y4, .int .i64 z] 45)).heap[W1.heap.size]? = some (.cells #[.int .i32 r, .int .i64 y1, .int .i64 y2, .int .i64 y3, .int .i64 y4, .int .i64 z] 45 (0, 0)) := by show (W1.heap.push _)[W1.heap.size]? = _; simp
  have HF := hide' hF2
  have HB := hide' hB2
  have HC := hide' hC2
  have HR := hide' hR2
  have hDW : Hid (D ≠ W1.heap.size) := by show D ≠ W1.heap.size; omega
  clear hF2 hB2 hC2 hR2 hB1 hR1 H
  go_wp2_with fail
  refine cT.mono ?_
  rintro e W3 ⟨rfl, hF3, hb3⟩
  have hR3 := (hb3.block w.heap.size (by simp; omega) (by omega)).trans HR.out
  have hC3 := (hb3.block W1.heap.size (by simp) (fun e => hDW.out e.symm)).trans HC.out
  have r0 : W3.cell? ⟨w.heap.size, 0, none⟩ = some (.int .i32 0) := by rw [Lib.cell_of_heap hR3]; rfl
  have r1 : W3.cell? ⟨w.heap.size, 1, none⟩ = some (.int .i64 0) := by rw [Lib.cell_of_heap hR3]; rfl
  have r2 : W3.cell? ⟨w.heap.size, 2, none⟩ = some (.int .i64 0) := by rw [Lib.cell_of_heap hR3]; rfl
  have r3 : W3.cell? ⟨w.heap.size, 3, none⟩ = some (.int .i64 0) := by rw [Lib.cell_of_heap hR3]; rfl
  have r4 : W3.cell? ⟨w.heap.size, 4, none⟩ = some (.int .i64 0) := by rw [Lib.cell_of_heap hR3]; rfl
  have r5 : W3.cell? ⟨w.heap.size, 5, none⟩ = some (.int .i64 0) := by rw [Lib.cell_of_heap hR3]; rfl
  have rz0 : W3.frozen? ⟨w.heap.size, 0, none⟩ = false := Lib.frozen_of_heap hR3 0
  have rz1 : W3.frozen? ⟨w.heap.size, 1, none⟩ = false := Lib.frozen_of_heap hR3 1
  have rz2 : W3.frozen? ⟨w.heap.size, 2, none⟩ = false := Lib.frozen_of_heap hR3 2
  have rz3 : W3.frozen? ⟨w.heap.size, 3, none⟩ = false := Lib.frozen_of_heap hR3 3
  have rz4 : W3.frozen? ⟨w.heap.size, 4, none⟩ = false := Lib.frozen_of_heap hR3 4
  have rz5 : W3.frozen? ⟨w.heap.size, 5, none⟩ = false := Lib.frozen_of_heap hR3 5
  have c0 : W3.cell? ⟨W1.heap.size, 0, none⟩ = some (.int .i32 r) := by rw [Lib.cell_of_heap hC3]; rfl
  have c1 : W3.cell? ⟨W1.heap.size, 1, none⟩ = some (.int .i64 y1) := by rw [Lib.cell_of_heap hC3]; rfl
  have c2 : W3.cell? ⟨W1.heap.size, 2, none⟩ = some (.int .i64 y2) := by rw [Lib.cell_of_heap hC3]; rfl
  have c3 : W3.cell? ⟨W1.heap.size, 3, none⟩ = some (.int .i64 y3) := by rw [Lib.cell_of_heap hC3]; rfl
  have c4 : W3.cell? ⟨W1.heap.size, 4, none⟩ = some (.int .i64 y4) := by rw [Lib.cell_of_heap hC3]; rfl
  have c5 : W3.cell? ⟨W1.heap.size, 5, none⟩ = some (.int .i64 z) := by rw [Lib.cell_of_heap hC3]; rfl
  have hB3 : But D w W3 := (But.of_below HB.out).trans hb3
  have HF3 := hide' hF3
  have HB3 := hide' hB3
  clear hF3 hB3 hb3 hR3 hC3 HF HB HC HR cT
  go_wp2
  refine bodyPost_ret (v := .tuple #[.agg #[.int .i32 r, .int .i64 y1, .int .i64 y2, .int .i64 y3, .int .i64 y4, .int .i64 z], .int .i64 0]) (by simp [results, Tryd.results26, go_sem, r0, r1, r2, r3, r4, r5]) rfl ⟨rfl, ?_, ?_⟩
  · refine HF3.out.belowAt (X := w.heap.size) ?_ hlt hrow.out
    (repeat refine Below.setCell ?_ (by simp) _)
    exact Below.refl _ _
  · refine HB3.out.then ?_
    (repeat refine Below.setCell ?_ (by simp) _)
    exact Below.refl _ _

set_option maxHeartbeats 1000000 in
theorem next_no (h : FeedAt w D B v g n k wh pb pr pl pc bad ended) (r z m : Nat) (y1 y2 y3 y4 : Nat) (hm : m ≠ 0)
    (cP : ∀ W, Below w.heap.size w W → Calls Tryd.prog 33 #[.pointer (some ⟨D, 0, none⟩)] W fun e W' => e = .returned (.tuple #[.agg #[.int .i32 r, .int .i64 y1, .int .i64 y2, .int .i64 y3, .int .i64 y4, .int .i64 z], .int .i64 m]) ∧ Below W.heap.size W W') :
    Calls Tryd.prog 26 #[.pointer (some ⟨D, 0, none⟩)] w fun e w' => e = .returned (.tuple #[.agg #[.int .i32 r, .int .i64 y1, .int .i64 y2, .int .i64 y3, .int .i64 y4, .int .i64 z], .int .i64 m]) ∧ FeedAt w' D B v g n k wh pb pr pl pc bad ended ∧ But D w w' := by
  have hm' : ((m : Int) == 0) = false := by simp; omega
  clear hm
  have hlt := h.lt
  have hrow : Hid (∀ q, v.ownBlock = some q → q < w.heap.size) := fun q hq => (h.2.lt q hq).2
  have H := hide' h
  clear h
  have hW : Below w.heap.size w (w.alloc (.cells #[.int .i32 0, .int .i64 0, .int .i64 0, .int .i64 0, .int .i64 0, .int .i64 0] 45)) := (Below.refl _ _).alloc (Nat.le_refl _) _
  have hN := cP _ hW
  clear cP
  go_enter Tryd.func26, Tryd.ntmps26
  go_wp2_with fail
  refine hN.mono ?_
  rintro e W1 ⟨rfl, hb1⟩
  have hB1 : Below w.heap.size w W1 := hW.trans (hb1.mono hW.size)
  have hR1 : W1.heap[w.heap.size]? = some (.cells #[.int .i32 0, .int .i64 0, .int .i64 0, .int .i64 0, .int .i64 0, .int .i64 0] 45 (0, 0)) := (hb1.block w.heap.size (by simp)).trans (by show (w.heap.push _)[w.heap.size]? = _; simp)
  have hs1 : w.heap.size < W1.heap.size := Nat.lt_of_lt_of_le (by simp) hb1.size
  have hne : ¬ w.heap.size = D := by omega
  have hne2 : ¬ W1.heap.size = w.heap.size := by omega
  clear hN hb1 hW
  have hF2 : FeedAt (W1.alloc (.cells #[.int .i32 r, .int .i64 y1, .int .i64 y2, .int .i64 y3, .int .i64 y4, .int .i64 z] 45)) D B v g n k wh pb pr pl pc bad ended := (H.out.below hB1).below ((Below.refl _ _).alloc (Nat.le_refl _) _)
  have hB2 : Below w.heap.size w (W1.alloc (.cells #[.int .i32 r, .int .i64 y1, .int .i64 y2, .int .i64 y3, .int .i64 y4, .int .i64 z] 45)) := hB1.alloc hB1.size _
  have hR2 : (W1.alloc (.cells #[.int .i32 r, .int .i64 y1, .int .i64 y2, .int .i64 y3, .int .i64 y4, .int .i64 z] 45)).heap[w.heap.size]? = some (.cells #[.int .i32 0, .int .i64 0, .int .i64 0, .int .i64 0, .int .i64 0, .int .i64 0] 45 (0, 0)) := (Below.heap_alloc _ _ _ hs1).trans hR1
  have HF3 := hide' (H.out.below hB1)
  have HB3 : Hid (But D w _) := But.of_below hB1
  have r0 : W1.cell? ⟨w.heap.size, 0, none⟩ = some (.int .i32 0) := by rw [Lib.cell_of_heap hR1]; rfl
  have r1 : W1.cell? ⟨w.heap.size, 1, none⟩ = some (.int .i64 0) := by rw [Lib.cell_of_heap hR1]; rfl
  have r2 : W1.cell? ⟨w.heap.size, 2, none⟩ = some (.int .i64 0) := by rw [Lib.cell_of_heap hR1]; rfl
  have r3 : W1.cell? ⟨w.heap.size, 3, none⟩ = some (.int .i64 0) := by rw [Lib.cell_of_heap hR1]; rfl
  have r4 : W1.cell? ⟨w.heap.size, 4, none⟩ = some (.int .i64 0) := by rw [Lib.cell_of_heap hR1]; rfl
  have r5 : W1.cell? ⟨w.heap.size, 5, none⟩ = some (.int .i64 0) := by rw [Lib.cell_of_heap hR1]; rfl
  have rz0 : W1.frozen? ⟨w.heap.size, 0, none⟩ = false := Lib.frozen_of_heap hR1 0
  have rz1 : W1.frozen? ⟨w.heap.size, 1, none⟩ = false := Lib.frozen_of_heap hR1 1
  have rz2 : W1.frozen? ⟨w.heap.size, 2, none⟩ = false := Lib.frozen_of_heap hR1 2
  have rz3 : W1.frozen? ⟨w.heap.size, 3, none⟩ = false := Lib.frozen_of_heap hR1 3
  have rz4 : W1.frozen? ⟨w.heap.size, 4, none⟩ = false := Lib.frozen_of_heap hR1 4
  have rz5 : W1.frozen? ⟨w.heap.size, 5, none⟩ = false := Lib.frozen_of_heap hR1 5
  clear hF2 hB2 hR2 hB1 hR1 H
  go_wp2
  refine bodyPost_ret (v := .tuple #[.agg #[.int .i32 r, .int .i64 y1, .int .i64 y2, .int .i64 y3, .int .i64 y4, .int .i64 z], .int .i64 m]) (by simp [results, Tryd.results26, go_sem, World.cell?_alloc_lt, hs1, r0, r1, r2, r3, r4, r5]) rfl ⟨rfl, ?_, ?_⟩
  · refine HF3.out.belowAt (X := w.heap.size) ?_ hlt hrow.out
    refine Below.alloc ?_ (by simp; omega) _
    (repeat refine Below.setCell ?_ (by simp) _)
    exact Below.refl _ _
  · refine HB3.out.then ?_
    refine Below.alloc ?_ (by simp; omega) _
    (repeat refine Below.setCell ?_ (by simp) _)
    exact Below.refl _ _
end
end Go.Proofs.YtcggkbgbfgkaiaaDoor
