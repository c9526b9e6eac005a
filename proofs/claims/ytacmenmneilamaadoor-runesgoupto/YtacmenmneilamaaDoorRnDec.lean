/-
  WALKS over runes.New, (*Decoder).Take and (*Decoder).Pending.
-/
import Derived.Test.YtacmenmneilamaaDoorRnGood
import Derived.Lib.SmallJoins
namespace Go.Proofs.YtacmenmneilamaaDoor
open Go.RowKit Go.Lib

set_option maxHeartbeats 400000 in
theorem new_any (w : World) :
    Calls Tryd.prog 28 #[] w fun e w' => e = .returned (.pointer (some ⟨w.heap.size, 0, none⟩)) ∧ w' = w.alloc (.cells #[.int .u8 0, .int .u8 0, .int .u8 0, .int .u8 0, .int .i64 0, .bool false] 92) := by
  go_enter Tryd.func28, Tryd.ntmps28
  go_wp2
  go_ret
  exact ⟨rfl, rfl⟩

set_option maxHeartbeats 400000 in
theorem take_nil (x : Int) (w : World) :
    Calls Tryd.prog 30 #[.pointer none, .int .u8 x] w fun e w' => e = .returned (.tuple #[.int .i32 0, .int .i64 0]) ∧ w' = w := by
  go_enter Tryd.func30, Tryd.ntmps30
  go_wp2
  go_ret2
  exact ⟨rfl, rfl⟩
set_option maxHeartbeats 400000 in
theorem pending_nil (w : World) :
    Calls Tryd.prog 31 #[.pointer none] w fun e w' => e = .returned (.int .i64 0) ∧ w' = w := by
  go_enter Tryd.func31, Tryd.ntmps31
  go_wp2
  go_ret
  exact ⟨rfl, rfl⟩

namespace Rn
def upd (x : Nat → Nat) (n v : Nat) : Nat → Nat := fun j => if j = n then v else x j
theorem upd_lt {x : Nat → Nat} {n v : Nat} (hx : ∀ j, x j < 256) (hv : v < 256) : ∀ j, upd x n v j < 256 := by
  intro j
  unfold upd
  split
  · exact hv
  · exact hx j
end Rn

/-- a Decoder's block: what was taken (four places, n of them), was there a Bad -/
def DecAt (w : World) (D : Nat) (x : Nat → Nat) (n : Nat) (bad : Bool) : Prop :=
  w.heap[D]? = some (.cells #[.int .u8 (x 0), .int .u8 (x 1), .int .u8 (x 2), .int .u8 (x 3), .int .i64 n, .bool bad] 92 (0, 0))
theorem DecAt.below {w w' : World} {B D n : Nat} {x : Nat → Nat} {bad : Bool} (h : DecAt w D x n bad) (hb : Below B w w') (hB : D < B) : DecAt w' D x n bad :=
  (hb.block D hB).trans h

set_option maxHeartbeats 400000 in
theorem pending_any (D : Nat) (x : Nat → Nat) (n : Nat) (bad : Bool) (w : World) (h : DecAt w D x n bad) :
    Calls Tryd.prog 31 #[.pointer (some ⟨D, 0, none⟩)] w fun e w' => e = .returned (.int .i64 n) ∧ w' = w := by
  have c4 : w.cell? ⟨D, 4, none⟩ = some (.int .i64 n) := by rw [Lib.cell_of_heap h]; rfl
  go_enter Tryd.func31, Tryd.ntmps31
  go_wp2
  go_ret
  exact ⟨rfl, rfl⟩

set_option maxHeartbeats 1000000 in
theorem take_bad (D : Nat) (x : Nat → Nat) (n : Nat) (v : Int) (w : World) (h : DecAt w D x n true) :
    Calls Tryd.prog 30 #[.pointer (some ⟨D, 0, none⟩), .int .u8 v] w fun e w' => e = .returned (.tuple #[.int .i32 0, .int .i64 2]) ∧ w' = w := by
  have c5 : w.cell? ⟨D, 5, none⟩ = some (.bool true) := by rw [Lib.cell_of_heap h]; rfl
  go_enter Tryd.func30, Tryd.ntmps30
  go_wp2
  go_ret2
  exact ⟨rfl, rfl⟩

structure But (D : Nat) (w w' : World) : Prop where
  os : w'.os = w.os
  tape : w'.tape = w.tape
  output : w'.output = w.output
  size : w.heap.size ≤ w'.heap.size
  block : ∀ k, k < w.heap.size → k ≠ D → w'.heap[k]? = w.heap[k]?
theorem But.of_below {D : Nat} {w w' : World} (h : Below w.heap.size w w') : But D w w' :=
  ⟨h.os, h.tape, h.output, h.size, fun k hk _ => h.block k hk⟩
theorem But.of_alloc {D : Nat} {w w' : World} {o : Obj} (h : Below (w.alloc o).heap.size (w.alloc o) w') : But D w w' :=
  But.of_below (((Below.refl w.heap.size w).alloc (Nat.le_refl _) o).trans (h.mono (by simp)))
theorem But.trans {D : Nat} {a b c : World} (h : But D a b) (k : But D b c) : But D a c :=
  ⟨k.os.trans h.os, k.tape.trans h.tape, k.output.trans h.output, Nat.le_trans h.size k.size, fun i hi hn => (k.block i (Nat.lt_of_lt_of_le hi h.size) hn).trans (h.block i hi hn)⟩
theorem But.setCell {D : Nat} {w w' : World} {p : Addr} (h : But D w w') (hp : p.block = D) (v : Value) : But D w (w'.setCell p v) := by
  have hb := (Below.refl 0 w').setCell (p := p) (Nat.zero_le _) v
  exact ⟨hb.os.trans h.os, hb.tape.trans h.tape, hb.output.trans h.output, Nat.le_trans h.size hb.size, fun k hk hn => (Below.heap_setCell w' p v k (by rw [hp]; exact hn)).trans (h.block k hk hn)⟩
theorem But.below {D B : Nat} {w w' : World} (h : But D w w') (hB : B ≤ D) (hw : B ≤ w.heap.size) : Below B w w' :=
  ⟨h.os, h.tape, h.output, h.size, fun k hk => h.block k (by omega) (by omega)⟩

theorem DecAt.set5 {w : World} {D n : Nat} {x : Nat → Nat} {bad : Bool} (h : DecAt w D x n bad) (bad' : Bool) : DecAt (w.setCell ⟨D, 5, none⟩ (.bool bad')) D x n bad' := by
  have := Go.Joins.block_setCell (i := 5) h (.bool bad')
  exact this
theorem DecAt.set {w : World} {D n : Nat} {x : Nat → Nat} {bad : Bool} (h : DecAt w D x n bad) (y0 y1 y2 y3 : Nat) (m : Int) :
    (((((w.setCell ⟨D, 0, none⟩ (.int .u8 y0)).setCell ⟨D, 1, none⟩ (.int .u8 y1)).setCell ⟨D, 2, none⟩ (.int .u8 y2)).setCell ⟨D, 3, none⟩ (.int .u8 y3)).setCell ⟨D, 4, none⟩ (.int .i64 m)).heap[D]? =
      some (.cells #[.int .u8 y0, .int .u8 y1, .int .u8 y2, .int .u8 y3, .int .i64 m, .bool bad] 92 (0, 0)) :=
  Go.Joins.block_setCell (i := 4) (Go.Joins.block_setCell (i := 3) (Go.Joins.block_setCell (i := 2) (Go.Joins.block_setCell (i := 1) (Go.Joins.block_setCell (i := 0) h _) _) _) _) _
theorem But.set {D : Nat} {w w' : World} (h : But D w w') (v0 v1 v2 v3 v4 : Value) :
    But D w (((((w'.setCell ⟨D, 0, none⟩ v0).setCell ⟨D, 1, none⟩ v1).setCell ⟨D, 2, none⟩ v2).setCell ⟨D, 3, none⟩ v3).setCell ⟨D, 4, none⟩ v4) :=
  ((((h.setCell (p := ⟨D, 0, none⟩) rfl _).setCell (p := ⟨D, 1, none⟩) rfl _).setCell (p := ⟨D, 2, none⟩) rfl _).setCell (p := ⟨D, 3, none⟩) rfl _).setCell (p := ⟨D, 4, none⟩) rfl _

/-- how Take ends: a character; one byte more of one; none -/
inductive TakeEnd (D : Nat) (x : Nat → Nat) (n v : Nat) (w : World) (e : Ending) (w' : World) : Prop
  | whole (h : Rn.whole (Rn.upd x n v) (n + 1) = true) (he : e = .returned (.tuple #[.int .i32 (Rn.fv (Rn.upd x n v)), .int .i64 0])) (hd : DecAt w' D (fun _ => 0) 0 false) (hb : But D w w')
  | waits (h : Rn.waits (Rn.upd x n v) (n + 1) = true) (he : e = .returned (.tuple #[.int .i32 0, .int .i64 1])) (hd : DecAt w' D (Rn.upd x n v) (n + 1) false) (hb : But D w w')
  | bad (h : Rn.whole (Rn.upd x n v) (n + 1) = false) (h2 : Rn.waits (Rn.upd x n v) (n + 1) = false) (he : e = .returned (.tuple #[.int .i32 0, .int .i64 2])) (hd : DecAt w' D x n true) (hb : But D w w')

set_option maxHeartbeats 2000000 in
theorem take_0 (D : Nat) (x : Nat → Nat) (v : Nat) (w : World) (hv : v < 256) (hx : ∀ j, x j < 256) (hT : Lib.Utf8Tabs 0 1 w) (h : DecAt w D x 0 false) :
    Calls Tryd.prog 30 #[.pointer (some ⟨D, 0, none⟩), .int .u8 v] w fun e w' => TakeEnd D x 0 v w e w' := by
  have c0 : w.cell? ⟨D, 0, none⟩ = some (.int .u8 (x 0)) := by rw [Lib.cell_of_heap h]; rfl
  have c1 : w.cell? ⟨D, 1, none⟩ = some (.int .u8 (x 1)) := by rw [Lib.cell_of_heap h]; rfl
  have c2 : w.cell? ⟨D, 2, none⟩ = some (.int .u8 (x 2)) := by rw [Lib.cell_of_heap h]; rfl
  have c3 : w.cell? ⟨D, 3, none⟩ = some (.int .u8 (x 3)) := by rw [Lib.cell_of_heap h]; rfl
  have c4 : w.cell? ⟨D, 4, none⟩ = some (.int .i64 0) := by rw [Lib.cell_of_heap h]; rfl
  have c5 : w.cell? ⟨D, 5, none⟩ = some (.bool false) := by rw [Lib.cell_of_heap h]; rfl
  have hD := block_lt_of_cell c0
  have cN := next_first (Rn.upd x 0 v) 1 w.heap.size 0 4 (w.alloc (.cells #[.int .u8 v, .int .u8 (x 1), .int .u8 (x 2), .int .u8 (x 3)] 90)) (tabs_below hT ((Below.refl w.heap.size w).alloc (Nat.le_refl _) _) (Nat.le_refl _)) (Rn.upd_lt hx hv) (by omega) (by omega) (by decide) (by
    intro j hj
    have : j = 0 ∨ j = 1 ∨ j = 2 ∨ j = 3 := by omega
    rcases this with rfl | rfl | rfl | rfl <;> simp [Rn.upd])
  cases hwh : Rn.whole (Rn.upd x 0 v) 1
  · cases hwa : Rn.waits (Rn.upd x 0 v) 1
    · rw [Rn.nx_bad (by omega) hwa hwh] at cN
      have HW := hide' hwh
      have HA := hide' hwa
      clear hwh hwa
      go_enter Tryd.func30, Tryd.ntmps30
      go_wp2_with fail
      refine cN.mono ?_
      rintro e w1 ⟨rfl, hb1⟩
      clear cN
      have hh : w1.heap[D]? = w.heap[D]? := by
        rw [hb1.block D (by simp; omega)]
        exact Below.heap_alloc _ _ _ hD
      have h' : DecAt w1 D x 0 false := by unfold DecAt; rw [hh]; exact h
      have hsz : w.heap.size < w1.heap.size := by have := hb1.size; simp at this; omega
      have hbu : But D w w1 := But.of_alloc hb1
      have d0 : w1.cell? ⟨D, 0, none⟩ = some (.int .u8 (x 0)) := by rw [Lib.cell_of_heap h']; rfl
      have d1 : w1.cell? ⟨D, 1, none⟩ = some (.int .u8 (x 1)) := by rw [Lib.cell_of_heap h']; rfl
      have d2 : w1.cell? ⟨D, 2, none⟩ = some (.int .u8 (x 2)) := by rw [Lib.cell_of_heap h']; rfl
      have d3 : w1.cell? ⟨D, 3, none⟩ = some (.int .u8 (x 3)) := by rw [Lib.cell_of_heap h']; rfl
      have d4 : w1.cell? ⟨D, 4, none⟩ = some (.int .i64 0) := by rw [Lib.cell_of_heap h']; rfl
      have d5 : w1.cell? ⟨D, 5, none⟩ = some (.bool false) := by rw [Lib.cell_of_heap h']; rfl
      have f0 : w1.frozen? ⟨D, 0, none⟩ = false := Lib.frozen_of_heap h' 0
      have f1 : w1.frozen? ⟨D, 1, none⟩ = false := Lib.frozen_of_heap h' 1
      have f2 : w1.frozen? ⟨D, 2, none⟩ = false := Lib.frozen_of_heap h' 2
      have f3 : w1.frozen? ⟨D, 3, none⟩ = false := Lib.frozen_of_heap h' 3
      have f4 : w1.frozen? ⟨D, 4, none⟩ = false := Lib.frozen_of_heap h' 4
      have f5 : w1.frozen? ⟨D, 5, none⟩ = false := Lib.frozen_of_heap h' 5
      have H' := hide' h'
      have HBu := hide' hbu
      clear h' hbu hh hT h hb1 c0 c1 c2 c3 c4 c5
      go_wp2
      go_ret2
      exact .bad HW.out HA.out rfl (H'.out.set5 _) (HBu.out.setCell (p := ⟨D, 5, none⟩) rfl _)
    · obtain ⟨e1, e2⟩ := Rn.nx_waits hwa
      rw [e1] at cN
      have HA := hide' hwa
      clear hwh hwa e1 e2
      go_enter Tryd.func30, Tryd.ntmps30
      go_wp2_with fail
      refine cN.mono ?_
      rintro e w1 ⟨rfl, hb1⟩
      have p0 : w1.cell? ⟨w.heap.size, 0, none⟩ = some (.int .u8 v) := (hb1.cell (p := ⟨w.heap.size, 0, none⟩) (by simp)).trans (by simp)
      have p1 : w1.cell? ⟨w.heap.size, 1, none⟩ = some (.int .u8 (x 1)) := (hb1.cell (p := ⟨w.heap.size, 1, none⟩) (by simp)).trans (by simp)
      have p2 : w1.cell? ⟨w.heap.size, 2, none⟩ = some (.int .u8 (x 2)) := (hb1.cell (p := ⟨w.heap.size, 2, none⟩) (by simp)).trans (by simp)
      have p3 : w1.cell? ⟨w.heap.size, 3, none⟩ = some (.int .u8 (x 3)) := (hb1.cell (p := ⟨w.heap.size, 3, none⟩) (by simp)).trans (by simp)
      clear cN
      have hh : w1.heap[D]? = w.heap[D]? := by
        rw [hb1.block D (by simp; omega)]
        exact Below.heap_alloc _ _ _ hD
      have h' : DecAt w1 D x 0 false := by unfold DecAt; rw [hh]; exact h
      have hsz : w.heap.size < w1.heap.size := by have := hb1.size; simp at this; omega
      have hbu : But D w w1 := But.of_alloc hb1
      have d0 : w1.cell? ⟨D, 0, none⟩ = some (.int .u8 (x 0)) := by rw [Lib.cell_of_heap h']; rfl
      have d1 : w1.cell? ⟨D, 1, none⟩ = some (.int .u8 (x 1)) := by rw [Lib.cell_of_heap h']; rfl
      have d2 : w1.cell? ⟨D, 2, none⟩ = some (.int .u8 (x 2)) := by rw [Lib.cell_of_heap h']; rfl
      have d3 : w1.cell? ⟨D, 3, none⟩ = some (.int .u8 (x 3)) := by rw [Lib.cell_of_heap h']; rfl
      have d4 : w1.cell? ⟨D, 4, none⟩ = some (.int .i64 0) := by rw [Lib.cell_of_heap h']; rfl
      have d5 : w1.cell? ⟨D, 5, none⟩ = some (.bool false) := by rw [Lib.cell_of_heap h']; rfl
      have f0 : w1.frozen? ⟨D, 0, none⟩ = false := Lib.frozen_of_heap h' 0
      have f1 : w1.frozen? ⟨D, 1, none⟩ = false := Lib.frozen_of_heap h' 1
      have f2 : w1.frozen? ⟨D, 2, none⟩ = false := Lib.frozen_of_heap h' 2
      have f3 : w1.frozen? ⟨D, 3, none⟩ = false := Lib.frozen_of_heap h' 3
      have f4 : w1.frozen? ⟨D, 4, none⟩ = false := Lib.frozen_of_heap h' 4
      have f5 : w1.frozen? ⟨D, 5, none⟩ = false := Lib.frozen_of_heap h' 5
      have H' := hide' h'
      have HBu := hide' hbu
      clear h' hbu hh hT h hb1 c0 c1 c2 c3 c4 c5
      go_wp2
      go_ret2
      exact .waits HA.out rfl (H'.out.set v (x 1) (x 2) (x 3) 1) (HBu.out.set _ _ _ _ _)
  · rw [Rn.nx_whole hwh] at cN
    have HW := hide' hwh
    clear hwh
    go_enter Tryd.func30, Tryd.ntmps30
    go_wp2_with fail
    refine cN.mono ?_
    rintro e w1 ⟨rfl, hb1⟩
    clear cN
    have hh : w1.heap[D]? = w.heap[D]? := by
      rw [hb1.block D (by simp; omega)]
      exact Below.heap_alloc _ _ _ hD
    have h' : DecAt w1 D x 0 false := by unfold DecAt; rw [hh]; exact h
    have hsz : w.heap.size < w1.heap.size := by have := hb1.size; simp at this; omega
    have hbu : But D w w1 := But.of_alloc hb1
    have d0 : w1.cell? ⟨D, 0, none⟩ = some (.int .u8 (x 0)) := by rw [Lib.cell_of_heap h']; rfl
    have d1 : w1.cell? ⟨D, 1, none⟩ = some (.int .u8 (x 1)) := by rw [Lib.cell_of_heap h']; rfl
    have d2 : w1.cell? ⟨D, 2, none⟩ = some (.int .u8 (x 2)) := by rw [Lib.cell_of_heap h']; rfl
    have d3 : w1.cell? ⟨D, 3, none⟩ = some (.int .u8 (x 3)) := by rw [Lib.cell_of_heap h']; rfl
    have d4 : w1.cell? ⟨D, 4, none⟩ = some (.int .i64 0) := by rw [Lib.cell_of_heap h']; rfl
    have d5 : w1.cell? ⟨D, 5, none⟩ = some (.bool false) := by rw [Lib.cell_of_heap h']; rfl
    have f0 : w1.frozen? ⟨D, 0, none⟩ = false := Lib.frozen_of_heap h' 0
    have f1 : w1.frozen? ⟨D, 1, none⟩ = false := Lib.frozen_of_heap h' 1
    have f2 : w1.frozen? ⟨D, 2, none⟩ = false := Lib.frozen_of_heap h' 2
    have f3 : w1.frozen? ⟨D, 3, none⟩ = false := Lib.frozen_of_heap h' 3
    have f4 : w1.frozen? ⟨D, 4, none⟩ = false := Lib.frozen_of_heap h' 4
    have f5 : w1.frozen? ⟨D, 5, none⟩ = false := Lib.frozen_of_heap h' 5
    have H' := hide' h'
    have HBu := hide' hbu
    clear h' hbu hh hT h hb1 c0 c1 c2 c3 c4 c5
    go_wp2
    go_ret2
    exact .whole HW.out rfl (DecAt.set5 (x := fun _ => 0) (n := 0) (bad := false) (DecAt.set (x := x) H'.out 0 0 0 0 0) false) ((HBu.out.set _ _ _ _ _).setCell (p := ⟨D, 5, none⟩) rfl _)

set_option maxHeartbeats 2000000 in
theorem take_1 (D : Nat) (x : Nat → Nat) (v : Nat) (w : World) (hv : v < 256) (hx : ∀ j, x j < 256) (hT : Lib.Utf8Tabs 0 1 w) (h : DecAt w D x 1 false) :
    Calls Tryd.prog 30 #[.pointer (some ⟨D, 0, none⟩), .int .u8 v] w fun e w' => TakeEnd D x 1 v w e w' := by
  have c0 : w.cell? ⟨D, 0, none⟩ = some (.int .u8 (x 0)) := by rw [Lib.cell_of_heap h]; rfl
  have c1 : w.cell? ⟨D, 1, none⟩ = some (.int .u8 (x 1)) := by rw [Lib.cell_of_heap h]; rfl
  have c2 : w.cell? ⟨D, 2, none⟩ = some (.int .u8 (x 2)) := by rw [Lib.cell_of_heap h]; rfl
  have c3 : w.cell? ⟨D, 3, none⟩ = some (.int .u8 (x 3)) := by rw [Lib.cell_of_heap h]; rfl
  have c4 : w.cell? ⟨D, 4, none⟩ = some (.int .i64 1) := by rw [Lib.cell_of_heap h]; rfl
  have c5 : w.cell? ⟨D, 5, none⟩ = some (.bool false) := by rw [Lib.cell_of_heap h]; rfl
  have hD := block_lt_of_cell c0
  have cN := next_first (Rn.upd x 1 v) 2 w.heap.size 0 4 (w.alloc (.cells #[.int .u8 (x 0), .int .u8 v, .int .u8 (x 2), .int .u8 (x 3)] 90)) (tabs_below hT ((Below.refl w.heap.size w).alloc (Nat.le_refl _) _) (Nat.le_refl _)) (Rn.upd_lt hx hv) (by omega) (by omega) (by decide) (by
    intro j hj
    have : j = 0 ∨ j = 1 ∨ j = 2 ∨ j = 3 := by omega
    rcases this with rfl | rfl | rfl | rfl <;> simp [Rn.upd])
  cases hwh : Rn.whole (Rn.upd x 1 v) 2
  · cases hwa : Rn.waits (Rn.upd x 1 v) 2
    · rw [Rn.nx_bad (by omega) hwa hwh] at cN
      have HW := hide' hwh
      have HA := hide' hwa
      clear hwh hwa
      go_enter Tryd.func30, Tryd.ntmps30
      go_wp2_with fail
      refine cN.mono ?_
      rintro e w1 ⟨rfl, hb1⟩
      clear cN
      have hh : w1.heap[D]? = w.heap[D]? := by
        rw [hb1.block D (by simp; omega)]
        exact Below.heap_alloc _ _ _ hD
      have h' : DecAt w1 D x 1 false := by unfold DecAt; rw [hh]; exact h
      have hsz : w.heap.size < w1.heap.size := by have := hb1.size; simp at this; omega
      have hbu : But D w w1 := But.of_alloc hb1
      have d0 : w1.cell? ⟨D, 0, none⟩ = some (.int .u8 (x 0)) := by rw [Lib.cell_of_heap h']; rfl
      have d1 : w1.cell? ⟨D, 1, none⟩ = some (.int .u8 (x 1)) := by rw [Lib.cell_of_heap h']; rfl
      have d2 : w1.cell? ⟨D, 2, none⟩ = some (.int .u8 (x 2)) := by rw [Lib.cell_of_heap h']; rfl
      have d3 : w1.cell? ⟨D, 3, none⟩ = some (.int .u8 (x 3)) := by rw [Lib.cell_of_heap h']; rfl
      have d4 : w1.cell? ⟨D, 4, none⟩ = some (.int .i64 1) := by rw [Lib.cell_of_heap h']; rfl
      have d5 : w1.cell? ⟨D, 5, none⟩ = some (.bool false) := by rw [Lib.cell_of_heap h']; rfl
      have f0 : w1.frozen? ⟨D, 0, none⟩ = false := Lib.frozen_of_heap h' 0
      have f1 : w1.frozen? ⟨D, 1, none⟩ = false := Lib.frozen_of_heap h' 1
      have f2 : w1.frozen? ⟨D, 2, none⟩ = false := Lib.frozen_of_heap h' 2
      have f3 : w1.frozen? ⟨D, 3, none⟩ = false := Lib.frozen_of_heap h' 3
      have f4 : w1.frozen? ⟨D, 4, none⟩ = false := Lib.frozen_of_heap h' 4
      have f5 : w1.frozen? ⟨D, 5, none⟩ = false := Lib.frozen_of_heap h' 5
      have H' := hide' h'
      have HBu := hide' hbu
      clear h' hbu hh hT h hb1 c0 c1 c2 c3 c4 c5
      go_wp2
      go_ret2
      exact .bad HW.out HA.out rfl (H'.out.set5 _) (HBu.out.setCell (p := ⟨D, 5, none⟩) rfl _)
    · obtain ⟨e1, e2⟩ := Rn.nx_waits hwa
      rw [e1] at cN
      have HA := hide' hwa
      clear hwh hwa e1 e2
      go_enter Tryd.func30, Tryd.ntmps30
      go_wp2_with fail
      refine cN.mono ?_
      rintro e w1 ⟨rfl, hb1⟩
      have p0 : w1.cell? ⟨w.heap.size, 0, none⟩ = some (.int .u8 (x 0)) := (hb1.cell (p := ⟨w.heap.size, 0, none⟩) (by simp)).trans (by simp)
      have p1 : w1.cell? ⟨w.heap.size, 1, none⟩ = some (.int .u8 v) := (hb1.cell (p := ⟨w.heap.size, 1, none⟩) (by simp)).trans (by simp)
      have p2 : w1.cell? ⟨w.heap.size, 2, none⟩ = some (.int .u8 (x 2)) := (hb1.cell (p := ⟨w.heap.size, 2, none⟩) (by simp)).trans (by simp)
      have p3 : w1.cell? ⟨w.heap.size, 3, none⟩ = some (.int .u8 (x 3)) := (hb1.cell (p := ⟨w.heap.size, 3, none⟩) (by simp)).trans (by simp)
      clear cN
      have hh : w1.heap[D]? = w.heap[D]? := by
        rw [hb1.block D (by simp; omega)]
        exact Below.heap_alloc _ _ _ hD
      have h' : DecAt w1 D x 1 false := by unfold DecAt; rw [hh]; exact h
      have hsz : w.heap.size < w1.heap.size := by have := hb1.size; simp at this; omega
      have hbu : But D w w1 := But.of_alloc hb1
      have d0 : w1.cell? ⟨D, 0, none⟩ = some (.int .u8 (x 0)) := by rw [Lib.cell_of_heap h']; rfl
      have d1 : w1.cell? ⟨D, 1, none⟩ = some (.int .u8 (x 1)) := by rw [Lib.cell_of_heap h']; rfl
      have d2 : w1.cell? ⟨D, 2, none⟩ = some (.int .u8 (x 2)) := by rw [Lib.cell_of_heap h']; rfl
      have d3 : w1.cell? ⟨D, 3, none⟩ = some (.int .u8 (x 3)) := by rw [Lib.cell_of_heap h']; rfl
      have d4 : w1.cell? ⟨D, 4, none⟩ = some (.int .i64 1) := by rw [Lib.cell_of_heap h']; rfl
      have d5 : w1.cell? ⟨D, 5, none⟩ = some (.bool false) := by rw [Lib.cell_of_heap h']; rfl
      have f0 : w1.frozen? ⟨D, 0, none⟩ = false := Lib.frozen_of_heap h' 0
      have f1 : w1.frozen? ⟨D, 1, none⟩ = false := Lib.frozen_of_heap h' 1
      have f2 : w1.frozen? ⟨D, 2, none⟩ = false := Lib.frozen_of_heap h' 2
      have f3 : w1.frozen? ⟨D, 3, none⟩ = false := Lib.frozen_of_heap h' 3
      have f4 : w1.frozen? ⟨D, 4, none⟩ = false := Lib.frozen_of_heap h' 4
      have f5 : w1.frozen? ⟨D, 5, none⟩ = false := Lib.frozen_of_heap h' 5
      have H' := hide' h'
      have HBu := hide' hbu
      clear h' hbu hh hT h hb1 c0 c1 c2 c3 c4 c5
      go_wp2
      go_ret2
      exact .waits HA.out rfl (H'.out.set (x 0) v (x 2) (x 3) 2) (HBu.out.set _ _ _ _ _)
  · rw [Rn.nx_whole hwh] at cN
    have HW := hide' hwh
    clear hwh
    go_enter Tryd.func30, Tryd.ntmps30
    go_wp2_with fail
    refine cN.mono ?_
    rintro e w1 ⟨rfl, hb1⟩
    clear cN
    have hh : w1.heap[D]? = w.heap[D]? := by
      rw [hb1.block D (by simp; omega)]
      exact Below.heap_alloc _ _ _ hD
    have h' : DecAt w1 D x 1 false := by unfold DecAt; rw [hh]; exact h
    have hsz : w.heap.size < w1.heap.size := by have := hb1.size; simp at this; omega
    have hbu : But D w w1 := But.of_alloc hb1
    have d0 : w1.cell? ⟨D, 0, none⟩ = some (.int .u8 (x 0)) := by rw [Lib.cell_of_heap h']; rfl
    have d1 : w1.cell? ⟨D, 1, none⟩ = some (.int .u8 (x 1)) := by rw [Lib.cell_of_heap h']; rfl
    have d2 : w1.cell? ⟨D, 2, none⟩ = some (.int .u8 (x 2)) := by rw [Lib.cell_of_heap h']; rfl
    have d3 : w1.cell? ⟨D, 3, none⟩ = some (.int .u8 (x 3)) := by rw [Lib.cell_of_heap h']; rfl
    have d4 : w1.cell? ⟨D, 4, none⟩ = some (.int .i64 1) := by rw [Lib.cell_of_heap h']; rfl
    have d5 : w1.cell? ⟨D, 5, none⟩ = some (.bool false) := by rw [Lib.cell_of_heap h']; rfl
    have f0 : w1.frozen? ⟨D, 0, none⟩ = false := Lib.frozen_of_heap h' 0
    have f1 : w1.frozen? ⟨D, 1, none⟩ = false := Lib.frozen_of_heap h' 1
    have f2 : w1.frozen? ⟨D, 2, none⟩ = false := Lib.frozen_of_heap h' 2
    have f3 : w1.frozen? ⟨D, 3, none⟩ = false := Lib.frozen_of_heap h' 3
    have f4 : w1.frozen? ⟨D, 4, none⟩ = false := Lib.frozen_of_heap h' 4
    have f5 : w1.frozen? ⟨D, 5, none⟩ = false := Lib.frozen_of_heap h' 5
    have H' := hide' h'
    have HBu := hide' hbu
    clear h' hbu hh hT h hb1 c0 c1 c2 c3 c4 c5
    go_wp2
    go_ret2
    exact .whole HW.out rfl (DecAt.set5 (x := fun _ => 0) (n := 0) (bad := false) (DecAt.set (x := x) H'.out 0 0 0 0 0) false) ((HBu.out.set _ _ _ _ _).setCell (p := ⟨D, 5, none⟩) rfl _)

set_option maxHeartbeats 2000000 in
theorem take_2 (D : Nat) (x : Nat → Nat) (v : Nat) (w : World) (hv : v < 256) (hx : ∀ j, x j < 256) (hT : Lib.Utf8Tabs 0 1 w) (h : DecAt w D x 2 false) :
    Calls Tryd.prog 30 #[.pointer (some ⟨D, 0, none⟩), .int .u8 v] w fun e w' => TakeEnd D x 2 v w e w' := by
  have c0 : w.cell? ⟨D, 0, none⟩ = some (.int .u8 (x 0)) := by rw [Lib.cell_of_heap h]; rfl
  have c1 : w.cell? ⟨D, 1, none⟩ = some (.int .u8 (x 1)) := by rw [Lib.cell_of_heap h]; rfl
  have c2 : w.cell? ⟨D, 2, none⟩ = some (.int .u8 (x 2)) := by rw [Lib.cell_of_heap h]; rfl
  have c3 : w.cell? ⟨D, 3, none⟩ = some (.int .u8 (x 3)) := by rw [Lib.cell_of_heap h]; rfl
  have c4 : w.cell? ⟨D, 4, none⟩ = some (.int .i64 2) := by rw [Lib.cell_of_heap h]; rfl
  have c5 : w.cell? ⟨D, 5, none⟩ = some (.bool false) := by rw [Lib.cell_of_heap h]; rfl
  have hD := block_lt_of_cell c0
  have cN := next_first (Rn.upd x 2 v) 3 w.heap.size 0 4 (w.alloc (.cells #[.int .u8 (x 0), .int .u8 (x 1), .int .u8 v, .int .u8 (x 3)] 90)) (tabs_below hT ((Below.refl w.heap.size w).alloc (Nat.le_refl _) _) (Nat.le_refl _)) (Rn.upd_lt hx hv) (by omega) (by omega) (by decide) (by
    intro j hj
    have : j = 0 ∨ j = 1 ∨ j = 2 ∨ j = 3 := by omega
    rcases this with rfl | rfl | rfl | rfl <;> simp [Rn.upd])
  cases hwh : Rn.whole (Rn.upd x 2 v) 3
  · cases hwa : Rn.waits (Rn.upd x 2 v) 3
    · rw [Rn.nx_bad (by omega) hwa hwh] at cN
      have HW := hide' hwh
      have HA := hide' hwa
      clear hwh hwa
      go_enter Tryd.func30, Tryd.ntmps30
      go_wp2_with fail
      refine cN.mono ?_
      rintro e w1 ⟨rfl, hb1⟩
      clear cN
      have hh : w1.heap[D]? = w.heap[D]? := by
        rw [hb1.block D (by simp; omega)]
        exact Below.heap_alloc _ _ _ hD
      have h' : DecAt w1 D x 2 false := by unfold DecAt; rw [hh]; exact h
      have hsz : w.heap.size < w1.heap.size := by have := hb1.size; simp at this; omega
      have hbu : But D w w1 := But.of_alloc hb1
      have d0 : w1.cell? ⟨D, 0, none⟩ = some (.int .u8 (x 0)) := by rw [Lib.cell_of_heap h']; rfl
      have d1 : w1.cell? ⟨D, 1, none⟩ = some (.int .u8 (x 1)) := by rw [Lib.cell_of_heap h']; rfl
      have d2 : w1.cell? ⟨D, 2, none⟩ = some (.int .u8 (x 2)) := by rw [Lib.cell_of_heap h']; rfl
      have d3 : w1.cell? ⟨D, 3, none⟩ = some (.int .u8 (x 3)) := by rw [Lib.cell_of_heap h']; rfl
      have d4 : w1.cell? ⟨D, 4, none⟩ = some (.int .i64 2) := by rw [Lib.cell_of_heap h']; rfl
      have d5 : w1.cell? ⟨D, 5, none⟩ = some (.bool false) := by rw [Lib.cell_of_heap h']; rfl
      have f0 : w1.frozen? ⟨D, 0, none⟩ = false := Lib.frozen_of_heap h' 0
      have f1 : w1.frozen? ⟨D, 1, none⟩ = false := Lib.frozen_of_heap h' 1
      have f2 : w1.frozen? ⟨D, 2, none⟩ = false := Lib.frozen_of_heap h' 2
      have f3 : w1.frozen? ⟨D, 3, none⟩ = false := Lib.frozen_of_heap h' 3
      have f4 : w1.frozen? ⟨D, 4, none⟩ = false := Lib.frozen_of_heap h' 4
      have f5 : w1.frozen? ⟨D, 5, none⟩ = false := Lib.frozen_of_heap h' 5
      have H' := hide' h'
      have HBu := hide' hbu
      clear h' hbu hh hT h hb1 c0 c1 c2 c3 c4 c5
      go_wp2
      go_ret2
      exact .bad HW.out HA.out rfl (H'.out.set5 _) (HBu.out.setCell (p := ⟨D, 5, none⟩) rfl _)
    · obtain ⟨e1, e2⟩ := Rn.nx_waits hwa
      rw [e1] at cN
      have HA := hide' hwa
      clear hwh hwa e1 e2
      go_enter Tryd.func30, Tryd.ntmps30
      go_wp2_with fail
      refine cN.mono ?_
      rintro e w1 ⟨rfl, hb1⟩
      have p0 : w1.cell? ⟨w.heap.size, 0, none⟩ = some (.int .u8 (x 0)) := (hb1.cell (p := ⟨w.heap.size, 0, none⟩) (by simp)).trans (by simp)
      have p1 : w1.cell? ⟨w.heap.size, 1, none⟩ = some (.int .u8 (x 1)) := (hb1.cell (p := ⟨w.heap.size, 1, none⟩) (by simp)).trans (by simp)
      have p2 : w1.cell? ⟨w.heap.size, 2, none⟩ = some (.int .u8 v) := (hb1.cell (p := ⟨w.heap.size, 2, none⟩) (by simp)).trans (by simp)
      have p3 : w1.cell? ⟨w.heap.size, 3, none⟩ = some (.int .u8 (x 3)) := (hb1.cell (p := ⟨w.heap.size, 3, none⟩) (by simp)).trans (by simp)
      clear cN
      have hh : w1.heap[D]? = w.heap[D]? := by
        rw [hb1.block D (by simp; omega)]
        exact Below.heap_alloc _ _ _ hD
      have h' : DecAt w1 D x 2 false := by unfold DecAt; rw [hh]; exact h
      have hsz : w.heap.size < w1.heap.size := by have := hb1.size; simp at this; omega
      have hbu : But D w w1 := But.of_alloc hb1
      have d0 : w1.cell? ⟨D, 0, none⟩ = some (.int .u8 (x 0)) := by rw [Lib.cell_of_heap h']; rfl
      have d1 : w1.cell? ⟨D, 1, none⟩ = some (.int .u8 (x 1)) := by rw [Lib.cell_of_heap h']; rfl
      have d2 : w1.cell? ⟨D, 2, none⟩ = some (.int .u8 (x 2)) := by rw [Lib.cell_of_heap h']; rfl
      have d3 : w1.cell? ⟨D, 3, none⟩ = some (.int .u8 (x 3)) := by rw [Lib.cell_of_heap h']; rfl
      have d4 : w1.cell? ⟨D, 4, none⟩ = some (.int .i64 2) := by rw [Lib.cell_of_heap h']; rfl
      have d5 : w1.cell? ⟨D, 5, none⟩ = some (.bool false) := by rw [Lib.cell_of_heap h']; rfl
      have f0 : w1.frozen? ⟨D, 0, none⟩ = false := Lib.frozen_of_heap h' 0
      have f1 : w1.frozen? ⟨D, 1, none⟩ = false := Lib.frozen_of_heap h' 1
      have f2 : w1.frozen? ⟨D, 2, none⟩ = false := Lib.frozen_of_heap h' 2
      have f3 : w1.frozen? ⟨D, 3, none⟩ = false := Lib.frozen_of_heap h' 3
      have f4 : w1.frozen? ⟨D, 4, none⟩ = false := Lib.frozen_of_heap h' 4
      have f5 : w1.frozen? ⟨D, 5, none⟩ = false := Lib.frozen_of_heap h' 5
      have H' := hide' h'
      have HBu := hide' hbu
      clear h' hbu hh hT h hb1 c0 c1 c2 c3 c4 c5
      go_wp2
      go_ret2
      exact .waits HA.out rfl (H'.out.set (x 0) (x 1) v (x 3) 3) (HBu.out.set _ _ _ _ _)
  · rw [Rn.nx_whole hwh] at cN
    have HW := hide' hwh
    clear hwh
    go_enter Tryd.func30, Tryd.ntmps30
    go_wp2_with fail
    refine cN.mono ?_
    rintro e w1 ⟨rfl, hb1⟩
    clear cN
    have hh : w1.heap[D]? = w.heap[D]? := by
      rw [hb1.block D (by simp; omega)]
      exact Below.heap_alloc _ _ _ hD
    have h' : DecAt w1 D x 2 false := by unfold DecAt; rw [hh]; exact h
    have hsz : w.heap.size < w1.heap.size := by have := hb1.size; simp at this; omega
    have hbu : But D w w1 := But.of_alloc hb1
    have d0 : w1.cell? ⟨D, 0, none⟩ = some (.int .u8 (x 0)) := by rw [Lib.cell_of_heap h']; rfl
    have d1 : w1.cell? ⟨D, 1, none⟩ = some (.int .u8 (x 1)) := by rw [Lib.cell_of_heap h']; rfl
    have d2 : w1.cell? ⟨D, 2, none⟩ = some (.int .u8 (x 2)) := by rw [Lib.cell_of_heap h']; rfl
    have d3 : w1.cell? ⟨D, 3, none⟩ = some (.int .u8 (x 3)) := by rw [Lib.cell_of_heap h']; rfl
    have d4 : w1.cell? ⟨D, 4, none⟩ = some (.int .i64 2) := by rw [Lib.cell_of_heap h']; rfl
    have d5 : w1.cell? ⟨D, 5, none⟩ = some (.bool false) := by rw [Lib.cell_of_heap h']; rfl
    have f0 : w1.frozen? ⟨D, 0, none⟩ = false := Lib.frozen_of_heap h' 0
    have f1 : w1.frozen? ⟨D, 1, none⟩ = false := Lib.frozen_of_heap h' 1
    have f2 : w1.frozen? ⟨D, 2, none⟩ = false := Lib.frozen_of_heap h' 2
    have f3 : w1.frozen? ⟨D, 3, none⟩ = false := Lib.frozen_of_heap h' 3
    have f4 : w1.frozen? ⟨D, 4, none⟩ = false := Lib.frozen_of_heap h' 4
    have f5 : w1.frozen? ⟨D, 5, none⟩ = false := Lib.frozen_of_heap h' 5
    have H' := hide' h'
    have HBu := hide' hbu
    clear h' hbu hh hT h hb1 c0 c1 c2 c3 c4 c5
    go_wp2
    go_ret2
    exact .whole HW.out rfl (DecAt.set5 (x := fun _ => 0) (n := 0) (bad := false) (DecAt.set (x := x) H'.out 0 0 0 0 0) false) ((HBu.out.set _ _ _ _ _).setCell (p := ⟨D, 5, none⟩) rfl _)

set_option maxHeartbeats 2000000 in
theorem take_3 (D : Nat) (x : Nat → Nat) (v : Nat) (w : World) (hv : v < 256) (hx : ∀ j, x j < 256) (hT : Lib.Utf8Tabs 0 1 w) (h : DecAt w D x 3 false) :
    Calls Tryd.prog 30 #[.pointer (some ⟨D, 0, none⟩), .int .u8 v] w fun e w' => TakeEnd D x 3 v w e w' := by
  have c0 : w.cell? ⟨D, 0, none⟩ = some (.int .u8 (x 0)) := by rw [Lib.cell_of_heap h]; rfl
  have c1 : w.cell? ⟨D, 1, none⟩ = some (.int .u8 (x 1)) := by rw [Lib.cell_of_heap h]; rfl
  have c2 : w.cell? ⟨D, 2, none⟩ = some (.int .u8 (x 2)) := by rw [Lib.cell_of_heap h]; rfl
  have c3 : w.cell? ⟨D, 3, none⟩ = some (.int .u8 (x 3)) := by rw [Lib.cell_of_heap h]; rfl
  have c4 : w.cell? ⟨D, 4, none⟩ = some (.int .i64 3) := by rw [Lib.cell_of_heap h]; rfl
  have c5 : w.cell? ⟨D, 5, none⟩ = some (.bool false) := by rw [Lib.cell_of_heap h]; rfl
  have hD := block_lt_of_cell c0
  have cN := next_first (Rn.upd x 3 v) 4 w.heap.size 0 4 (w.alloc (.cells #[.int .u8 (x 0), .int .u8 (x 1), .int .u8 (x 2), .int .u8 v] 90)) (tabs_below hT ((Below.refl w.heap.size w).alloc (Nat.le_refl _) _) (Nat.le_refl _)) (Rn.upd_lt hx hv) (by omega) (by omega) (by decide) (by
    intro j hj
    have : j = 0 ∨ j = 1 ∨ j = 2 ∨ j = 3 := by omega
    rcases this with rfl | rfl | rfl | rfl <;> simp [Rn.upd])
  cases hwh : Rn.whole (Rn.upd x 3 v) 4
  · cases hwa : Rn.waits (Rn.upd x 3 v) 4
    · rw [Rn.nx_bad (by omega) hwa hwh] at cN
      have HW := hide' hwh
      have HA := hide' hwa
      clear hwh hwa
      go_enter Tryd.func30, Tryd.ntmps30
      go_wp2_with fail
      refine cN.mono ?_
      rintro e w1 ⟨rfl, hb1⟩
      clear cN
      have hh : w1.heap[D]? = w.heap[D]? := by
        rw [hb1.block D (by simp; omega)]
        exact Below.heap_alloc _ _ _ hD
      have h' : DecAt w1 D x 3 false := by unfold DecAt; rw [hh]; exact h
      have hsz : w.heap.size < w1.heap.size := by have := hb1.size; simp at this; omega
      have hbu : But D w w1 := But.of_alloc hb1
      have d0 : w1.cell? ⟨D, 0, none⟩ = some (.int .u8 (x 0)) := by rw [Lib.cell_of_heap h']; rfl
      have d1 : w1.cell? ⟨D, 1, none⟩ = some (.int .u8 (x 1)) := by rw [Lib.cell_of_heap h']; rfl
      have d2 : w1.cell? ⟨D, 2, none⟩ = some (.int .u8 (x 2)) := by rw [Lib.cell_of_heap h']; rfl
      have d3 : w1.cell? ⟨D, 3, none⟩ = some (.int .u8 (x 3)) := by rw [Lib.cell_of_heap h']; rfl
      have d4 : w1.cell? ⟨D, 4, none⟩ = some (.int .i64 3) := by rw [Lib.cell_of_heap h']; rfl
      have d5 : w1.cell? ⟨D, 5, none⟩ = some (.bool false) := by rw [Lib.cell_of_heap h']; rfl
      have f0 : w1.frozen? ⟨D, 0, none⟩ = false := Lib.frozen_of_heap h' 0
      have f1 : w1.frozen? ⟨D, 1, none⟩ = false := Lib.frozen_of_heap h' 1
      have f2 : w1.frozen? ⟨D, 2, none⟩ = false := Lib.frozen_of_heap h' 2
      have f3 : w1.frozen? ⟨D, 3, none⟩ = false := Lib.frozen_of_heap h' 3
      have f4 : w1.frozen? ⟨D, 4, none⟩ = false := Lib.frozen_of_heap h' 4
      have f5 : w1.frozen? ⟨D, 5, none⟩ = false := Lib.frozen_of_heap h' 5
      have H' := hide' h'
      have HBu := hide' hbu
      clear h' hbu hh hT h hb1 c0 c1 c2 c3 c4 c5
      go_wp2
      go_ret2
      exact .bad HW.out HA.out rfl (H'.out.set5 _) (HBu.out.setCell (p := ⟨D, 5, none⟩) rfl _)
    · obtain ⟨e1, e2⟩ := Rn.nx_waits hwa
      rw [e1] at cN
      have HA := hide' hwa
      clear hwh hwa e1 e2
      go_enter Tryd.func30, Tryd.ntmps30
      go_wp2_with fail
      refine cN.mono ?_
      rintro e w1 ⟨rfl, hb1⟩
      have p0 : w1.cell? ⟨w.heap.size, 0, none⟩ = some (.int .u8 (x 0)) := (hb1.cell (p := ⟨w.heap.size, 0, none⟩) (by simp)).trans (by simp)
      have p1 : w1.cell? ⟨w.heap.size, 1, none⟩ = some (.int .u8 (x 1)) := (hb1.cell (p := ⟨w.heap.size, 1, none⟩) (by simp)).trans (by simp)
      have p2 : w1.cell? ⟨w.heap.size, 2, none⟩ = some (.int .u8 (x 2)) := (hb1.cell (p := ⟨w.heap.size, 2, none⟩) (by simp)).trans (by simp)
      have p3 : w1.cell? ⟨w.heap.size, 3, none⟩ = some (.int .u8 v) := (hb1.cell (p := ⟨w.heap.size, 3, none⟩) (by simp)).trans (by simp)
      clear cN
      have hh : w1.heap[D]? = w.heap[D]? := by
        rw [hb1.block D (by simp; omega)]
        exact Below.heap_alloc _ _ _ hD
      have h' : DecAt w1 D x 3 false := by unfold DecAt; rw [hh]; exact h
      have hsz : w.heap.size < w1.heap.size := by have := hb1.size; simp at this; omega
      have hbu : But D w w1 := But.of_alloc hb1
      have d0 : w1.cell? ⟨D, 0, none⟩ = some (.int .u8 (x 0)) := by rw [Lib.cell_of_heap h']; rfl
      have d1 : w1.cell? ⟨D, 1, none⟩ = some (.int .u8 (x 1)) := by rw [Lib.cell_of_heap h']; rfl
      have d2 : w1.cell? ⟨D, 2, none⟩ = some (.int .u8 (x 2)) := by rw [Lib.cell_of_heap h']; rfl
      have d3 : w1.cell? ⟨D, 3, none⟩ = some (.int .u8 (x 3)) := by rw [Lib.cell_of_heap h']; rfl
      have d4 : w1.cell? ⟨D, 4, none⟩ = some (.int .i64 3) := by rw [Lib.cell_of_heap h']; rfl
      have d5 : w1.cell? ⟨D, 5, none⟩ = some (.bool false) := by rw [Lib.cell_of_heap h']; rfl
      have f0 : w1.frozen? ⟨D, 0, none⟩ = false := Lib.frozen_of_heap h' 0
      have f1 : w1.frozen? ⟨D, 1, none⟩ = false := Lib.frozen_of_heap h' 1
      have f2 : w1.frozen? ⟨D, 2, none⟩ = false := Lib.frozen_of_heap h' 2
      have f3 : w1.frozen? ⟨D, 3, none⟩ = false := Lib.frozen_of_heap h' 3
      have f4 : w1.frozen? ⟨D, 4, none⟩ = false := Lib.frozen_of_heap h' 4
      have f5 : w1.frozen? ⟨D, 5, none⟩ = false := Lib.frozen_of_heap h' 5
      have H' := hide' h'
      have HBu := hide' hbu
      clear h' hbu hh hT h hb1 c0 c1 c2 c3 c4 c5
      go_wp2
      go_ret2
      exact .waits HA.out rfl (H'.out.set (x 0) (x 1) (x 2) v 4) (HBu.out.set _ _ _ _ _)
  · rw [Rn.nx_whole hwh] at cN
    have HW := hide' hwh
    clear hwh
    go_enter Tryd.func30, Tryd.ntmps30
    go_wp2_with fail
    refine cN.mono ?_
    rintro e w1 ⟨rfl, hb1⟩
    clear cN
    have hh : w1.heap[D]? = w.heap[D]? := by
      rw [hb1.block D (by simp; omega)]
      exact Below.heap_alloc _ _ _ hD
    have h' : DecAt w1 D x 3 false := by unfold DecAt; rw [hh]; exact h
    have hsz : w.heap.size < w1.heap.size := by have := hb1.size; simp at this; omega
    have hbu : But D w w1 := But.of_alloc hb1
    have d0 : w1.cell? ⟨D, 0, none⟩ = some (.int .u8 (x 0)) := by rw [Lib.cell_of_heap h']; rfl
    have d1 : w1.cell? ⟨D, 1, none⟩ = some (.int .u8 (x 1)) := by rw [Lib.cell_of_heap h']; rfl
    have d2 : w1.cell? ⟨D, 2, none⟩ = some (.int .u8 (x 2)) := by rw [Lib.cell_of_heap h']; rfl
    have d3 : w1.cell? ⟨D, 3, none⟩ = some (.int .u8 (x 3)) := by rw [Lib.cell_of_heap h']; rfl
    have d4 : w1.cell? ⟨D, 4, none⟩ = some (.int .i64 3) := by rw [Lib.cell_of_heap h']; rfl
    have d5 : w1.cell? ⟨D, 5, none⟩ = some (.bool false) := by rw [Lib.cell_of_heap h']; rfl
    have f0 : w1.frozen? ⟨D, 0, none⟩ = false := Lib.frozen_of_heap h' 0
    have f1 : w1.frozen? ⟨D, 1, none⟩ = false := Lib.frozen_of_heap h' 1
    have f2 : w1.frozen? ⟨D, 2, none⟩ = false := Lib.frozen_of_heap h' 2
    have f3 : w1.frozen? ⟨D, 3, none⟩ = false := Lib.frozen_of_heap h' 3
    have f4 : w1.frozen? ⟨D, 4, none⟩ = false := Lib.frozen_of_heap h' 4
    have f5 : w1.frozen? ⟨D, 5, none⟩ = false := Lib.frozen_of_heap h' 5
    have H' := hide' h'
    have HBu := hide' hbu
    clear h' hbu hh hT h hb1 c0 c1 c2 c3 c4 c5
    go_wp2
    go_ret2
    exact .whole HW.out rfl (DecAt.set5 (x := fun _ => 0) (n := 0) (bad := false) (DecAt.set (x := x) H'.out 0 0 0 0 0) false) ((HBu.out.set _ _ _ _ _).setCell (p := ⟨D, 5, none⟩) rfl _)
end Go.Proofs.YtacmenmneilamaaDoor
