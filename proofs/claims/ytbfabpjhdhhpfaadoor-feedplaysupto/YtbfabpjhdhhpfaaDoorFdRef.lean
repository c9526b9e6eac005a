/-
  WALKS over the document's Feed: place, from.
-/
import Derived.Test.YtbfabpjhdhhpfaaDoorFdPlc
import Derived.Test.YtbfabpjhdhhpfaaDoorFdRefAt
namespace Go.Proofs.YtbfabpjhdhhpfaaDoor
open Go.RowKit Go.Lib

/-- the document's Feed at a block: N bytes F, T of them taken; was the end told? -/
structure RefF (w : World) (D : Nat) (F : Nat → Nat) (N T : Nat) (E : Bool) (pa : Option Addr) (cap : Nat) : Prop where
  blk : w.heap[D]? = some (.cells #[.slice pa N cap, .int .i64 T, .bool E] 29 (0, 0))
  cap1 : N ≤ cap
  cap2 : cap ≤ maxLen
  nil : pa = none → cap = 0
  row : N = 0 ∨ ∃ b o, pa = some ⟨b, o, none⟩ ∧ Bytes w b o N F
theorem RefF.cells {w : World} {D : Nat} {F : Nat → Nat} {N T : Nat} {E : Bool} {pa : Option Addr} {cap : Nat} (h : RefF w D F N T E pa cap) : w.cell? ⟨D, 0, none⟩ = some (.slice pa N cap) ∧ w.cell? ⟨D, 1, none⟩ = some (.int .i64 T) ∧ w.cell? ⟨D, 2, none⟩ = some (.bool E) := by
  refine ⟨?_, ?_, ?_⟩ <;> (rw [Lib.cell_of_heap h.blk]; rfl)
theorem RefF.below {w w' : World} {D : Nat} {F : Nat → Nat} {N T : Nat} {E : Bool} {pa : Option Addr} {cap : Nat} (h : RefF w D F N T E pa cap) {B : Nat} (hb : Below B w w') (hB : w.heap.size ≤ B) : RefF w' D F N T E pa cap := by
  have hD : D < w.heap.size := (Array.getElem?_eq_some_iff.1 h.blk).1
  refine ⟨(hb.block D (by omega)).trans h.blk, h.cap1, h.cap2, h.nil, ?_⟩
  rcases h.row with q | ⟨b, o, e, hby⟩
  · exact .inl q
  · exact .inr ⟨b, o, e, hby.below hb hB⟩
/-- a place of it -/
def plV (F : Nat → Nat) (N a : Nat) : Value := .agg #[.int .i64 a, .int .i64 (Rn.plc F N a).1, .int .i64 (Rn.plc F N a).2.1, .int .i64 (Rn.plc F N a).2.2]

set_option maxRecDepth 100000 in
set_option maxHeartbeats 1000000 in
theorem ref4Place_in {w : World} {D : Nat} {F : Nat → Nat} {N T : Nat} {E : Bool} {pa : Option Addr} {cap : Nat} (h : RefF w D F N T E pa cap) (hF : ∀ j, F j < 256) (a : Nat) (ha : a ≤ N) (hbig : N ≤ 1099511627776) :
    Calls Tryd.prog 46 #[.pointer (some ⟨D, 0, none⟩), .int .i64 a] w fun e w' => e = .returned (plV F N a) ∧ Below w.heap.size w w' := by
  obtain ⟨k0, k1, k2⟩ := h.cells
  have c := fun W (hb : Below w.heap.size w W) => refAt_in F pa N cap a W hF ha h.cap1 h.cap2 hbig h.nil ((h.below hb (Nat.le_refl _)).row)
  have hD : D < w.heap.size := (Array.getElem?_eq_some_iff.1 h.blk).1
  unfold plV
  clear h
  generalize Rn.plc F N a = P at *
  go_enter Tryd.func46, Tryd.ntmps46
  go_wp2_with fail
  refine (c _ ((Below.refl _ _).alloc (Nat.le_refl _) _)).mono ?_
  rintro e w1 ⟨rfl, hb1⟩
  have hs : (w.alloc (.cells #[.int .i64 0, .int .i64 0, .int .i64 0, .int .i64 0] 64)).heap.size = w.heap.size + 1 := by simp
  have hR : w1.heap[w.heap.size]? = some (.cells #[.int .i64 0, .int .i64 0, .int .i64 0, .int .i64 0] 64 (0, 0)) := (hb1.block w.heap.size (by omega)).trans (heap_top _ _ rfl)
  have hs1 : w.heap.size < w1.heap.size := by have := hb1.size; omega
  have hB1 : Below w.heap.size w w1 := ((Below.refl _ _).alloc (Nat.le_refl _) _).trans (hb1.mono (by omega))
  clear c hb1 hs
  have rc0 : w1.cell? ⟨w.heap.size, 0, none⟩ = some (.int .i64 0) := by rw [Lib.cell_of_heap hR]; rfl
  have rc1 : w1.cell? ⟨w.heap.size, 1, none⟩ = some (.int .i64 0) := by rw [Lib.cell_of_heap hR]; rfl
  have rc2 : w1.cell? ⟨w.heap.size, 2, none⟩ = some (.int .i64 0) := by rw [Lib.cell_of_heap hR]; rfl
  have rc3 : w1.cell? ⟨w.heap.size, 3, none⟩ = some (.int .i64 0) := by rw [Lib.cell_of_heap hR]; rfl
  have rz0 : w1.frozen? ⟨w.heap.size, 0, none⟩ = false := Lib.frozen_of_heap hR 0
  have rz1 : w1.frozen? ⟨w.heap.size, 1, none⟩ = false := Lib.frozen_of_heap hR 1
  have rz2 : w1.frozen? ⟨w.heap.size, 2, none⟩ = false := Lib.frozen_of_heap hR 2
  have rz3 : w1.frozen? ⟨w.heap.size, 3, none⟩ = false := Lib.frozen_of_heap hR 3
  have hne : w.heap.size ≠ w1.heap.size := by omega
  clear hR
  go_wp2
  refine bodyPost_ret (v := .agg #[.int .i64 a, .int .i64 P.1, .int .i64 P.2.1, .int .i64 P.2.2]) (by simp [results, Tryd.results46, go_sem, World.cell?_alloc_lt, hs1, rc0, rc1, rc2, rc3]) rfl ⟨rfl, ?_⟩
  refine ((((hB1.setCell (Nat.le_refl _) _).setCell (Nat.le_refl _) _).setCell (Nat.le_refl _) _).setCell (Nat.le_refl _) _).alloc ?_ _
  exact ((((hB1.setCell (p := ⟨w.heap.size, 0, none⟩) (Nat.le_refl _) _).setCell (p := ⟨w.heap.size, 1, none⟩) (Nat.le_refl _) _).setCell (p := ⟨w.heap.size, 2, none⟩) (Nat.le_refl _) _).setCell (p := ⟨w.heap.size, 3, none⟩) (Nat.le_refl _) _).size

/-- what the document's Feed tells from a byte on -/
def fromV (F : Nat → Nat) (N a : Nat) (x : Nat × Nat × Nat × Nat) : Value :=
  if x.2.2.2 = 0 then .tuple #[.agg #[.int .i64 x.1, .int .i64 a, .int .i64 (Rn.plc F N a).1, .int .i64 (Rn.plc F N a).2.1, .int .i64 (Rn.plc F N a).2.2, .int .i64 x.2.2.1], .int .i64 0]
  else if x.2.2.2 = 2 then .tuple #[.agg #[.int .i64 0, .int .i64 (a + x.2.1 : Nat), .int .i64 (Rn.plc F N (a + x.2.1)).1, .int .i64 (Rn.plc F N (a + x.2.1)).2.1, .int .i64 (Rn.plc F N (a + x.2.1)).2.2, .int .i64 0], .int .i64 2]
  else .tuple #[.agg #[.int .i64 0, .int .i64 0, .int .i64 0, .int .i64 0, .int .i64 0, .int .i64 0], .int .i64 x.2.2.2]

set_option maxRecDepth 100000 in
set_option maxHeartbeats 1000000 in
theorem ref4From_end {w : World} {D : Nat} {F : Nat → Nat} {N T : Nat} {E : Bool} {pa : Option Addr} {cap : Nat} (h : RefF w D F N T E pa cap) :
    Calls Tryd.prog 45 #[.pointer (some ⟨D, 0, none⟩), .int .i64 N] w fun e w' => e = .returned (.tuple #[.agg #[.int .i64 0, .int .i64 0, .int .i64 0, .int .i64 0, .int .i64 0, .int .i64 0], .int .i64 (if E then 3 else 1 : Nat)]) ∧ Below w.heap.size w w' := by
  obtain ⟨k0, k1, k2⟩ := h.cells
  have hD : D < w.heap.size := (Array.getElem?_eq_some_iff.1 h.blk).1
  clear h
  cases E with
  | true =>
    go_enter Tryd.func45, Tryd.ntmps45
    go_wp2
    exact bodyPost_ret (v := .tuple #[.agg #[.int .i64 0, .int .i64 0, .int .i64 0, .int .i64 0, .int .i64 0, .int .i64 0], .int .i64 3]) (by simp [results, Tryd.results45, go_sem]) rfl ⟨rfl, (Below.refl _ _).alloc (Nat.le_refl _) _⟩
  | false =>
    go_enter Tryd.func45, Tryd.ntmps45
    go_wp2
    exact bodyPost_ret (v := .tuple #[.agg #[.int .i64 0, .int .i64 0, .int .i64 0, .int .i64 0, .int .i64 0, .int .i64 0], .int .i64 1]) (by simp [results, Tryd.results45, go_sem]) rfl ⟨rfl, (Below.refl _ _).alloc (Nat.le_refl _) _⟩
end Go.Proofs.YtbfabpjhdhhpfaaDoor
