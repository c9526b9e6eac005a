/-
  THE WALK over gimletlaw04.pieces: whatever the cuts, the characters of all bytes.
-/
import Derived.Test.YtcggkbgbfgkaiaaDoorFdCutMath
import Derived.Test.YtcggkbgbfgkaiaaDoorFdRows
import Derived.Deep.RegionHeld3
namespace Go.Proofs.YtcggkbgbfgkaiaaDoor
open Go.RowKit Go.Lib

/-- the numbers of a slice that came in -/
def Cuts (w : World) (pc : Option Addr) (c : Nat) (g : Nat → Int) : Prop := 0 < c → ∃ b o, pc = some ⟨b, o, none⟩ ∧ b < w.heap.size ∧ ∀ j, j < c → w.cell? ⟨b, o + j, none⟩ = some (.int .i64 (g j))

theorem keepC {W : World} {K : Nat} {a0 a1 a2 a3 a4 a5 : Value} {t : TypeId} (h : W.heap[K]? = some (.cells #[a0, a1, a2, a3, a4, a5] t (0, 0))) : W.cell? ⟨K, 0, none⟩ = some a0 ∧ W.cell? ⟨K, 1, none⟩ = some a1 ∧ W.cell? ⟨K, 2, none⟩ = some a2 ∧ W.cell? ⟨K, 3, none⟩ = some a3 ∧ W.cell? ⟨K, 4, none⟩ = some a4 ∧ W.cell? ⟨K, 5, none⟩ = some a5 := by
  refine ⟨?_, ?_, ?_, ?_, ?_, ?_⟩ <;> (rw [Lib.cell_of_heap h]; rfl)
theorem keepF {W : World} {K : Nat} {c : Array Value} {t : TypeId} (h : W.heap[K]? = some (.cells c t (0, 0))) : W.frozen? ⟨K, 0, none⟩ = false ∧ W.frozen? ⟨K, 1, none⟩ = false ∧ W.frozen? ⟨K, 2, none⟩ = false ∧ W.frozen? ⟨K, 3, none⟩ = false ∧ W.frozen? ⟨K, 4, none⟩ = false ∧ W.frozen? ⟨K, 5, none⟩ = false :=
  ⟨Lib.frozen_of_heap h 0, Lib.frozen_of_heap h 1, Lib.frozen_of_heap h 2, Lib.frozen_of_heap h 3, Lib.frozen_of_heap h 4, Lib.frozen_of_heap h 5⟩

theorem keepS {W : World} {K n : Nat} {a0 a1 a2 a3 a4 a5 : Value} {t : TypeId} (h : W.heap[K]? = some (.cells #[a0, a1, a2, a3, a4, a5] t (0, 0))) (hn : K ≠ n) : ∀ W', But n W W' → W'.cell? ⟨K, 0, none⟩ = some a0 ∧ W'.cell? ⟨K, 1, none⟩ = some a1 ∧ W'.cell? ⟨K, 2, none⟩ = some a2 ∧ W'.cell? ⟨K, 3, none⟩ = some a3 ∧ W'.cell? ⟨K, 4, none⟩ = some a4 ∧ W'.cell? ⟨K, 5, none⟩ = some a5 :=
  fun _ hb => keepC ((hb.block K (Array.getElem?_eq_some_iff.1 h).1 hn).trans h)

/-- the state at the head of the loop -/
structure PieJ (w : World) (D : Nat) (f : Nat → Nat) (n a T : Nat) (v all : Value) (p : Nat × Nat × Nat) (pre : List (Nat × Nat × (Nat × Nat × Nat) × Nat)) (wr : World) : Prop where
  feed : Feed wr D D f a T false v p
  row : wr.ownsRow (D + 1) 45 6 all pre.length (fcCells pre)
  apart : ∀ q, v.ownBlock = some q → all.ownBlock ≠ some q
  list : pre ++ Fd.tk f n true (n - T) T p = Fd.tk f n true n 0 (0, 1, 1)
  last : Fd.tkE f n true (n - T) T p = Fd.tkE f n true n 0 (0, 1, 1)
  below : Below w.heap.size w wr
  cell : wr.heap[w.heap.size]? = some (.cells #[.int .i32 0, .int .i64 0, .int .i64 0, .int .i64 0, .int .i64 0, .int .i64 0] 45 (0, 0))

end Go.Proofs.YtcggkbgbfgkaiaaDoor
