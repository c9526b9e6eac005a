/-
  THE WALK over runes.Byte: where the character of that number begins.
-/
import Derived.Test.YtgbldbohadacmaaRnMd
namespace Go.Proofs.Ytgbldbohadacmaa
open Go.RowKit Go.Shelf
attribute [local go_sem] Oper.semAt_some

theorem results_cell2 {P : Program} {fn : Func} {p q : Tmp} {t u : TypeId} (h : fn.results = #[.cell p t, .cell q u]) (tmps : Array Value) (w : World) (a b : Addr) (x y : Value)
    (hp : tmps.getD p undef = .pointer (some a)) (hq : tmps.getD q undef = .pointer (some b)) (ha : w.cell? a = some x) (hb : w.cell? b = some y) (ht : P.underlying t = some (.int .i64)) (hu : P.underlying u = some (.int .i64)) :
    (results fn tmps).run P w = .ok (.tuple #[x, y]) w := by
  have hp' : tmps[p]?.getD undef = .pointer (some a) := by simpa using hp
  have hq' : tmps[q]?.getD undef = .pointer (some b) := by simpa using hq
  simp [results, h, hp', hq', asAddr, loadVar, isAgg, underlying, ht, hu, ha, hb, Result.andThen]

namespace Rn
def byt {n : Nat} (cs : List (Chr n)) (k : Nat) : Nat × Nat := match cs[k]? with
  | some x => (x.1.1, 0)
  | none => if k = cs.length then (n, 0) else (0, 2)
end Rn

/-- between two rounds of Byte -/
structure BI (n N k : Nat) (w : World) (pre : List (Rn.Chr n)) (W : World) : Prop where
  below : Below N w W
  num : W.heap[N]? = some (.cells #[.int .i64 ((k - pre.length : Nat) : Int)] 3 (0, 0))
  r0 : W.heap[N + 1]? = some (.cells #[.int .i64 0] 3 (0, 0))
  r1 : W.heap[N + 1 + 1]? = some (.cells #[.int .i64 0] 27 (0, 0))
  cnt : pre.length ≤ k
/-- where Byte has returned out of the loop -/
structure BX (n N k : Nat) (w : World) (c : Code) (pre : List (Rn.Chr n)) (W : World) : Prop where
  ret : c = .ret
  below : Below N w W
  got : ∃ pre' x, pre = pre' ++ [x] ∧ pre'.length = k ∧ W.heap[N + 1]? = some (.cells #[.int .i64 (x.1.1 : Nat)] 3 (0, 0))
  r1 : W.heap[N + 1 + 1]? = some (.cells #[.int .i64 0] 27 (0, 0))
theorem BI.own (n N k : Nat) (w : World) (B : Nat) (hB : N ≤ B) : OwnFrom B (BI n N k w) := by
  intro pre W W' row h hg hr
  have hk : ∀ (k : Nat) (o : Obj), W.heap[k]? = some o → o.isCells = true → W'.heap[k]? = some o := fun k o h1 h2 => kept_cells hg (fun r e => (hr r e).2) h1 h2
  refine ⟨?_, hk _ _ h.num rfl, hk _ _ h.r0 rfl, hk _ _ h.r1 rfl, h.cnt⟩
  exact h.below.trans ⟨hg.os, hg.tape, hg.output, hg.size, fun k hk' => hg.block k (by have := (Array.getElem?_eq_some_iff.1 h.num).1; omega) (fun e => by have := (hr k e.symm).1; omega)⟩
theorem BX.own (n N k : Nat) (w : World) (c : Code) (B : Nat) (hB : N ≤ B) : OwnFrom B (BX n N k w c) := by
  intro pre W W' row h hg hr
  have hk : ∀ (k : Nat) (o : Obj), W.heap[k]? = some o → o.isCells = true → W'.heap[k]? = some o := fun k o h1 h2 => kept_cells hg (fun r e => (hr r e).2) h1 h2
  obtain ⟨p', x, e1, e2, e3⟩ := h.got
  refine ⟨h.ret, ?_, ⟨p', x, e1, e2, hk _ _ e3 rfl⟩, hk _ _ h.r1 rfl⟩
  exact h.below.trans ⟨hg.os, hg.tape, hg.output, hg.size, fun k hk' => hg.block k (by have := (Array.getElem?_eq_some_iff.1 h.r1).1; omega) (fun e => by have := (hr k e.symm).1; omega)⟩

theorem byte_def {W : World} {N D : Nat} {o : Obj} (h : W.heap[D]? = some o) (hD : N + 1 + 1 < D) (u v : Value) : ((W.setCell ⟨N + 1, 0, none⟩ u).setCell ⟨N + 1 + 1, 0, none⟩ v).heap[D]? = some o :=
  (Below.heap_setCell _ _ _ _ (by show D ≠ N + 1 + 1; omega)).trans ((Below.heap_setCell _ _ _ _ (by show D ≠ N + 1; omega)).trans h)
theorem byte_c0 {W : World} {N D : Nat} {x : Value} {t : TypeId} (h : W.heap[N + 1]? = some (.cells #[x] t (0, 0))) (hD : N + 1 + 1 < D) (u v : Value) (o : Obj) : (((W.setCell ⟨N + 1, 0, none⟩ u).setCell ⟨N + 1 + 1, 0, none⟩ v).putObj D o).cell? ⟨N + 1, 0, none⟩ = some u := by
  have h1 : (W.setCell ⟨N + 1, 0, none⟩ u).heap[N + 1]? = some (.cells #[u] t (0, 0)) := Go.Joins.block_setCell (i := 0) h _
  rw [Lib.cell_of_heap ((World.putObj_heap_other (by omega)).trans ((Below.heap_setCell _ _ _ _ (by show N + 1 ≠ N + 1 + 1; omega)).trans h1))]
  rfl
theorem byte_c1 {W : World} {N D : Nat} {x : Value} {t : TypeId} (h : W.heap[N + 1 + 1]? = some (.cells #[x] t (0, 0))) (hD : N + 1 + 1 < D) (u v : Value) (o : Obj) : (((W.setCell ⟨N + 1, 0, none⟩ u).setCell ⟨N + 1 + 1, 0, none⟩ v).putObj D o).cell? ⟨N + 1 + 1, 0, none⟩ = some v := by
  have h1 : ((W.setCell ⟨N + 1, 0, none⟩ u).setCell ⟨N + 1 + 1, 0, none⟩ v).heap[N + 1 + 1]? = some (.cells #[v] t (0, 0)) := Go.Joins.block_setCell (i := 0) ((Below.heap_setCell W ⟨N + 1, 0, none⟩ u _ (by show N + 1 + 1 ≠ N + 1; omega)).trans h) _
  rw [Lib.cell_of_heap ((World.putObj_heap_other (by omega)).trans h1)]
  rfl
theorem byte_below {w W : World} {D : Nat} (h : Below w.heap.size w W) (hD : w.heap.size + 1 + 1 < D) (u v : Value) (hK : ((W.setCell ⟨w.heap.size + 1, 0, none⟩ u).setCell ⟨w.heap.size + 1 + 1, 0, none⟩ v).heap[D]? = some (.deferred (some []))) : Below w.heap.size w (((W.setCell ⟨w.heap.size + 1, 0, none⟩ u).setCell ⟨w.heap.size + 1 + 1, 0, none⟩ v).putObj D (.deferred none)) :=
  ((h.setCell (p := ⟨w.heap.size + 1, 0, none⟩) (by show w.heap.size ≤ w.heap.size + 1; omega) _).setCell (p := ⟨w.heap.size + 1 + 1, 0, none⟩) (by show w.heap.size ≤ w.heap.size + 1 + 1; omega) _).trans (belowK_b (w := w) (Nat.le_refl _) _ D _ _ (by omega) hK rfl rfl)

end Go.Proofs.Ytgbldbohadacmaa
