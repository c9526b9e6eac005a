/-
  How WholeRunes is left: what its loop collected is taken; the result lies in its box.
-/
import Derived.Test.YtcggkbgbfgkaiaaDoorWhMath
namespace Go.Proofs.YtcggkbgbfgkaiaaDoor
open Go.RowKit Go.Shelf
namespace Wh
theorem results_box {P : Program} {fn : Func} {p : Tmp} {t : TypeId} (h : fn.results = #[.cell p t]) (tmps : Array Value) (w : World) (a : Addr) (x : Value)
    (hp : tmps.getD p undef = .pointer (some a)) (ha : w.cell? a = some x) (ht : P.underlying t = some .bool) :
    (results fn tmps).run P w = .ok x w := by
  have hp' : tmps[p]?.getD undef = .pointer (some a) := by simpa using hp
  simp [results, h, hp', asAddr, loadVar, isAgg, underlying, ht, ha, Result.andThen]
theorem leaves_one (w : World) (R D : Nat) (hRD : R < D) (hwD : w.heap.size ≤ D) (tmps : Array Value) (ht : tmps.getD 2 undef = .pointer (some ⟨R, 0, none⟩)) (W : World) (hD : W.heap[D]? = some (.deferred (some []))) (hr : W.heap[R]? = some (.cells #[.bool true] 4 (0, 0))) (hB : Below w.heap.size w W) :
    LeavesInM Fence.wide 8 Tryd.prog Tryd.f3 tmps (fun e w' => e = .returned (.bool true) ∧ Below w.heap.size w w') [{ target := .collected D, args := #[] }] .returning W := by
  refine ⟨by simp, .inl ⟨_, _, rfl, run_takeDeferred hD, ?_⟩⟩
  exact ⟨_, results_box rfl _ _ ⟨R, 0, none⟩ (.bool true) ht (by rw [Lib.cell_of_heap ((World.putObj_heap_other (by omega)).trans hr)]; rfl) Tryd.underlying4, rfl, hB.trans (belowK_b (w := w) (Nat.le_refl _) W D _ _ hwD hD rfl rfl)⟩
end Wh
end Go.Proofs.YtcggkbgbfgkaiaaDoor
