/-
  WALKS over Along and gimletlaw09.along at no tree.
-/
import Derived.Test.YtfkmeghddobgcaaDoorTrNode
namespace Go.Proofs.YtfkmeghddobgcaaDoor
open Go.RowKit Go.Shelf Go.Lib
attribute [local go_sem] Oper.semAt_some
namespace Tr
structure NI (N : Nat) {a b : Int} (w : World) (pre : List (Num a b)) (W : World) : Prop where
  below : Below N w W
  box : W.heap[N]? = some (.cells #[.slice none 0 0] 52 (0, 0))
  big : N < W.heap.size
theorem NI.own (N : Nat) {a b : Int} (w : World) (B : Nat) (hB : N ≤ B) : OwnFrom B (NI N (a := a) (b := b) w) := by
  intro pre W W' row h hg hr
  have hk : ∀ (k : Nat) (o : Obj), W.heap[k]? = some o → o.isCells = true → W'.heap[k]? = some o := fun k o h1 h2 => kept_cells hg (fun r e => (hr r e).2) h1 h2
  refine ⟨?_, hk _ _ h.box rfl, Nat.lt_of_lt_of_le h.big hg.size⟩
  exact h.below.trans ⟨hg.os, hg.tape, hg.output, hg.size, fun k hk' => hg.block k (by have := h.big; omega) (fun e => by have := (hr k e.symm).1; omega)⟩
end Tr
set_option maxHeartbeats 1000000 in
theorem nilAlong (k ax : Int) (W : World) :
    Calls Tryd.prog 25 #[.pointer none, .int .i64 k, .int .i64 ax] W fun e w' => e = .returned (.func (.func 52) #[] #[.pointer (some ⟨W.heap.size, 0, none⟩), .pointer (some ⟨W.heap.size + 1, 0, none⟩)]) ∧ w' = (W.alloc (.cells #[.int .i64 0] 3)).alloc (.cells #[.int .i64 0] 3) := by
  have cL := nilLacks k (-1) W
  have cN := trNumbers 0 0 W
  go_enter Tryd.func25, Tryd.ntmps25
  go_wp2_with fail
  refine cL.mono ?_
  rintro e w1 ⟨rfl, rfl⟩
  clear cL
  go_wp2_with fail
  refine cN.mono ?_
  rintro e w1 ⟨rfl, rfl⟩
  go_wp2
  go_ret
  exact ⟨rfl, rfl⟩
set_option maxRecDepth 100000 in
set_option maxHeartbeats 2000000 in
theorem nilAlongList (k ax : Int) (w : World) :
    Calls Tryd.prog 23 #[.pointer none, .int .i64 k, .int .i64 ax] w fun e w' => e = .returned (.slice none 0 0) ∧ Below w.heap.size w w' := by
  refine (callsIn_wide (n := 6)).1 ?_
  refine callsIn_of_wp_marks Tryd.func23 rfl trivial ?_ rfl
  simp only [Tryd.ntmps23, List.size_toArray, List.length_cons, List.length_nil, Nat.reduceAdd, Nat.reduceSub, Array.replicate_succ, Array.replicate_zero, List.push_toArray, List.append_toArray, List.nil_append, List.cons_append]
  have hA1 : Below w.heap.size w (w.alloc (.cells #[.slice none 0 0] 52)) := (Below.refl _ _).alloc (Nat.le_refl _) _
  have CA := hide' (nilAlong k ax (w.alloc (.cells #[.slice none 0 0] 52)))
  gi_wp2_with fail
  refine ⟨trivial, ?_⟩
  refine (callsIn_wide.2 CA.out).mono ?_
  rintro e w' ⟨rfl, rfl⟩
  clear CA
  gi_wp2
  obtain ⟨W0, hW0⟩ : ∃ W0, (((w.alloc (.cells #[.slice none 0 0] 52)).alloc (.cells #[.int .i64 0] 3)).alloc (.cells #[.int .i64 0] 3)) = W0 := ⟨_, rfl⟩
  have hsz0 : W0.heap.size = w.heap.size + 3 := by
    subst hW0
    simp
  have hbf : W0.cell? ⟨w.heap.size + 1, 0, none⟩ = some (.int .i64 0) := by
    subst hW0
    have h1 := World.alloc_heap_new (w.alloc (.cells #[.slice none 0 0] 52)) (.cells #[.int .i64 0] 3)
    rw [World.size_alloc] at h1
    rw [Lib.cell_of_heap ((Below.heap_alloc _ _ _ (by simp)).trans h1)]
    rfl
  have hbe : W0.heap[w.heap.size + 1 + 1]? = some (.cells #[.int .i64 0] 3 (0, 0)) := by
    subst hW0
    have h1 := World.alloc_heap_new ((w.alloc (.cells #[.slice none 0 0] 52)).alloc (.cells #[.int .i64 0] 3)) (.cells #[.int .i64 0] 3)
    rw [World.size_alloc, World.size_alloc] at h1
    exact h1
  have hbe2 : W0.cell? ⟨w.heap.size + 1 + 1, 0, none⟩ = some (.int .i64 0) := by rw [Lib.cell_of_heap hbe]; rfl
  have hI0 : Tr.NI w.heap.size (a := 0) (b := 0) w [] W0 := by
    subst hW0
    refine ⟨(hA1.alloc (by simp) _).alloc (by simp; omega) _, ?_, by simp; omega⟩
    rw [Below.heap_alloc _ _ _ (by simp; omega), Below.heap_alloc _ _ _ (by simp)]
    exact World.alloc_heap_new w _
  rw [hW0]
  clear hW0 hA1
  refine wpIn_rangeFunc_ownG rfl (by omega) (gf := 52) (lb := #[.pointer (some ⟨w.heap.size + 1, 0, none⟩), .pointer (some ⟨w.heap.size + 1 + 1, 0, none⟩)]) rfl trivial (enters_of Tryd.func52 (by kernel_rfl) rfl)
    (trNum_stops Fence.wide 5 trivial rfl (by omega) (w.heap.size + 1) (w.heap.size + 1 + 1) 0 0 (by omega) (by omega) W0 hbf hbe2) Tr.keep1_t (Tr.keep1_b (by omega)) (Below.refl _ _) (fun _ => rfl)
    (Tr.NI w.heap.size w) (fun _ _ _ => False) (Tr.NI.own w.heap.size w _ (by omega)) (fun _ _ _ _ _ h _ _ => h) hI0
    (fun x => { tmps := #[.pointer none, .int .i64 k, .int .i64 ax, undef, undef, undef, .slice none 0 0, .pointer (some ⟨w.heap.size, 0, none⟩), .int .i64 x.1, .pointer none, .int .i64 k, .int .i64 ax, .func (.func 52) #[] #[.pointer (some ⟨w.heap.size + 1, 0, none⟩), .pointer (some ⟨w.heap.size + 1 + 1, 0, none⟩)], .int .i64 x.1, undef, undef, undef, undef, undef, undef, undef, undef], defers := [] }) ?assign ?body ?done ?stop
  case assign =>
    intro l x W K hK
    simp only [Tr.encI]
    gi_wp2
    exact hK
  case body =>
    rintro l pre ⟨x, hx1, hx2⟩ W hI hlt
    exact absurd hx2 (by omega)
  case done =>
    rintro D' ys W hD rfl hI hK
    have cb : W.cell? ⟨w.heap.size, 0, none⟩ = some (.slice none 0 0) := by rw [Lib.cell_of_heap hI.box]; rfl
    gi_wp2
    refine ⟨by simp, .inl ⟨_, _, rfl, run_takeDeferred hK, ?_⟩⟩
    exact ⟨_, results_tmp rfl _ _ _, rfl, hI.below.trans (belowK_b (w := w) (Nat.le_refl _) W D' _ _ (by omega) hK rfl rfl)⟩
  case stop =>
    rintro D c pre W _ _ h _
    exact h.elim
end Go.Proofs.YtfkmeghddobgcaaDoor
