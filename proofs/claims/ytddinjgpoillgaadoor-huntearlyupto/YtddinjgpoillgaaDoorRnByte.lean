/-
  THE WALK over runes.Byte: where the character of that number begins.
-/
import Derived.Test.YtddinjgpoillgaaDoorRnMd
namespace Go.Proofs.YtddinjgpoillgaaDoor
open Go.RowKit Go.Shelf
attribute [local go_sem] Oper.semAt_some

theorem results_cell2 {P : Program} {fn : Func} {p q : Tmp} {t u : TypeId} (h : fn.results = #[.cell p t, .cell q u]) (tmps : Array Value) (w : World) (a b : Addr) (x y : Value)
    (hp : tmps.getD p undef = .pointer (some a)) (hq : tmps.getD q undef = .pointer (some b)) (ha : w.cell? a = some x) (hb : w.cell? b = some y) (ht : P.underlying t = some (.int .i64)) (hu : P.underlying u = some (.int .i64)) :
    (results fn tmps).run P w = .ok (.tuple #[x, y]) w := by
  have hp' : tmps[p]?.getD undef = .pointer (some a) := by simpa using hp
  have hq' : tmps[q]?.getD undef = .pointer (some b) := by simpa using hq
  simp [results, h, hp', hq', asAddr, loadVar, isAgg, underlying, ht, hu, ha, hb, Result.andThen]

set_option maxHeartbeats 1000000 in
theorem byte_neg (f : Nat → Nat) (n : Nat) (k : Int) (w : World) (hk : k < 0) :
    Calls Tryd.prog 22 #[.string (Rn.arr f n), .int .i64 k] w fun e w' => e = .returned (.tuple #[.int .i64 0, .int .i64 2]) ∧ Below w.heap.size w w' := by
  go_enter Tryd.func22, Tryd.ntmps22
  go_wp2
  refine bodyPost_ret (results_cell2 rfl _ _ ⟨w.heap.size + 1, 0, none⟩ ⟨w.heap.size + 1 + 1, 0, none⟩ (.int .i64 0) (.int .i64 2) rfl rfl ?_ ?_ Tryd.underlying3 Tryd.underlying28) rfl ?_
  · have h1 := World.alloc_heap_new (w.alloc (Obj.cells #[Value.int IntKind.i64 k] 3)) (Obj.cells #[Value.int IntKind.i64 0] 3)
    rw [World.size_alloc] at h1
    rw [Lib.cell_of_heap ((Below.heap_alloc _ _ _ (by simp)).trans h1)]
    rfl
  · have h1 := World.alloc_heap_new ((w.alloc (Obj.cells #[Value.int IntKind.i64 k] 3)).alloc (Obj.cells #[Value.int IntKind.i64 0] 3)) (Obj.cells #[Value.int IntKind.i64 2] 28)
    rw [World.size_alloc, World.size_alloc] at h1
    rw [Lib.cell_of_heap h1]
    rfl
  · exact ⟨rfl, (((Below.refl w.heap.size w).alloc (Nat.le_refl _) _).alloc (by simp) _).alloc (by simp; omega) _⟩

namespace Rn
def byt {n : Nat} (cs : List (Chr n)) (k : Nat) : Nat × Nat := match cs[k]? with
  | some x => (x.1.1, 0)
  | none => if k = cs.length then (n, 0) else (0, 2)
end Rn

/-- between two rounds of Byte -/
structure BI (n N k : Nat) (w : World) (pre : List (Rn.Chr n)) (W : World) : Prop where
  below : Below N w W
  num : W.heap[N]? = some (.cells #[.int .i64 ((k - pre.length : Nat) : Int)] 3 (0, 0))
  r0 : W.heap[N + 1]? = some (.cells #[.int .i64 0] 3 (0, 0))
  r1 : W.heap[N + 1 + 1]? = some (.cells #[.int .i64 0] 28 (0, 0))
  cnt : pre.length ≤ k
/-- where Byte has returned out of the loop -/
structure BX (n N k : Nat) (w : World) (c : Code) (pre : List (Rn.Chr n)) (W : World) : Prop where
  ret : c = .ret
  below : Below N w W
  got : ∃ pre' x, pre = pre' ++ [x] ∧ pre'.length = k ∧ W.heap[N + 1]? = some (.cells #[.int .i64 (x.1.1 : Nat)] 3 (0, 0))
  r1 : W.heap[N + 1 + 1]? = some (.cells #[.int .i64 0] 28 (0, 0))
theorem BI.own (n N k : Nat) (w : World) (B : Nat) (hB : N ≤ B) : OwnFrom B (BI n N k w) := by
  intro pre W W' row h hg hr
  have hk : ∀ (k : Nat) (o : Obj), W.heap[k]? = some o → o.isCells = true → W'.heap[k]? = some o := fun k o h1 h2 => kept_cells hg (fun r e => (hr r e).2) h1 h2
  refine ⟨?_, hk _ _ h.num rfl, hk _ _ h.r0 rfl, hk _ _ h.r1 rfl, h.cnt⟩
  exact h.below.trans ⟨hg.os, hg.tape, hg.output, hg.size, fun k hk' => hg.block k (by have := (Array.getElem?_eq_some_iff.1 h.num).1; omega) (fun e => by have := (hr k e.symm).1; omega)⟩
theorem BX.own (n N k : Nat) (w : World) (c : Code) (B : Nat) (hB : N ≤ B) : OwnFrom B (BX n N k w c) := by
  intro pre W W' row h hg hr
  have hk : ∀ (k : Nat) (o : Obj), W.heap[k]? = some o → o.isCells = true → W'.heap[k]? = some o := fun k o h1 h2 => kept_cells hg (fun r e => (hr r e).2) h1 h2
  obtain ⟨p', x, e1, e2, e3⟩ := h.got
  refine ⟨h.ret, ?_, ⟨p', x, e1, e2, hk _ _ e3 rfl⟩, hk _ _ h.r1 rfl⟩
  exact h.below.trans ⟨hg.os, hg.tape, hg.output, hg.size, fun k hk' => hg.block k (by have := (Array.getElem?_eq_some_iff.1 h.r1).1; omega) (fun e => by have := (hr k e.symm).1; omega)⟩

theorem byte_def {W : World} {N D : Nat} {o : Obj} (h : W.heap[D]? = some o) (hD : N + 1 + 1 < D) (u v : Value) : ((W.setCell ⟨N + 1, 0, none⟩ u).setCell ⟨N + 1 + 1, 0, none⟩ v).heap[D]? = some o :=
  (Below.heap_setCell _ _ _ _ (by show D ≠ N + 1 + 1; omega)).trans ((Below.heap_setCell _ _ _ _ (by show D ≠ N + 1; omega)).trans h)
theorem byte_c0 {W : World} {N D : Nat} {x : Value} {t : TypeId} (h : W.heap[N + 1]? = some (.cells #[x] t (0, 0))) (hD : N + 1 + 1 < D) (u v : Value) (o : Obj) : (((W.setCell ⟨N + 1, 0, none⟩ u).setCell ⟨N + 1 + 1, 0, none⟩ v).putObj D o).cell? ⟨N + 1, 0, none⟩ = some u := by
  have h1 : (W.setCell ⟨N + 1, 0, none⟩ u).heap[N + 1]? = some (.cells #[u] t (0, 0)) := Go.Joins.block_setCell (i := 0) h _
  rw [Lib.cell_of_heap ((World.putObj_heap_other (by omega)).trans ((Below.heap_setCell _ _ _ _ (by show N + 1 ≠ N + 1 + 1; omega)).trans h1))]
  rfl
theorem byte_c1 {W : World} {N D : Nat} {x : Value} {t : TypeId} (h : W.heap[N + 1 + 1]? = some (.cells #[x] t (0, 0))) (hD : N + 1 + 1 < D) (u v : Value) (o : Obj) : (((W.setCell ⟨N + 1, 0, none⟩ u).setCell ⟨N + 1 + 1, 0, none⟩ v).putObj D o).cell? ⟨N + 1 + 1, 0, none⟩ = some v := by
  have h1 : ((W.setCell ⟨N + 1, 0, none⟩ u).setCell ⟨N + 1 + 1, 0, none⟩ v).heap[N + 1 + 1]? = some (.cells #[v] t (0, 0)) := Go.Joins.block_setCell (i := 0) ((Below.heap_setCell W ⟨N + 1, 0, none⟩ u _ (by show N + 1 + 1 ≠ N + 1; omega)).trans h) _
  rw [Lib.cell_of_heap ((World.putObj_heap_other (by omega)).trans h1)]
  rfl
theorem byte_below {w W : World} {D : Nat} (h : Below w.heap.size w W) (hD : w.heap.size + 1 + 1 < D) (u v : Value) (hK : ((W.setCell ⟨w.heap.size + 1, 0, none⟩ u).setCell ⟨w.heap.size + 1 + 1, 0, none⟩ v).heap[D]? = some (.deferred (some []))) : Below w.heap.size w (((W.setCell ⟨w.heap.size + 1, 0, none⟩ u).setCell ⟨w.heap.size + 1 + 1, 0, none⟩ v).putObj D (.deferred none)) :=
  ((h.setCell (p := ⟨w.heap.size + 1, 0, none⟩) (by show w.heap.size ≤ w.heap.size + 1; omega) _).setCell (p := ⟨w.heap.size + 1 + 1, 0, none⟩) (by show w.heap.size ≤ w.heap.size + 1 + 1; omega) _).trans (belowK_b (w := w) (Nat.le_refl _) _ D _ _ (by omega) hK rfl rfl)

set_option maxRecDepth 100000 in
set_option maxHeartbeats 2000000 in
theorem byte_pos (f : Nat → Nat) (n : Nat) (k : Nat) (w : World) (hf : ∀ j, f j < 256) (hk9 : k ≤ 9223372036854775807) :
    Calls Tryd.prog 22 #[.string (Rn.arr f n), .int .i64 k] w fun e w' => e = .returned (.tuple #[.int .i64 (Rn.byt (Rn.chs f n hf) k).1, .int .i64 (Rn.byt (Rn.chs f n hf) k).2]) ∧ Below w.heap.size w w' := by
  refine (callsIn_wide (n := 6)).1 ?_
  refine callsIn_of_wp_marks Tryd.func22 rfl trivial ?_ rfl
  simp only [Tryd.ntmps22, List.size_toArray, List.length_cons, List.length_nil, Nat.reduceAdd, Nat.reduceSub, Array.replicate_succ, Array.replicate_zero, List.push_toArray, List.append_toArray, List.nil_append, List.cons_append]
  have hk : ¬ (k : Int) < 0 := by omega
  gi_wp2_with fail
  refine ⟨trivial, ?_⟩
  refine (all_in Fence.wide _ trivial rfl _ _).mono ?_
  rintro e w' ⟨rfl, rfl⟩
  gi_wp2
  obtain ⟨W0, hW0⟩ : ∃ W0, ((((w.alloc (.cells #[.int .i64 k] 3)).alloc (.cells #[.int .i64 0] 3)).alloc (.cells #[.int .i64 0] 28)).alloc (.cells #[.string (Rn.arr f n)] 9)) = W0 := ⟨_, rfl⟩
  have hsz0 : W0.heap.size = w.heap.size + 4 := by
    subst hW0
    simp
  have hI0 : BI n w.heap.size k w [] W0 := by
    subst hW0
    refine ⟨((((Below.refl w.heap.size w).alloc (Nat.le_refl _) _).alloc (by simp) _).alloc (by simp; omega) _).alloc (by simp; omega) _, ?_, ?_, ?_, by simp⟩
    · rw [Below.heap_alloc _ _ _ (by simp; omega), Below.heap_alloc _ _ _ (by simp; omega), Below.heap_alloc _ _ _ (by simp)]
      exact World.alloc_heap_new w _
    · rw [Below.heap_alloc _ _ _ (by simp <;> omega), Below.heap_alloc _ _ _ (by simp)]
      have := World.alloc_heap_new (w.alloc (.cells #[.int .i64 k] 3)) (.cells #[.int .i64 0] 3)
      rwa [World.size_alloc] at this
    · rw [Below.heap_alloc _ _ _ (by simp)]
      have := World.alloc_heap_new ((w.alloc (.cells #[.int .i64 k] 3)).alloc (.cells #[.int .i64 0] 3)) (.cells #[.int .i64 0] 28)
      rwa [World.size_alloc, World.size_alloc] at this
  have hbox : W0.cell? ⟨w.heap.size + 1 + 1 + 1, 0, none⟩ = some (.string (Rn.arr f n)) := by
    subst hW0
    have := World.alloc_heap_new (((w.alloc (.cells #[.int .i64 k] 3)).alloc (.cells #[.int .i64 0] 3)).alloc (.cells #[.int .i64 0] 28)) (.cells #[.string (Rn.arr f n)] 9)
    rw [World.size_alloc, World.size_alloc, World.size_alloc] at this
    rw [Lib.cell_of_heap this]
    rfl
  rw [hW0]
  clear hW0
  refine wpIn_rangeFunc_ownG rfl (by omega) (gf := 38) (lb := #[.pointer (some ⟨w.heap.size + 1 + 1 + 1, 0, none⟩)]) rfl trivial (enters_of Tryd.func38 (by kernel_rfl) rfl)
    (all_stops Fence.wide 5 trivial rfl (by omega) (w.heap.size + 1 + 1 + 1) n f hf W0 hbox) walksK_t walksK_b (Below.refl _ _) (fun _ => rfl)
    (BI n w.heap.size k w) (BX n w.heap.size k w) (BI.own n w.heap.size k w _ (by omega)) (fun c => BX.own n w.heap.size k w c _ (by omega)) hI0
    (fun x => { tmps := #[.string (Rn.arr f n), .int .i64 k, undef, .pointer (some ⟨w.heap.size, 0, none⟩), .pointer (some ⟨w.heap.size + 1, 0, none⟩), .pointer (some ⟨w.heap.size + 1 + 1, 0, none⟩), .int .i64 x.1.1, .int .i64 k, .bool false, .string (Rn.arr f n), .func (.func 38) #[] #[.pointer (some ⟨w.heap.size + 1 + 1 + 1, 0, none⟩)], .int .i64 x.1.1, .int .i32 x.1.2, undef, undef, undef, undef, undef, undef, undef, undef, undef], defers := [] }) ?assign ?body ?done ?stop
  case assign =>
    intro l x W K hK
    simp only [Rn.encC]
    gi_wp2
    exact hK
  case body =>
    rintro l pre ⟨⟨a, r⟩, ha, hr⟩ W hI hlt
    dsimp only at ha hr
    obtain ⟨hB, hN, h0, h1, hC⟩ := hI
    obtain ⟨q, hq⟩ : ∃ q, k - pre.length = q := ⟨_, rfl⟩
    rw [hq] at hN
    have cN : W.cell? ⟨w.heap.size, 0, none⟩ = some (.int .i64 q) := by rw [Lib.cell_of_heap hN]; rfl
    have c0 : W.cell? ⟨w.heap.size + 1, 0, none⟩ = some (.int .i64 0) := by rw [Lib.cell_of_heap h0]; rfl
    have c1 : W.cell? ⟨w.heap.size + 1 + 1, 0, none⟩ = some (.int .i64 0) := by rw [Lib.cell_of_heap h1]; rfl
    have fN : W.frozen? ⟨w.heap.size, 0, none⟩ = false := Lib.frozen_of_heap hN 0
    have f0 : W.frozen? ⟨w.heap.size + 1, 0, none⟩ = false := Lib.frozen_of_heap h0 0
    have f1 : W.frozen? ⟨w.heap.size + 1 + 1, 0, none⟩ = false := Lib.frozen_of_heap h1 0
    by_cases hz : q = 0
    · subst hz
      gi_wp2
      refine ⟨((KeepsOthers.setCell W _ _).trans (KeepsOthers.setCell _ _ _)).from _, rfl, (hB.setCell (p := ⟨w.heap.size + 1, 0, none⟩) (by show w.heap.size ≤ w.heap.size + 1; omega) _).setCell (p := ⟨w.heap.size + 1 + 1, 0, none⟩) (by show w.heap.size ≤ w.heap.size + 1 + 1; omega) _, ⟨pre, _, rfl, by omega, ?_⟩, ?_⟩
      · rw [Below.heap_setCell _ _ _ _ (by show w.heap.size + 1 ≠ w.heap.size + 1 + 1; omega)]
        exact Go.Joins.block_setCell (i := 0) h0 _
      · exact Go.Joins.block_setCell (i := 0) ((Below.heap_setCell W ⟨w.heap.size + 1, 0, none⟩ _ _ (by show w.heap.size + 1 + 1 ≠ w.heap.size + 1; omega)).trans h1) _
    · have hz' : ((q : Int) == 0) = false := by simp; omega
      gi_wp2
      have hKO := KeepsOthers.setCell W ⟨w.heap.size, 0, none⟩ (.int .i64 ((q : Int) - 1))
      refine ⟨hKO.from _, keepsWalks_of hKO, hB.setCell (p := ⟨w.heap.size, 0, none⟩) (Nat.le_refl _) _, ?_, (Below.heap_setCell W _ _ _ (by show w.heap.size + 1 ≠ w.heap.size; omega)).trans h0, (Below.heap_setCell W _ _ _ (by show w.heap.size + 1 + 1 ≠ w.heap.size; omega)).trans h1, by simp; omega⟩
      have e1 : ((k - (pre ++ [(⟨(a, r), ha, hr⟩ : Rn.Chr n)]).length : Nat) : Int) = (q : Int) - 1 := by simp; omega
      rw [e1]
      exact Go.Joins.block_setCell (i := 0) hN _
  case done =>
    rintro D ys W hD rfl hI hK
    obtain ⟨hB, hN, h0, h1, hC⟩ := hI
    have hb : Rn.byt (Rn.chs f n hf) k = if k = (Rn.chs f n hf).length then (n, 0) else (0, 2) := by
      unfold Rn.byt
      rw [List.getElem?_eq_none hC]
    have HB := hide' hb
    clear hb
    obtain ⟨q, hq⟩ : ∃ q, k - (Rn.chs f n hf).length = q := ⟨_, rfl⟩
    rw [hq] at hN
    have cN : W.cell? ⟨w.heap.size, 0, none⟩ = some (.int .i64 q) := by rw [Lib.cell_of_heap hN]; rfl
    have c0 : W.cell? ⟨w.heap.size + 1, 0, none⟩ = some (.int .i64 0) := by rw [Lib.cell_of_heap h0]; rfl
    have c1 : W.cell? ⟨w.heap.size + 1 + 1, 0, none⟩ = some (.int .i64 0) := by rw [Lib.cell_of_heap h1]; rfl
    have f0 : W.frozen? ⟨w.heap.size + 1, 0, none⟩ = false := Lib.frozen_of_heap h0 0
    have f1 : W.frozen? ⟨w.heap.size + 1 + 1, 0, none⟩ = false := Lib.frozen_of_heap h1 0
    have hsz := Rn.arr_size f n
    by_cases hz : q = 0
    · subst hz
      gi_wp2
      refine ⟨by simp, .inl ⟨_, _, rfl, run_takeDeferred (byte_def hK (by omega) _ _), ?_⟩⟩
      refine ⟨_, results_cell2 rfl _ _ ⟨w.heap.size + 1, 0, none⟩ ⟨w.heap.size + 1 + 1, 0, none⟩ (.int .i64 n) (.int .i64 0) rfl rfl ?_ ?_ Tryd.underlying3 Tryd.underlying28, by rw [HB.out, if_pos (by omega)]; rfl, ?_⟩
      · exact byte_c0 h0 (by omega) _ _ _
      · exact byte_c1 h1 (by omega) _ _ _
      · exact byte_below hB (by omega) _ _ (byte_def hK (by omega) _ _)
    · have hz' : (0 : Int) < q := by omega
      gi_wp2
      refine ⟨by simp, .inl ⟨_, _, rfl, run_takeDeferred (byte_def hK (by omega) _ _), ?_⟩⟩
      refine ⟨_, results_cell2 rfl _ _ ⟨w.heap.size + 1, 0, none⟩ ⟨w.heap.size + 1 + 1, 0, none⟩ (.int .i64 0) (.int .i64 2) rfl rfl ?_ ?_ Tryd.underlying3 Tryd.underlying28, by rw [HB.out, if_neg (by omega)]; rfl, ?_⟩
      · exact byte_c0 h0 (by omega) _ _ _
      · exact byte_c1 h1 (by omega) _ _ _
      · exact byte_below hB (by omega) _ _ (byte_def hK (by omega) _ _)
  case stop =>
    rintro D c pre W hD hpre ⟨rfl, hB, ⟨pre', x, e1, e2, e3⟩, h1⟩ hK
    gi_wp2
    refine ⟨by simp, .inl ⟨_, _, rfl, run_takeDeferred hK, ?_⟩⟩
    have hb : Rn.byt (Rn.chs f n hf) k = (x.1.1, 0) := by
      obtain ⟨t, ht⟩ := hpre
      unfold Rn.byt
      rw [← ht, e1, ← e2]
      simp
    rw [hb]
    refine ⟨_, results_cell2 rfl _ _ ⟨w.heap.size + 1, 0, none⟩ ⟨w.heap.size + 1 + 1, 0, none⟩ (.int .i64 x.1.1) (.int .i64 0) rfl rfl ?_ ?_ Tryd.underlying3 Tryd.underlying28, rfl, hB.trans (belowK_b (w := w) (Nat.le_refl _) W D _ _ (by omega) hK rfl rfl)⟩
    · rw [Lib.cell_of_heap ((World.putObj_heap_other (by omega)).trans e3)]
      rfl
    · rw [Lib.cell_of_heap ((World.putObj_heap_other (by omega)).trans h1)]
      rfl
end Go.Proofs.YtddinjgpoillgaaDoor
