/-
  THE WALK over gimletlaw02.CharsAll: of any class and any stop.
-/
import Derived.Test.YtploppaocpbnlaaDoorChAllMath
import Derived.Test.YtploppaocpbnlaaDoorChFix
import Derived.Test.YtploppaocpbnlaaDoorRnMend
import Derived.Deep.RegionHeld3
namespace Go.Proofs.YtploppaocpbnlaaDoor
open Go.RowKit Go.Shelf
attribute [local go_sem] Oper.semAt_some

theorem results_cellB {P : Program} {fn : Func} {p : Tmp} {t : TypeId} (h : fn.results = #[.cell p t]) (tmps : Array Value) (w : World) (a : Addr) (x : Value)
    (hp : tmps.getD p undef = .pointer (some a)) (ha : w.cell? a = some x) (ht : P.underlying t = some .bool) :
    (results fn tmps).run P w = .ok x w := by
  have hp' : tmps[p]?.getD undef = .pointer (some a) := by simpa using hp
  simp [results, h, hp', asAddr, loadVar, isAgg, underlying, ht, ha, Result.andThen]

/-- what the loops collected, as what is deferred -/
def colls (Ds : List Nat) : List Deferred := Ds.map fun D => { target := .collected D, args := #[] }
theorem leaves_all (w : World) (N1 : Nat) (hN : w.heap.size ≤ N1) (tmps : Array Value) (ht : tmps.getD 4 undef = .pointer (some ⟨N1, 0, none⟩)) : ∀ (Ds : List Nat) (W : World), Ds.Nodup → (∀ D ∈ Ds, N1 < D ∧ W.heap[D]? = some (.deferred (some []))) → W.heap[N1]? = some (.cells #[.bool true] 4 (0, 0)) → Below w.heap.size w W →
    LeavesInM Fence.wide 8 Tryd.prog Tryd.f7 tmps (fun e w' => e = .returned (.bool true) ∧ Below w.heap.size w w') (colls Ds) .returning W
  | [], W, _, _, hr, hB => ⟨_, results_cellB rfl _ _ ⟨N1, 0, none⟩ (.bool true) ht (by rw [Lib.cell_of_heap hr]; rfl) Tryd.underlying4, rfl, hB⟩
  | D :: Ds, W, hnd, hD, hr, hB => by
    obtain ⟨h1, h2⟩ := hD D (by simp)
    refine ⟨by simp, .inl ⟨_, _, rfl, run_takeDeferred h2, ?_⟩⟩
    refine leaves_all w N1 hN tmps ht Ds _ (List.nodup_cons.1 hnd).2 (fun E hE => ?_) ((World.putObj_heap_other (by omega)).trans hr) (hB.trans (belowK_b (w := w) (Nat.le_refl _) W D _ _ (by omega) h2 rfl rfl))
    obtain ⟨e1, e2⟩ := hD E (by simp [hE])
    refine ⟨e1, (World.putObj_heap_other (fun e => ?_)).trans e2⟩
    subst e
    exact (List.nodup_cons.1 hnd).1 hE

/-- what holds all along -/
structure AllB (c st : Int) (w : World) (M : Nat) (Ds : List Nat) (W : World) : Prop where
  below : Below w.heap.size w W
  stop : W.heap[w.heap.size]? = some (.cells #[.int .i64 st] 3 (0, 0))
  res : W.heap[w.heap.size + 1]? = some (.cells #[.bool false] 4 (0, 0))
  cls : W.heap[M]? = some (.cells #[.int .i64 c] 24 (0, 0))
  big : w.heap.size + 1 < M
  nod : Ds.Nodup
  def_ : ∀ D ∈ Ds, M < D ∧ W.heap[D]? = some (.deferred (some []))

/-- between two rounds of the inner loop; where it is left -/
structure AllJ (c st : Int) (w : World) (M A : Nat) (Ds : List Nat) (pre : List Nat) (W : World) : Prop where
  base : AllB c st w M Ds W
  num : W.heap[A]? = some (.cells #[.int .i64 (pre.length : Int)] 3 (0, 0))
  lst : W.heap[A + 1]? = some (.cells #[.int .i32 (Ch.lastI pre)] 21 (0, 0))
  okp : pre <+: Ch.cl c
  ma : M < A
  da : ∀ D ∈ Ds, D < A
def AllI (c st : Int) (w : World) (M A : Nat) (Ds : List Nat) (pre : List Nat) (W : World) : Prop := AllJ c st w M A Ds pre W ∧ (pre.length : Int) < st
def AllX (c st : Int) (w : World) (M A : Nat) (Ds : List Nat) (co : Code) (pre : List Nat) (W : World) : Prop :=
  (co = .ret ∧ ¬ pre <+: Ch.cl c) ∨ (co = .exit 2 ∧ AllJ c st w M A Ds pre W ∧ (pre.length : Int) = st)
theorem AllJ.own (c st : Int) (w : World) (M A : Nat) (Ds : List Nat) (B : Nat) (hB : A ≤ B) : OwnFrom B (AllJ c st w M A Ds) := by
  intro pre W W' row h hg hr
  have hk : ∀ (k : Nat) (o : Obj), W.heap[k]? = some o → o.isCells = true → W'.heap[k]? = some o := fun k o h1 h2 => kept_cells hg (fun r e => (hr r e).2) h1 h2
  have hl : ∀ k, k < A → k < W.heap.size → W'.heap[k]? = W.heap[k]? := fun k h1 h2 => hg.block k h2 (fun e => by have := (hr k e.symm).1; omega)
  have hA : A < W.heap.size := (Array.getElem?_eq_some_iff.1 h.num).1
  have hb := h.base.big
  have hm := h.ma
  refine ⟨⟨?_, hk _ _ h.base.stop rfl, hk _ _ h.base.res rfl, hk _ _ h.base.cls rfl, h.base.big, h.base.nod, fun D hD => ⟨(h.base.def_ D hD).1, (hl D (h.da D hD) (by have := h.da D hD; omega)).trans (h.base.def_ D hD).2⟩⟩, hk _ _ h.num rfl, hk _ _ h.lst rfl, h.okp, h.ma, h.da⟩
  exact h.base.below.trans ⟨hg.os, hg.tape, hg.output, hg.size, fun k hk' => hl k (by omega) (by omega)⟩
theorem AllI.own (c st : Int) (w : World) (M A : Nat) (Ds : List Nat) (B : Nat) (hB : A ≤ B) : OwnFrom B (AllI c st w M A Ds) := fun pre W W' row h hg hr => ⟨AllJ.own c st w M A Ds B hB pre W W' row h.1 hg hr, h.2⟩
theorem AllX.own (c st : Int) (w : World) (M A : Nat) (Ds : List Nat) (co : Code) (B : Nat) (hB : A ≤ B) : OwnFrom B (AllX c st w M A Ds co) := fun pre W W' row h hg hr => by
  rcases h with ⟨h1, h2⟩ | ⟨h1, h2, h3⟩
  · exact .inl ⟨h1, h2⟩
  · exact .inr ⟨h1, AllJ.own c st w M A Ds B hB pre W W' row h2 hg hr, h3⟩
theorem keepsO_of_below {W W' : World} (h : Below W.heap.size W W') : KeepsOthers W W' := ⟨h.size, fun k _ hk _ => (h.block k (Array.getElem?_eq_some_iff.1 hk).1).trans hk⟩

theorem keepsB_step {A : Nat} {W W5 : World} (hb : Below W.heap.size W W5) (u v : Value) : KeepsBut (fun j => j = A ∨ j = A + 1) W ((W5.setCell ⟨A + 1, 0, none⟩ u).setCell ⟨A, 0, none⟩ v) := by
  refine ⟨by have := hb.size; simpa using this, fun k o hk _ hp => ?_⟩
  rw [Below.heap_setCell _ _ _ _ (by show k ≠ A; omega), Below.heap_setCell _ _ _ _ (by show k ≠ A + 1; omega)]
  exact (hb.block k (Array.getElem?_eq_some_iff.1 hk).1).trans hk
theorem AllJ.step {c st : Int} {w : World} {M A : Nat} {Ds pre t : List Nat} {y : Nat} {W W5 : World} (h : AllJ c st w M A Ds pre W) (ht : pre ++ y :: t = Ch.cl c) (hb : Below W.heap.size W W5) :
    AllJ c st w M A Ds (pre ++ [y]) ((W5.setCell ⟨A + 1, 0, none⟩ (.int .i32 (y : Int))).setCell ⟨A, 0, none⟩ (.int .i64 ((pre.length : Int) + 1))) := by
  have hm := h.ma
  have hbg := h.base.big
  have hk : ∀ (k : Nat) (o : Obj), k < A → W.heap[k]? = some o → ((W5.setCell ⟨A + 1, 0, none⟩ (.int .i32 (y : Int))).setCell ⟨A, 0, none⟩ (.int .i64 ((pre.length : Int) + 1))).heap[k]? = some o := by
    intro k o h1 h2
    rw [Below.heap_setCell _ _ _ _ (by show k ≠ A; omega), Below.heap_setCell _ _ _ _ (by show k ≠ A + 1; omega)]
    exact (hb.block k (Array.getElem?_eq_some_iff.1 h2).1).trans h2
  have hA1 := (Array.getElem?_eq_some_iff.1 h.lst).1
  have hws := h.base.below.size
  refine ⟨⟨?_, hk _ _ (by omega) h.base.stop, hk _ _ (by omega) h.base.res, hk _ _ (by omega) h.base.cls, hbg, h.base.nod, fun D hD => ⟨(h.base.def_ D hD).1, hk _ _ (h.da D hD) (h.base.def_ D hD).2⟩⟩, ?_, ?_, ⟨t, by rw [← ht]; simp⟩, hm, h.da⟩
  · exact ((h.base.below.trans (hb.mono hws)).setCell (p := ⟨A + 1, 0, none⟩) (by show w.heap.size ≤ A + 1; omega) _).setCell (p := ⟨A, 0, none⟩) (by show w.heap.size ≤ A; omega) _
  · have e : (((pre ++ [y]).length : Nat) : Int) = (pre.length : Int) + 1 := by simp
    rw [e]
    exact Go.Joins.block_setCell (i := 0) ((Below.heap_setCell _ _ _ _ (by show A ≠ A + 1; omega)).trans ((hb.block A (by omega)).trans h.num)) _
  · rw [Ch.lastI_snoc, Below.heap_setCell _ _ _ _ (by show A + 1 ≠ A; omega)]
    exact Go.Joins.block_setCell (i := 0) ((hb.block (A + 1) hA1).trans h.lst) _

set_option maxRecDepth 100000 in
set_option maxHeartbeats 2000000 in
theorem lawAll_any (c s : Int) (w : World) (hS : Spans w) (hT : Lib.Utf8Tabs 1 2 w) :
    Calls Tryd.prog 7 #[.int .i64 c, .int .i64 s] w fun e w' => e = .returned (.bool true) ∧ Below w.heap.size w w' := by
  have cF : ∀ W, Below w.heap.size w W → _ := fun W hb => fixed_any W (hS.below hb (Nat.le_refl _)) (tabs_below hT hb (Nat.le_refl _))
  refine (callsIn_wide (n := 8)).1 ?_
  refine callsIn_of_wp_marks Tryd.func7 rfl trivial ?_ rfl
  simp only [Tryd.ntmps7, List.size_toArray, List.length_cons, List.length_nil, Nat.reduceAdd, Nat.reduceSub, Array.replicate_succ, Array.replicate_zero, List.push_toArray, List.append_toArray, List.nil_append, List.cons_append]
  gi_wp2_with fail
  refine ⟨trivial, ?_⟩
  obtain ⟨W0, hW0⟩ : ∃ W0, (w.alloc (.cells #[.int .i64 s] 3)).alloc (.cells #[.bool false] 4) = W0 := ⟨_, rfl⟩
  have hb0 : Below w.heap.size w W0 := by rw [← hW0]; exact ((Below.refl w.heap.size w).alloc (Nat.le_refl _) _).alloc (by simp) _
  have hs0 : W0.heap.size = w.heap.size + 2 := by rw [← hW0]; simp
  have hp0 : W0.heap[w.heap.size]? = some (.cells #[.int .i64 s] 3 (0, 0)) := by
    rw [← hW0, Below.heap_alloc _ _ _ (by simp)]
    exact World.alloc_heap_new w _
  have hp1 : W0.heap[w.heap.size + 1]? = some (.cells #[.bool false] 4 (0, 0)) := by
    rw [← hW0]
    have := World.alloc_heap_new (w.alloc (.cells #[.int .i64 s] 3)) (.cells #[.bool false] 4)
    rwa [World.size_alloc] at this
  rw [hW0]
  refine (callsIn_wide.2 (cF W0 hb0)).mono ?_
  rintro e W1 ⟨rfl, hb1⟩
  have hB1 := hb0.trans (hb1.mono hb0.size)
  have hs1 := hb1.size
  have hq0 := (hb1.block w.heap.size (by omega)).trans hp0
  have hq1 := (hb1.block (w.heap.size + 1) (by omega)).trans hp1
  have c0 : W1.cell? ⟨w.heap.size, 0, none⟩ = some (.int .i64 s) := by rw [Lib.cell_of_heap hq0]; rfl
  have f0 : W1.frozen? ⟨w.heap.size, 0, none⟩ = false := Lib.frozen_of_heap hq0 0
  clear hW0 cF hp0 hp1 hb0 hb1
  have hst : ∀ z : Int, 1 ≤ wrap64 (1 + wrap64 ((IntKind.u64.wrap z).tmod 2000)) ∧ wrap64 (1 + wrap64 ((IntKind.u64.wrap z).tmod 2000)) ≤ 2000 := by
    intro z
    have h0 : 0 ≤ IntKind.u64.wrap z := by rw [IntKind.wrap_u64]; omega
    have h1 : (IntKind.u64.wrap z).tmod 2000 = IntKind.u64.wrap z % 2000 := Int.tmod_eq_emod_of_nonneg h0
    rw [h1]
    generalize IntKind.u64.wrap z = y at *
    have h2 : wrap64 (y % 2000) = y % 2000 := by unfold wrap64; omega
    rw [h2]
    unfold wrap64
    omega
  have hst := hst s
  gi_wp2
  obtain ⟨st, hst'⟩ : ∃ st, wrap64 (1 + wrap64 ((IntKind.u64.wrap s).tmod 2000)) = st := ⟨_, rfl⟩
  rw [hst'] at hst
  rw [hst']
  clear hst'
  obtain ⟨M, hM⟩ : ∃ M, W1.heap.size = M := ⟨_, rfl⟩
  have hK0 : AllB c st w M [] ((W1.setCell ⟨w.heap.size, 0, none⟩ (.int .i64 st)).alloc (.cells #[.int .i64 c] 24)) := by
    subst hM
    refine ⟨(hB1.setCell (p := ⟨w.heap.size, 0, none⟩) (Nat.le_refl _) _).alloc (by simp; omega) _, ?_, ?_, ?_, by omega, List.nodup_nil, fun D h => by cases h⟩
    · rw [Below.heap_alloc _ _ _ (by simp; omega)]
      exact Go.Joins.block_setCell (i := 0) hq0 _
    · rw [Below.heap_alloc _ _ _ (by simp; omega), Below.heap_setCell _ _ _ _ (by show w.heap.size + 1 ≠ w.heap.size; omega)]
      exact hq1
    · have := World.alloc_heap_new (W1.setCell ⟨w.heap.size, 0, none⟩ (.int .i64 st)) (.cells #[.int .i64 c] 24)
      simpa using this
  rw [hM]
  generalize (W1.setCell ⟨w.heap.size, 0, none⟩ (.int .i64 st)).alloc (.cells #[.int .i64 c] 24) = W2 at *
  clear hB1 hs1 hq0 hq1 c0 f0 hM hs0
  obtain ⟨hst1, hst2⟩ := hst
  refine wpIn_loop (fun a W => ∃ (k : Nat) (Ds : List Nat) (u6 u7 u8 u9 u10 u11 u12 u13 u14 u15 u16 u17 u18 u20 u21 u22 u23 u24 u25 u26 u27 u28 u29 u30 u31 u32 u33 u34 u35 u36 u37 u38 u39 u40 u41 u42 u43 u44 u45 u46 u47 u48 u49 u50 u51 u52 u53 u54 : Value), k ≤ 2 ∧ a = { tmps := #[.int .i64 c, .int .i64 s, undef, .pointer (some ⟨w.heap.size, 0, none⟩), .pointer (some ⟨w.heap.size + 1, 0, none⟩), .pointer (some ⟨M, 0, none⟩), u6, u7, u8, u9, u10, u11, u12, u13, u14, u15, u16, u17, u18, .int .i64 (k : Int), u20, u21, u22, u23, u24, u25, u26, u27, u28, u29, u30, u31, u32, u33, u34, u35, u36, u37, u38, u39, u40, u41, u42, u43, u44, u45, u46, u47, u48, u49, u50, u51, u52, u53, u54], defers := colls Ds } ∧ AllB c st w M Ds W) (fun a _ => 2 - (intOf (a.tmps.getD 19 undef)).toNat) ?_ ?_
  · exact ⟨0, [], _, _, _, _, _, _, _, _, _, _, _, _, _, _, _, _, _, _, _, _, _, _, _, _, _, _, _, _, _, _, _, _, _, _, _, _, _, _, _, _, _, _, _, _, _, _, _, _, by omega, rfl, hK0⟩
  clear hK0 W2
  rintro a wr ⟨k, Ds, u6, u7, u8, u9, u10, u11, u12, u13, u14, u15, u16, u17, u18, u20, u21, u22, u23, u24, u25, u26, u27, u28, u29, u30, u31, u32, u33, u34, u35, u36, u37, u38, u39, u40, u41, u42, u43, u44, u45, u46, u47, u48, u49, u50, u51, u52, u53, u54, hk, rfl, hA⟩
  have cC : wr.cell? ⟨M, 0, none⟩ = some (.int .i64 c) := by rw [Lib.cell_of_heap hA.cls]; rfl
  by_cases hk2 : k < 2
  · have hki : (k : Int) < 2 := by omega
    have hMl : M < wr.heap.size := (Array.getElem?_eq_some_iff.1 hA.cls).1
    have hC3 : ((wr.alloc (.cells #[.int .i64 0] 3)).alloc (.cells #[.int .i32 (-1)] 21)).cell? ⟨M, 0, none⟩ = some (.int .i64 c) := by
      rw [Lib.cell_of_heap ((Below.heap_alloc _ _ _ (by simp; omega)).trans ((Below.heap_alloc _ _ _ hMl).trans hA.cls))]
      rfl
    gi_wp2_with fail
    refine ⟨trivial, ?_⟩
    refine (chAll_in Fence.wide _ trivial rfl _ _).mono ?_
    rintro e w' ⟨rfl, rfl⟩
    gi_wp2
    obtain ⟨W4, hW4⟩ : ∃ W4, ((wr.alloc (.cells #[.int .i64 0] 3)).alloc (.cells #[.int .i32 (-1)] 21)).alloc (.cells #[.int .i64 c] 24) = W4 := ⟨_, rfl⟩
    have hs4 : W4.heap.size = wr.heap.size + 3 := by rw [← hW4]; simp
    have hold : ∀ j, j < wr.heap.size → W4.heap[j]? = wr.heap[j]? := by
      intro j hj
      rw [← hW4, Below.heap_alloc _ _ _ (by simp; omega), Below.heap_alloc _ _ _ (by simp; omega), Below.heap_alloc _ _ _ hj]
    have hn4 : W4.heap[wr.heap.size]? = some (.cells #[.int .i64 0] 3 (0, 0)) := by
      rw [← hW4, Below.heap_alloc _ _ _ (by simp; omega), Below.heap_alloc _ _ _ (by simp)]
      exact World.alloc_heap_new wr _
    have hl4 : W4.heap[wr.heap.size + 1]? = some (.cells #[.int .i32 (-1)] 21 (0, 0)) := by
      rw [← hW4, Below.heap_alloc _ _ _ (by simp)]
      have := World.alloc_heap_new (wr.alloc (.cells #[.int .i64 0] 3)) (.cells #[.int .i32 (-1)] 21)
      rwa [World.size_alloc] at this
    have hb4 : W4.heap[wr.heap.size + 1 + 1]? = some (.cells #[.int .i64 c] 24 (0, 0)) := by
      rw [← hW4]
      have := World.alloc_heap_new ((wr.alloc (.cells #[.int .i64 0] 3)).alloc (.cells #[.int .i32 (-1)] 21)) (.cells #[.int .i64 c] 24)
      rwa [World.size_alloc, World.size_alloc] at this
    have hBel4 : Below w.heap.size w W4 := by rw [← hW4]; exact ((hA.below.alloc hA.below.size _).alloc (by have := hA.below.size; simp; omega) _).alloc (by have := hA.below.size; simp; omega) _
    rw [hW4]
    clear hW4 hC3
    have hbig := hA.big
    have hI0 : AllI c st w M wr.heap.size Ds [] W4 := by
      refine ⟨⟨⟨hBel4, (hold _ (by omega)).trans hA.stop, (hold _ (by omega)).trans hA.res, (hold _ hMl).trans hA.cls, hA.big, hA.nod, fun D hD => ?_⟩, hn4, hl4, List.nil_prefix, hMl, fun D hD => (Array.getElem?_eq_some_iff.1 (hA.def_ D hD).2).1⟩, by simp; omega⟩
      exact ⟨(hA.def_ D hD).1, (hold _ (Array.getElem?_eq_some_iff.1 (hA.def_ D hD).2).1).trans (hA.def_ D hD).2⟩
    have hbox : W4.cell? ⟨wr.heap.size + 1 + 1, 0, none⟩ = some (.int .i64 c) := by rw [Lib.cell_of_heap hb4]; rfl
    have hSN : SpansN (fun j => j = wr.heap.size ∨ j = wr.heap.size + 1) W4 := SpansN.of hS hBel4 (fun j hj => by omega)
    refine wpIn_rangeFunc_ownG rfl (by omega) (gf := 30) (lb := #[.pointer (some ⟨wr.heap.size + 1 + 1, 0, none⟩)]) rfl trivial (enters_of Tryd.func30 (by kernel_rfl) rfl)
      (chAll_stops Fence.wide 7 trivial trivial rfl rfl (by omega) (wr.heap.size + 1 + 1) c (fun j => j = wr.heap.size ∨ j = wr.heap.size + 1) W4 (fun j hj => by omega) hbox (by omega) hSN) (fun h k => h.trans k) (fun W l o o' _ h1 h2 _ => KeepsBut.putObj W l o o' h1 h2) (Below.refl _ _) (fun _ => rfl)
      (AllI c st w M wr.heap.size Ds) (AllX c st w M wr.heap.size Ds) (AllI.own c st w M wr.heap.size Ds _ (by omega)) (fun co => AllX.own c st w M wr.heap.size Ds co _ (by omega)) hI0
      (fun x => { tmps := #[.int .i64 c, .int .i64 s, undef, .pointer (some ⟨w.heap.size, 0, none⟩), .pointer (some ⟨w.heap.size + 1, 0, none⟩), .pointer (some ⟨M, 0, none⟩), .pointer (some ⟨wr.heap.size, 0, none⟩), .pointer (some ⟨wr.heap.size + 1, 0, none⟩), .int .i32 (x : Int), u9, u10, u11, u12, u13, u14, u15, u16, u17, u18, .int .i64 (k : Int), .bool true, .int .i64 c, .func (.func 30) #[] #[.pointer (some ⟨wr.heap.size + 1 + 1, 0, none⟩)], .int .i32 (x : Int), u24, u25, u26, u27, u28, u29, u30, u31, u32, u33, u34, u35, u36, u37, u38, u39, u40, u41, u42, u43, u44, u45, u46, u47, u48, u49, u50, u51, u52, u53, u54], defers := [] }) ?assign ?body ?done ?stop
    case assign =>
      intro l x W K hK
      simp only [Ch.encR]
      gi_wp2
      exact hK
    case body =>
      rintro l pre x W ⟨hJ, hlt⟩ _
      obtain ⟨t, ht⟩ := hJ.okp
      have cX := chNext_any c (Ch.lastI pre) W (hS.below hJ.base.below (Nat.le_refl _)) (by have := Ch.lastI_low pre; omega)
      rw [Ch.nextT_eq, show Ch.pick Ch.tab c = Ch.rg c from rfl, Ch.next_pre c pre t ht] at cX
      have cM : W.cell? ⟨M, 0, none⟩ = some (.int .i64 c) := by rw [Lib.cell_of_heap hJ.base.cls]; rfl
      have cL : W.cell? ⟨wr.heap.size + 1, 0, none⟩ = some (.int .i32 (Ch.lastI pre)) := by rw [Lib.cell_of_heap hJ.lst]; rfl
      have hA1 := (Array.getElem?_eq_some_iff.1 hJ.lst).1
      have hR : ∀ W5, Below W.heap.size W W5 → W5.cell? ⟨w.heap.size + 1, 0, none⟩ = some (.bool false) ∧ W5.frozen? ⟨w.heap.size + 1, 0, none⟩ = false := fun W5 hb => by
        have h := (hb.block (w.heap.size + 1) (by omega)).trans hJ.base.res
        exact ⟨by rw [Lib.cell_of_heap h]; rfl, Lib.frozen_of_heap h 0⟩
      obtain ⟨L, hL⟩ : ∃ L : Int, (pre.length : Int) = L := ⟨_, rfl⟩
      have hstep := fun (y : Nat) (t : List Nat) (W5 : World) (h1 : pre ++ y :: t = Ch.cl c) (h2 : Below W.heap.size W W5) => AllJ.step (y := y) (t := t) hJ h1 h2
      rw [hL] at hlt
      simp only [hL] at hstep
      cases t with
      | nil =>
        rw [Ch.hd2_nil] at cX
        have hnp := hide' (Ch.not_pre_end c pre x (by rw [← ht]; simp))
        clear ht hI0 hold hSN hbox hstep
        gi_wp2_with fail
        refine ⟨trivial, ?_⟩
        refine (CallsIn.inRound l (callsIn_wide.2 cX)).mono ?_
        rintro e W5 ⟨rfl, hb5⟩
        obtain ⟨cR, fR⟩ := hR W5 hb5
        clear cX hR
        gi_wp2
        exact ⟨((keepsO_of_below hb5).trans (KeepsOthers.setCell _ _ _)).from _, .inl ⟨rfl, hnp.out⟩⟩
      | cons y t' =>
        rw [Ch.hd2_cons] at cX
        by_cases hxy : x = y
        · subst hxy
          have hxx : ((x : Int) != (x : Int)) = false := by simp
          have hJ7 := fun W5 hb => hstep x t' W5 ht hb
          have hn5 : ∀ W5, Below W.heap.size W W5 → W5.heap[wr.heap.size]? = some (.cells #[.int .i64 L] 3 (0, 0)) ∧ W5.heap[wr.heap.size + 1]? = some (.cells #[.int .i32 (Ch.lastI pre)] 21 (0, 0)) ∧ W5.heap[w.heap.size]? = some (.cells #[.int .i64 st] 3 (0, 0)) := fun W5 hb => by
            rw [← hL]
            exact ⟨(hb.block _ (by omega)).trans hJ.num, (hb.block _ hA1).trans hJ.lst, (hb.block _ (by omega)).trans hJ.base.stop⟩
          have hlen : (((pre ++ [x]).length : Nat) : Int) = L + 1 := by rw [← hL]; simp
          have HLEN := hide' hlen
          have hL0 : 0 ≤ L := by omega
          have HL := hide' hL
          have hge : ¬ st ≤ L := by omega
          clear ht hI0 hold hSN hbox hstep hR hL hlen
          by_cases hend : st ≤ L + 1
          all_goals
            gi_wp2_with fail
            refine ⟨trivial, ?_⟩
            refine (CallsIn.inRound l (callsIn_wide.2 cX)).mono ?_
            rintro e W5 ⟨rfl, hb5⟩
            obtain ⟨k1, k2, k3⟩ := hn5 W5 hb5
            have e7 := hJ7 W5 hb5
            have q1 : W5.cell? ⟨wr.heap.size, 0, none⟩ = some (.int .i64 L) := by rw [Lib.cell_of_heap k1]; rfl
            have q2 : W5.cell? ⟨w.heap.size, 0, none⟩ = some (.int .i64 st) := by rw [Lib.cell_of_heap k3]; rfl
            have q3 : W5.cell? ⟨wr.heap.size + 1, 0, none⟩ = some (.int .i32 (Ch.lastI pre)) := by rw [Lib.cell_of_heap k2]; rfl
            have q4 : W5.frozen? ⟨wr.heap.size + 1, 0, none⟩ = false := Lib.frozen_of_heap k2 0
            have k6 := (Below.heap_setCell W5 ⟨wr.heap.size + 1, 0, none⟩ (.int .i32 (x : Int)) wr.heap.size (by show wr.heap.size ≠ wr.heap.size + 1; omega)).trans k1
            have q5 : (W5.setCell ⟨wr.heap.size + 1, 0, none⟩ (.int .i32 (x : Int))).cell? ⟨wr.heap.size, 0, none⟩ = some (.int .i64 L) := by rw [Lib.cell_of_heap k6]; rfl
            have q6 : (W5.setCell ⟨wr.heap.size + 1, 0, none⟩ (.int .i32 (x : Int))).frozen? ⟨wr.heap.size, 0, none⟩ = false := Lib.frozen_of_heap k6 0
            have q7 : ((W5.setCell ⟨wr.heap.size + 1, 0, none⟩ (.int .i32 (x : Int))).setCell ⟨wr.heap.size, 0, none⟩ (.int .i64 (L + 1))).cell? ⟨wr.heap.size, 0, none⟩ = some (.int .i64 (L + 1)) := by rw [Lib.cell_of_heap (Go.Joins.block_setCell (i := 0) k6 _)]; rfl
            have q8 : ((W5.setCell ⟨wr.heap.size + 1, 0, none⟩ (.int .i32 (x : Int))).setCell ⟨wr.heap.size, 0, none⟩ (.int .i64 (L + 1))).cell? ⟨w.heap.size, 0, none⟩ = some (.int .i64 st) := by rw [Lib.cell_of_heap e7.base.stop]; rfl
            have hO7 : KeepsOthers W ((W5.setCell ⟨wr.heap.size + 1, 0, none⟩ (.int .i32 (x : Int))).setCell ⟨wr.heap.size, 0, none⟩ (.int .i64 (L + 1))) := ((keepsO_of_below hb5).trans (KeepsOthers.setCell _ _ _)).trans (KeepsOthers.setCell _ _ _)
            have hKB := keepsB_step (A := wr.heap.size) hb5 (.int .i32 (x : Int)) (.int .i64 (L + 1))
            clear cX hJ7 hn5 k1 k2 k3 k6
          · gi_wp2
            exact ⟨hO7.from _, .inr ⟨rfl, e7, by rw [HLEN.out]; omega⟩⟩
          · gi_wp2
            exact ⟨hO7.from _, hKB, e7, by rw [HLEN.out]; omega⟩
        · have hnp := hide' (Ch.not_pre_other c pre t' x y ht hxy)
          have hxx : ((x : Int) != (y : Int)) = true := by simp; omega
          clear ht hI0 hold hSN hbox hstep hxy
          gi_wp2_with fail
          refine ⟨trivial, ?_⟩
          refine (CallsIn.inRound l (callsIn_wide.2 cX)).mono ?_
          rintro e W5 ⟨rfl, hb5⟩
          obtain ⟨cR, fR⟩ := hR W5 hb5
          clear cX hR
          gi_wp2
          exact ⟨((keepsO_of_below hb5).trans (KeepsOthers.setCell _ _ _)).from _, .inl ⟨rfl, hnp.out⟩⟩
    case done =>
      rintro D ys W hD rfl ⟨hJ, hlt⟩ hK
      have cCnt := count_any c 2147483647 W.drew (hS.below hJ.base.below.drew (Nat.le_refl _)) (by omega) (by omega)
      rw [Ch.countT_eq, show Ch.pick Ch.tab c = Ch.rg c from rfl, Ch.count_all (Ch.rg_rise c), show Ch.fl (Ch.rg c) = Ch.cl c from rfl] at cCnt
      have q1 : W.cell? ⟨wr.heap.size, 0, none⟩ = some (.int .i64 ((Ch.cl c).length : Int)) := by rw [Lib.cell_of_heap hJ.num]; rfl
      have q2 : W.cell? ⟨w.heap.size, 0, none⟩ = some (.int .i64 st) := by rw [Lib.cell_of_heap hJ.base.stop]; rfl
      have q3 : W.cell? ⟨M, 0, none⟩ = some (.int .i64 c) := by rw [Lib.cell_of_heap hJ.base.cls]; rfl
      have hA0 := (Array.getElem?_eq_some_iff.1 hJ.num).1
      have hD0 := (Array.getElem?_eq_some_iff.1 hK).1
      have hkept : ∀ W5, Below W.drew.heap.size W.drew W5 → ∀ j, j < W.heap.size → W5.heap[j]? = W.heap[j]? := fun W5 hb j hj => hb.block j hj
      have hcell : ∀ W5, Below W.drew.heap.size W.drew W5 → W5.cell? ⟨wr.heap.size, 0, none⟩ = some (.int .i64 ((Ch.cl c).length : Int)) ∧ W5.cell? ⟨w.heap.size, 0, none⟩ = some (.int .i64 st) ∧ W5.cell? ⟨M, 0, none⟩ = some (.int .i64 c) := fun W5 hb => by
        refine ⟨?_, ?_, ?_⟩
        · rw [Lib.cell_of_heap ((hkept W5 hb _ hA0).trans hJ.num)]; rfl
        · rw [Lib.cell_of_heap ((hkept W5 hb _ (by omega)).trans hJ.base.stop)]; rfl
        · rw [Lib.cell_of_heap ((hkept W5 hb _ (by omega)).trans hJ.base.cls)]; rfl
      have hfin : ∀ W5, Below W.drew.heap.size W.drew W5 → AllB c st w M (D :: Ds) W5 := fun W5 hb => by
        refine ⟨hJ.base.below.drew.trans (hb.mono hJ.base.below.drew.size), (hkept W5 hb _ (by omega)).trans hJ.base.stop, (hkept W5 hb _ (by omega)).trans hJ.base.res, (hkept W5 hb _ (by omega)).trans hJ.base.cls, hJ.base.big, List.nodup_cons.2 ⟨fun h => by have := hJ.da D h; omega, hJ.base.nod⟩, fun E hE => ?_⟩
        rcases List.mem_cons.1 hE with rfl | hE
        · exact ⟨by omega, (hkept W5 hb _ hD0).trans hK⟩
        · exact ⟨(hJ.base.def_ E hE).1, (hkept W5 hb _ (by have := hJ.da E hE; omega)).trans (hJ.base.def_ E hE).2⟩
      obtain ⟨L, hL⟩ : ∃ L : Int, ((Ch.cl c).length : Int) = L := ⟨_, rfl⟩
      obtain ⟨C, hC⟩ : ∃ C : Int, ((Ch.cl c).length : Int) = C := ⟨_, rfl⟩
      simp only [hL] at q1 hcell
      rw [hC] at cCnt
      have hmin : L = min st C := by omega
      clear hI0 hold hSN hbox hkept hL hC
      gi_wp2
      refine wpIn_wide.2 ?_
      go_region_held3 (fun w' => w'.cell? ⟨wr.heap.size, 0, none⟩ = some (.int .i64 L) ∧ w'.cell? ⟨w.heap.size, 0, none⟩ = some (.int .i64 st) ∧ w'.cell? ⟨M, 0, none⟩ = some (.int .i64 c)) (first | go_keep | exact ⟨g1, g2, g3⟩)
        (first | (go_at_call 14; refine cCnt.mono ?_; rintro e W5 ⟨rfl, hb5⟩; obtain ⟨g1, g2, g3⟩ := hcell W5 hb5))
      have hf5 := hfin W5 hb5
      clear cCnt hcell hfin g1 g2 g3 q1 q2 q3 hmin
      gi_wp2
      refine ⟨⟨k + 1, D :: Ds, _, _, _, _, _, _, _, _, _, _, _, _, _, _, _, _, _, _, _, _, _, _, _, _, _, _, _, _, _, _, _, _, _, _, _, _, _, _, _, _, _, _, _, _, _, _, _, _, by omega, rfl, hf5⟩, ?_⟩
      simp [intOf]
      omega
    case stop =>
      rintro D co pre W hD hpre hX hK
      rcases hX with ⟨_, hn⟩ | ⟨rfl, hJ, hlt⟩
      · exact absurd hpre hn
      have hle := hpre.length_le
      have cCnt := count_any c 2147483647 W.drew (hS.below hJ.base.below.drew (Nat.le_refl _)) (by omega) (by omega)
      rw [Ch.countT_eq, show Ch.pick Ch.tab c = Ch.rg c from rfl, Ch.count_all (Ch.rg_rise c), show Ch.fl (Ch.rg c) = Ch.cl c from rfl] at cCnt
      have q1 : W.cell? ⟨wr.heap.size, 0, none⟩ = some (.int .i64 (pre.length : Int)) := by rw [Lib.cell_of_heap hJ.num]; rfl
      have q2 : W.cell? ⟨w.heap.size, 0, none⟩ = some (.int .i64 st) := by rw [Lib.cell_of_heap hJ.base.stop]; rfl
      have q3 : W.cell? ⟨M, 0, none⟩ = some (.int .i64 c) := by rw [Lib.cell_of_heap hJ.base.cls]; rfl
      have hA0 := (Array.getElem?_eq_some_iff.1 hJ.num).1
      have hD0 := (Array.getElem?_eq_some_iff.1 hK).1
      have hkept : ∀ W5, Below W.drew.heap.size W.drew W5 → ∀ j, j < W.heap.size → W5.heap[j]? = W.heap[j]? := fun W5 hb j hj => hb.block j hj
      have hcell : ∀ W5, Below W.drew.heap.size W.drew W5 → W5.cell? ⟨wr.heap.size, 0, none⟩ = some (.int .i64 (pre.length : Int)) ∧ W5.cell? ⟨w.heap.size, 0, none⟩ = some (.int .i64 st) ∧ W5.cell? ⟨M, 0, none⟩ = some (.int .i64 c) := fun W5 hb => by
        refine ⟨?_, ?_, ?_⟩
        · rw [Lib.cell_of_heap ((hkept W5 hb _ hA0).trans hJ.num)]; rfl
        · rw [Lib.cell_of_heap ((hkept W5 hb _ (by omega)).trans hJ.base.stop)]; rfl
        · rw [Lib.cell_of_heap ((hkept W5 hb _ (by omega)).trans hJ.base.cls)]; rfl
      have hfin : ∀ W5, Below W.drew.heap.size W.drew W5 → AllB c st w M (D :: Ds) W5 := fun W5 hb => by
        refine ⟨hJ.base.below.drew.trans (hb.mono hJ.base.below.drew.size), (hkept W5 hb _ (by omega)).trans hJ.base.stop, (hkept W5 hb _ (by omega)).trans hJ.base.res, (hkept W5 hb _ (by omega)).trans hJ.base.cls, hJ.base.big, List.nodup_cons.2 ⟨fun h => by have := hJ.da D h; omega, hJ.base.nod⟩, fun E hE => ?_⟩
        rcases List.mem_cons.1 hE with rfl | hE
        · exact ⟨by omega, (hkept W5 hb _ hD0).trans hK⟩
        · exact ⟨(hJ.base.def_ E hE).1, (hkept W5 hb _ (by have := hJ.da E hE; omega)).trans (hJ.base.def_ E hE).2⟩
      obtain ⟨L, hL⟩ : ∃ L : Int, (pre.length : Int) = L := ⟨_, rfl⟩
      obtain ⟨C, hC⟩ : ∃ C : Int, ((Ch.cl c).length : Int) = C := ⟨_, rfl⟩
      simp only [hL] at q1 hcell
      rw [hC] at cCnt
      have hmin : L = min st C := by omega
      clear hI0 hold hSN hbox hkept hL hC
      gi_wp2
      refine wpIn_wide.2 ?_
      go_region_held3 (fun w' => w'.cell? ⟨wr.heap.size, 0, none⟩ = some (.int .i64 L) ∧ w'.cell? ⟨w.heap.size, 0, none⟩ = some (.int .i64 st) ∧ w'.cell? ⟨M, 0, none⟩ = some (.int .i64 c)) (first | go_keep | exact ⟨g1, g2, g3⟩)
        (first | (go_at_call 14; refine cCnt.mono ?_; rintro e W5 ⟨rfl, hb5⟩; obtain ⟨g1, g2, g3⟩ := hcell W5 hb5))
      have hf5 := hfin W5 hb5
      clear cCnt hcell hfin g1 g2 g3 q1 q2 q3 hmin
      gi_wp2
      refine ⟨⟨k + 1, D :: Ds, _, _, _, _, _, _, _, _, _, _, _, _, _, _, _, _, _, _, _, _, _, _, _, _, _, _, _, _, _, _, _, _, _, _, _, _, _, _, _, _, _, _, _, _, _, _, _, _, by omega, rfl, hf5⟩, ?_⟩
      simp [intOf]
      omega
  · have hki : ¬ (k : Int) < 2 := by omega
    have cR : wr.cell? ⟨w.heap.size + 1, 0, none⟩ = some (.bool false) := by rw [Lib.cell_of_heap hA.res]; rfl
    have fR : wr.frozen? ⟨w.heap.size + 1, 0, none⟩ = false := Lib.frozen_of_heap hA.res 0
    gi_wp2
    have hbg := hA.big
    refine leaves_all w (w.heap.size + 1) (by omega) _ rfl Ds _ hA.nod (fun D hD => ?_) (Go.Joins.block_setCell (i := 0) hA.res _) (hA.below.setCell (p := ⟨w.heap.size + 1, 0, none⟩) (by show w.heap.size ≤ w.heap.size + 1; omega) _)
    obtain ⟨d1, d2⟩ := hA.def_ D hD
    exact ⟨by omega, (Below.heap_setCell _ _ _ _ (by show D ≠ w.heap.size + 1; omega)).trans d2⟩
end Go.Proofs.YtploppaocpbnlaaDoor
