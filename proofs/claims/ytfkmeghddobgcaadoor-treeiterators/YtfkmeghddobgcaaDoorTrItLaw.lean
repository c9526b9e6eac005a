/-
  THE WALK over gimletlaw09.TreeIterators.
-/
import Derived.Test.YtfkmeghddobgcaaDoorTrAlong
import Derived.Test.YtfkmeghddobgcaaDoorTrAwake
import Derived.Test.YtfkmeghddobgcaaDoorTrCopied
import Derived.Laws.EntriesVeiled
namespace Go.Proofs.YtfkmeghddobgcaaDoor
open Go.RowKit Go.Shelf Go.Lib
attribute [local go_sem] Oper.semAt_some
namespace Tr
/-- a box that collects, all else below M as it was in W1 -/
structure CJ (N M : Nat) {a b : Int} (W1 : World) (pre : List (Num a b)) (W : World) : Prop where
  bel : Below N W1 W
  same : ∀ k, k < M → k ≠ N → W.heap[k]? = W1.heap[k]?
  box : ∃ v, Boxed W N 52 v ∧ W.ownsRow M 3 1 v pre.length (ic (vals pre)) ∧ True
  lt : N < M
  le : M ≤ W.heap.size
theorem CJ.own (N M : Nat) {a b : Int} (W1 : World) (B : Nat) (hB : M ≤ B) : OwnFrom B (CJ N M (a := a) (b := b) W1) := by
  intro pre W W' row h hg hr
  have h1 := h.lt
  have h2 := h.le
  refine ⟨?_, fun k hk hn => ?_, ?_, h.lt, Nat.le_trans h.le hg.size⟩
  · exact h.bel.trans ⟨hg.os, hg.tape, hg.output, hg.size, fun k hk' => hg.block k (by omega) (fun e => by have := (hr k e.symm).1; omega)⟩
  · exact (hg.block k (by omega) (fun e => by have := (hr k e.symm).1; omega)).trans (h.same k hk hn)
  · exact holdsRow_own (β := List (Num a b)) M N 52 3 1 (fun s => s.length) (fun s => ic (vals s)) (fun _ _ => True) pre W W' row h.box hg (fun r e => (hr r e).2)
theorem CJ.app {N M : Nat} {a b : Int} {W1 W w3 : World} {pre : List (Num a b)} {x : Num a b} {p : Option Addr} {cap g' cap' : Nat} (h : CJ N M W1 pre W) (hv : Boxed W N 52 (.slice p pre.length cap)) (hrow : W.ownsRow M 3 1 (.slice p pre.length cap) pre.length (ic (vals pre)))
    (hown' : w3.ownsRow M 3 1 (.slice (some ⟨g', 0, none⟩) (pre.length + 1) cap') (pre.length + 1) (ic (vals pre) ++ [.int .i64 x.1])) (hg3 : (W.alloc (.cells #[.int .i64 x.1] 3)).grownBy w3 (Value.slice p pre.length cap).ownBlock) :
    Boxed w3 N 52 (.slice p pre.length cap) ∧ CJ N M W1 (pre ++ [x]) (w3.setCell ⟨N, 0, none⟩ (.slice (some ⟨g', 0, none⟩) (pre.length + 1) cap')) ∧ KeepsOthers W (w3.setCell ⟨N, 0, none⟩ (.slice (some ⟨g', 0, none⟩) (pre.length + 1) cap')) ∧ (∀ k, k < M → k ≠ N → (w3.setCell ⟨N, 0, none⟩ (.slice (some ⟨g', 0, none⟩) (pre.length + 1) cap')).heap[k]? = W.heap[k]?) := by
  have hlt := h.lt
  have hle := h.le
  obtain ⟨hv3, hv4, _, hko, hbl⟩ := hv.appended (n₀ := N) (by decide) (owns_base hrow (by omega)) (by omega) (Nat.le_refl _) (owns_base hown' (by omega)) hg3
  have hrow4 := hown'.kept (grownBy_setCell' w3 N (.slice (some ⟨g', 0, none⟩) (pre.length + 1) cap')) (.inr (hv3.not_row (by decide) hown').symm)
  have hsm : ∀ k, k < M → k ≠ N → (w3.setCell ⟨N, 0, none⟩ (.slice (some ⟨g', 0, none⟩) (pre.length + 1) cap')).heap[k]? = W.heap[k]? := fun k h1 h2 => by
    rw [Below.heap_setCell _ _ _ _ h2, hg3.block k (by simp; omega) (fun e => by have := (hrow.lt k e.symm).1; omega), Below.heap_alloc _ _ _ (by omega)]
  refine ⟨hv3, ⟨h.bel.trans hbl, fun k h1 h2 => (hsm k h1 h2).trans (h.same k h1 h2), ⟨_, hv4, ?_, trivial⟩, hlt, Nat.le_trans hle hko.size⟩, hko, hsm⟩
  rw [vals_snoc, ic_app, List.length_append]
  exact hrow4
/-- a box that counts, all else as it was in W1 -/
structure KJ (N : Nat) {a b : Int} (W1 : World) (pre : List (Num a b)) (W : World) : Prop where
  bel : Below N W1 W
  same : ∀ k, k < W1.heap.size → k ≠ N → W.heap[k]? = W1.heap[k]?
  box : Boxed W N 3 (.int .i64 pre.length)
  pre : pre <+: numS a b
  le : W1.heap.size ≤ W.heap.size
  lt : N < W1.heap.size
theorem KJ.own (N : Nat) {a b : Int} (W1 : World) (B : Nat) (hB : W1.heap.size ≤ B) : OwnFrom B (KJ N (a := a) (b := b) W1) := by
  intro pre W W' row h hg hr
  have h2 := h.le
  have h3 := h.lt
  refine ⟨?_, fun k hk hn => ?_, ?_, h.pre, Nat.le_trans h.le hg.size, h.lt⟩
  · exact h.bel.trans ⟨hg.os, hg.tape, hg.output, hg.size, fun k hk' => hg.block k (by omega) (fun e => by have := (hr k e.symm).1; omega)⟩
  · exact (hg.block k (by omega) (fun e => by have := (hr k e.symm).1; omega)).trans (h.same k hk hn)
  · exact kept_cells hg (fun r e => (hr r e).2) h.box rfl
/-- the boxes of TreeIterators -/
structure TI (w : World) (M nd : Nat) (W : World) : Prop where
  bel : Below w.heap.size w W
  res : Boxed W w.heap.size 4 (.bool false)
  bf : Boxed W M 3 (.int .i64 (-1))
  be : Boxed W (M + 1) 3 (.int .i64 (nd : Nat))
  all : Boxed W (M + 1 + 1) 57 (.func (.func 52) #[] #[.pointer (some ⟨M, 0, none⟩), .pointer (some ⟨M + 1, 0, none⟩)])
  low : w.heap.size < M
theorem TI.go {w W1 W : World} {M nd N M' : Nat} {a b : Int} {pre : List (Num a b)} (h : TI w M nd W1) (hc : CJ N M' W1 pre W) (hN : M + 1 + 1 < N) : TI w M nd W := by
  have h0 := h.low
  have h1 := hc.lt
  have k : ∀ j, j < N → W.heap[j]? = W1.heap[j]? := fun j hj => hc.same j (by omega) (by omega)
  exact ⟨h.bel.trans (hc.bel.mono (by omega)), (k _ (by omega)).trans h.res, (k _ (by omega)).trans h.bf, (k _ (by omega)).trans h.be, (k _ (by omega)).trans h.all, h.low⟩
theorem it_start (w w4 : World) (nd : Nat) (hb : Below w.heap.size w w4) (hr : Boxed w4 w.heap.size 4 (.bool false)) {W5 : World} (h : ((((((w4.alloc (.cells #[.int .i64 (-1)] 3)).alloc (.cells #[.int .i64 (nd : Nat)] 3)).alloc (.cells #[.func (.func 52) #[] #[.pointer (some ⟨w4.heap.size, 0, none⟩), .pointer (some ⟨w4.heap.size + 1, 0, none⟩)]] 57)).alloc (.cells #[.slice none 0 0] 52)).alloc (.cells #[.slice none 0 0] 52)).alloc (.cells #[.slice none 0 0] 52)) = W5) :
    TI w w4.heap.size nd W5 ∧ W5.heap.size = w4.heap.size + 6 ∧ ∀ j, j < 3 → Boxed W5 (w4.heap.size + 1 + 1 + 1 + j) 52 (.slice none 0 0) := by
  subst h
  obtain ⟨a1, ha1⟩ : ∃ a1, w4.alloc (.cells #[.int .i64 (-1)] 3) = a1 := ⟨_, rfl⟩
  have z1 : a1.heap.size = w4.heap.size + 1 := by rw [← ha1]; simp
  have b1 : Boxed a1 w4.heap.size 3 (.int .i64 (-1)) := by rw [← ha1]; exact Boxed.new _ _ _
  have r1 : Boxed a1 w.heap.size 4 (.bool false) := by rw [← ha1]; exact hr.alloc _
  have l1 : Below w.heap.size w a1 := by rw [← ha1]; exact hb.alloc hb.size _
  rw [ha1]
  clear ha1
  obtain ⟨a2, ha2⟩ : ∃ a2, a1.alloc (.cells #[.int .i64 (nd : Nat)] 3) = a2 := ⟨_, rfl⟩
  have z2 : a2.heap.size = w4.heap.size + 1 + 1 := by rw [← ha2]; simp [z1]
  have b2 : Boxed a2 (w4.heap.size + 1) 3 (.int .i64 (nd : Nat)) := by rw [← ha2, ← z1]; exact Boxed.new _ _ _
  have b1 : Boxed a2 w4.heap.size 3 (.int .i64 (-1)) := by rw [← ha2]; exact b1.alloc _
  have r1 : Boxed a2 w.heap.size 4 (.bool false) := by rw [← ha2]; exact r1.alloc _
  have l1 : Below w.heap.size w a2 := by rw [← ha2]; exact l1.alloc l1.size _
  rw [ha2]
  clear ha2
  obtain ⟨a3, ha3⟩ : ∃ a3, a2.alloc (.cells #[.func (.func 52) #[] #[.pointer (some ⟨w4.heap.size, 0, none⟩), .pointer (some ⟨w4.heap.size + 1, 0, none⟩)]] 57) = a3 := ⟨_, rfl⟩
  have z3 : a3.heap.size = w4.heap.size + 1 + 1 + 1 := by rw [← ha3]; simp [z2]
  have b3 : Boxed a3 (w4.heap.size + 1 + 1) 57 (.func (.func 52) #[] #[.pointer (some ⟨w4.heap.size, 0, none⟩), .pointer (some ⟨w4.heap.size + 1, 0, none⟩)]) := by rw [← ha3, ← z2]; exact Boxed.new _ _ _
  have b2 : Boxed a3 (w4.heap.size + 1) 3 (.int .i64 (nd : Nat)) := by rw [← ha3]; exact b2.alloc _
  have b1 : Boxed a3 w4.heap.size 3 (.int .i64 (-1)) := by rw [← ha3]; exact b1.alloc _
  have r1 : Boxed a3 w.heap.size 4 (.bool false) := by rw [← ha3]; exact r1.alloc _
  have l1 : Below w.heap.size w a3 := by rw [← ha3]; exact l1.alloc l1.size _
  rw [ha3]
  clear ha3
  have c1 : Boxed (a3.alloc (.cells #[.slice none 0 0] 52)) (w4.heap.size + 1 + 1 + 1) 52 (.slice none 0 0) := by rw [← z3]; exact Boxed.new _ _ _
  have c2 : Boxed ((a3.alloc (.cells #[.slice none 0 0] 52)).alloc (.cells #[.slice none 0 0] 52)) (w4.heap.size + 1 + 1 + 1 + 1) 52 (.slice none 0 0) := by
    have := Boxed.new (a3.alloc (.cells #[.slice none 0 0] 52)) 52 (.slice none 0 0)
    rwa [World.size_alloc, z3] at this
  have c3 : Boxed (((a3.alloc (.cells #[.slice none 0 0] 52)).alloc (.cells #[.slice none 0 0] 52)).alloc (.cells #[.slice none 0 0] 52)) (w4.heap.size + 1 + 1 + 1 + 1 + 1) 52 (.slice none 0 0) := by
    have := Boxed.new ((a3.alloc (.cells #[.slice none 0 0] 52)).alloc (.cells #[.slice none 0 0] 52)) 52 (.slice none 0 0)
    rwa [World.size_alloc, World.size_alloc, z3] at this
  have hl := l1.size
  refine ⟨⟨((l1.alloc hl _).alloc (by simp; omega) _).alloc (by simp; omega) _, ((r1.alloc _).alloc _).alloc _, ((b1.alloc _).alloc _).alloc _, ((b2.alloc _).alloc _).alloc _, ((b3.alloc _).alloc _).alloc _, hr.lt⟩, by simp; omega, fun j hj => ?_⟩
  match j, hj with
  | 0, _ => exact (c1.alloc _).alloc _
  | 1, _ => exact c2.alloc _
  | 2, _ => exact c3
/-- where a loop begins with nothing -/
theorem cj_start {a b : Int} {W : World} {N : Nat} (h : Boxed W N 52 (.slice none 0 0)) : CJ N W.heap.size W ([] : List (Num a b)) W :=
  ⟨Below.refl _ _, fun _ _ _ => rfl, ⟨_, h, ⟨rfl, .inl ⟨rfl, rfl⟩⟩, trivial⟩, h.lt, Nat.le_refl _⟩
theorem results_cellB {P : Program} {fn : Func} {p : Tmp} {t : TypeId} (h : fn.results = #[.cell p t]) (tmps : Array Value) (w : World) (a : Addr) (x : Value)
    (hp : tmps.getD p undef = .pointer (some a)) (ha : w.cell? a = some x) (ht : P.underlying t = some .bool) :
    (results fn tmps).run P w = .ok x w := by
  have hp' : tmps[p]?.getD undef = .pointer (some a) := by simpa using hp
  simp [results, h, hp', asAddr, loadVar, isAgg, underlying, ht, ha, Result.andThen]
/-- a count behind a collected box -/
theorem CJ.thru {N M : Nat} {a b a' b' : Int} {W1 W2 W : World} {pre : List (Num a b)} {ys : List (Num a' b')} (h : CJ N M W1 pre W2) (o : Obj) (k : KJ W2.heap.size (W2.alloc o) ys W) : CJ N M W1 pre W := by
  have h1 := h.lt
  have h2 := h.le
  have hz : (W2.alloc o).heap.size = W2.heap.size + 1 := World.size_alloc _ _
  have hs : ∀ j, j < W2.heap.size → W.heap[j]? = W2.heap[j]? := fun j hj => (k.same j (by omega) (by omega)).trans (Below.heap_alloc _ _ _ hj)
  refine ⟨?_, fun j hj hn => (hs j (by omega)).trans (h.same j hj hn), ?_, h.lt, by have := k.le; omega⟩
  · exact h.bel.trans ((((Below.refl W2.heap.size W2).alloc (Nat.le_refl _) o).trans k.bel).mono (by omega))
  · obtain ⟨v, hv, hr, _⟩ := h.box
    exact ⟨v, (hs N (by omega)).trans hv, owns_block hr (fun g _ hl => hs g hl), trivial⟩
theorem KJ.keeps {W W2 Wf : World} {N : Nat} {a' b' : Int} {ys : List (Num a' b')} {o : Obj} (h : KeepsOthers W W2) (hN : N = W2.heap.size) (k : KJ N (W2.alloc o) ys Wf) : KeepsOthers W Wf := by
  have hz : (W2.alloc o).heap.size = W2.heap.size + 1 := World.size_alloc _ _
  refine ⟨Nat.le_trans h.size (by have := k.le; omega), fun j ob hj ho => ?_⟩
  have h1 := h.same j ob hj ho
  have h2 : j < W2.heap.size := (Array.getElem?_eq_some_iff.1 h1).1
  exact (k.same j (by omega) (by omega)).trans ((Below.heap_alloc _ _ _ h2).trans h1)
theorem KJ.step {N : Nat} {a b : Int} {W1 W : World} {pre : List (Num a b)} (h : KJ N W1 pre W) (y : Num a b) (hy : pre ++ [y] <+: numS a b) : KJ N W1 (pre ++ [y]) (W.setCell ⟨N, 0, none⟩ (.int .i64 ((pre.length : Int) + 1))) := by
  refine ⟨h.bel.setCell (p := ⟨N, 0, none⟩) (Nat.le_refl _) _, fun k h1 h2 => (Below.heap_setCell _ _ _ _ h2).trans (h.same k h1 h2), ?_, hy, by simpa using h.le, h.lt⟩
  have e : (((pre ++ [y]).length : Nat) : Int) = (pre.length : Int) + 1 := by simp
  rw [e]
  exact h.box.set _
theorem CJ.row {N M : Nat} {a b : Int} {W1 W : World} {pre : List (Num a b)} (h : CJ N M W1 pre W) : ∃ p c, Boxed W N 52 (.slice p pre.length c) ∧ IO W M (.slice p pre.length c) (vals pre) := by
  obtain ⟨v, hv, hr, _⟩ := h.box
  obtain ⟨p, c, rfl, _⟩ := owns_sl hr
  exact ⟨p, c, hv, io_of hr rfl⟩
theorem IO.same {W W' : World} {B : Nat} {v : Value} {l : List Int} (h : IO W B v l) (hk : ∀ g, v.ownBlock = some g → W'.heap[g]? = W.heap[g]?) : IO W' B v l := owns_block h (fun g e _ => hk g e)
theorem IO.lt {W : World} {B : Nat} {v : Value} {l : List Int} (h : IO W B v l) {g : Nat} (e : v.ownBlock = some g) : B ≤ g ∧ g < W.heap.size := by
  have h' : W.ownsRow B 3 1 v l.length (ic l) := h
  exact ⟨(h'.lt g e).1, (h'.lt g e).2⟩
theorem numS_at (a b : Int) (i : Nat) (x : Num a b) (h : (numS a b)[i]? = some x) : x.1 = a + i := by
  have h1 : ((numS a b).map (·.1))[i]? = some x.1 := by rw [List.getElem?_map, h]; rfl
  rw [numS_val] at h1
  have h2 : i < (b - a).toNat := by
    have := (List.getElem?_eq_some_iff.1 h1).1
    rwa [numL_length] at this
  rw [numL_get a b i h2] at h1
  exact (Option.some.inj h1).symm
theorem pre_snoc {α : Type} {l pre : List α} (h : pre <+: l) (x : α) (hx : l[pre.length]? = some x) : pre ++ [x] <+: l := by
  obtain ⟨t, rfl⟩ := h
  cases t with
  | nil => simp at hx
  | cons y t =>
    simp at hx
    subst hx
    exact ⟨t, by simp⟩
theorem pre_next {α : Type} {l pre : List α} (x : α) (h : pre ++ [x] <+: l) : l[pre.length]? = some x := by
  obtain ⟨t, rfl⟩ := h
  simp
theorem pre_take {α : Type} {l pre : List α} (h : pre <+: l) : pre = l.take pre.length := by
  obtain ⟨t, rfl⟩ := h
  simp
theorem IRow.take {W : World} {p : Option Addr} {n c k : Nat} {l : List Int} (h : IRow W (.slice p n c) n l) (hk : k ≤ n) : IRow W (.slice p k c) k (l.take k) := by
  obtain ⟨p', cap, e, h1, h2, h3, h4⟩ := h
  obtain ⟨rfl, rfl⟩ : p = p' ∧ c = cap := by cases e; exact ⟨rfl, rfl⟩
  refine ⟨_, _, rfl, by omega, h2, by rw [List.length_take]; omega, fun h0 => ?_⟩
  obtain ⟨b, o, rfl, hc⟩ := h4 (by omega)
  refine ⟨b, o, rfl, fun i x hx => hc i x ?_⟩
  rw [List.getElem?_take] at hx
  split at hx
  · exact hx
  · cases hx
theorem TI.alloc {w W : World} {M nd : Nat} (h : TI w M nd W) (o : Obj) : TI w M nd (W.alloc o) :=
  ⟨h.bel.alloc h.bel.size _, h.res.alloc _, h.bf.alloc _, h.be.alloc _, h.all.alloc _, h.low⟩
/-- ahead of the third loop: what stands, whatever the box M + 5 has -/
structure T3 (w : World) (M nd B0 Bn D1 D2 nn : Nat) (v1 v2 : Value) (W : World) : Prop where
  ti : TI w M nd W
  b3 : Boxed W (M + 1 + 1 + 1) 52 v1
  r3 : IO W B0 v1 (numL (-1) nd)
  b4 : Boxed W (M + 1 + 1 + 1 + 1) 52 v2
  r4 : IO W B0 v2 (numL (-1) nd)
  bn : Boxed W Bn 3 (.int .i64 (nn : Nat))
  d1 : W.heap[D1]? = some (.deferred (some []))
  d2 : W.heap[D2]? = some (.deferred (some []))
  l0 : M + 1 + 1 + 1 + 1 + 1 < B0
  ln : M + 1 + 1 + 1 + 1 + 1 < Bn
  l1 : B0 ≤ D1
  l2 : D1 < D2
theorem T3.go {w : World} {M nd B0 Bn D1 D2 nn : Nat} {v1 v2 : Value} {W W' : World} (h : T3 w M nd B0 Bn D1 D2 nn v1 v2 W) (hb : Below w.heap.size w W') (hs : ∀ k, k < W.heap.size → k ≠ M + 1 + 1 + 1 + 1 + 1 → W'.heap[k]? = W.heap[k]?) : T3 w M nd B0 Bn D1 D2 nn v1 v2 W' := by
  have a0 := h.l0
  have a1 := h.l1
  have a2 := h.l2
  have a3 := h.ti.low
  have lb := h.ti.all.lt
  have ln := h.b4.lt
  refine ⟨⟨hb, (hs _ (by omega) (by omega)).trans h.ti.res, (hs _ (by omega) (by omega)).trans h.ti.bf, (hs _ (by omega) (by omega)).trans h.ti.be, (hs _ (by omega) (by omega)).trans h.ti.all, h.ti.low⟩, (hs _ (by omega) (by omega)).trans h.b3, ?_, (hs _ ln (by omega)).trans h.b4, ?_, (hs _ h.bn.lt (by have := h.ln; omega)).trans h.bn, (hs _ (Array.getElem?_eq_some_iff.1 h.d1).1 (by omega)).trans h.d1, (hs _ (Array.getElem?_eq_some_iff.1 h.d2).1 (by omega)).trans h.d2, h.l0, h.ln, h.l1, h.l2⟩
  · exact h.r3.same (fun g e => hs g (IO.lt h.r3 e).2 (by have := (IO.lt h.r3 e).1; omega))
  · exact h.r4.same (fun g e => hs g (IO.lt h.r4 e).2 (by have := (IO.lt h.r4 e).1; omega))
/-- the third loop is left early: the last one that came was not taken -/
def Ix3 (N : Nat) {a b : Int} (W3 : World) (nn : Nat) (c : Code) (l : List (Num a b)) (W : World) : Prop := ∃ pre x, l = pre ++ [x] ∧ c = .exit 6 ∧ CJ N W3.heap.size W3 pre W ∧ pre.length = nn
/-- what the last region keeps -/
structure Fn (w W4 : World) (W : World) : Prop where
  bel : Below w.heap.size w W
  siz : W4.heap.size ≤ W.heap.size
  same : ∀ k, k < W4.heap.size → k ≠ w.heap.size → W.heap[k]? = W4.heap[k]?
  res : ∃ b : Bool, Boxed W w.heap.size 4 (.bool b)
theorem Fn.go {w W4 W W' : World} (h : Fn w W4 W) (hb : Below W.heap.size W W') : Fn w W4 W' := by
  obtain ⟨b, hr⟩ := h.res
  refine ⟨h.bel.trans (hb.mono h.bel.size), Nat.le_trans h.siz hb.size, fun k h1 h2 => (hb.block k (by have := h.siz; omega)).trans (h.same k h1 h2), b, (hb.block _ hr.lt).trans hr⟩
theorem Fn.put {w W4 W : World} (h : Fn w W4 W) (b : Bool) : Fn w W4 (W.setCell ⟨w.heap.size, 0, none⟩ (.bool b)) ∧ Boxed (W.setCell ⟨w.heap.size, 0, none⟩ (.bool b)) w.heap.size 4 (.bool b) := by
  obtain ⟨b0, hr⟩ := h.res
  exact ⟨⟨h.bel.setCell (p := ⟨w.heap.size, 0, none⟩) (Nat.le_refl _) _, by simpa using h.siz, fun k h1 h2 => (Below.heap_setCell _ _ _ _ h2).trans (h.same k h1 h2), b, hr.set _⟩, hr.set _⟩
/-- how the function is left behind its three loops -/
theorem it_leaves (w : World) (tmps : Array Value) (ht : tmps.getD 4 undef = .pointer (some ⟨w.heap.size, 0, none⟩)) : ∀ (Ds : List Nat) (W : World), Ds.Nodup → (∀ D ∈ Ds, w.heap.size < D ∧ W.heap[D]? = some (.deferred (some []))) → Boxed W w.heap.size 4 (.bool true) → Below w.heap.size w W →
    LeavesInM Fence.wide 8 Tryd.prog Tryd.f5 tmps (fun e w' => e = .returned (.bool true) ∧ Below w.heap.size w w') (Ds.map fun D => { target := .collected D, args := #[] }) .returning W
  | [], W, _, _, hr, hB => ⟨_, results_cellB rfl _ _ ⟨w.heap.size, 0, none⟩ (.bool true) ht hr.cell Tryd.underlying4, rfl, hB⟩
  | D :: Ds, W, hnd, hD, hr, hB => by
    obtain ⟨h1, h2⟩ := hD D (by simp)
    refine ⟨by simp, .inl ⟨_, _, rfl, run_takeDeferred h2, ?_⟩⟩
    refine it_leaves w tmps ht Ds _ (List.nodup_cons.1 hnd).2 (fun E hE => ?_) ((World.putObj_heap_other (by omega)).trans hr) (hB.trans (belowK_b (w := w) (Nat.le_refl _) W D _ _ (by omega) h2 rfl rfl))
    obtain ⟨e1, e2⟩ := hD E (by simp [hE])
    refine ⟨e1, (World.putObj_heap_other (fun e => ?_)).trans e2⟩
    subst e
    exact (List.nodup_cons.1 hnd).1 hE
end Tr
set_option maxRecDepth 100000 in
set_option maxHeartbeats 4000000 in
theorem lawIterators (v : Value) (st : Int) (n : Nat) (E : Nat → Tr.Ev Value) (w : World) (hE : Tr.Evs w v n E) (hs : ∀ i, i < n → Tr.Small (E i)) (hn : n ≤ 1466015503658) (hS : Spans w) (hT : Lib.Utf8Tabs 1 2 w) :
    Calls Tryd.prog 5 #[v, .int .i64 st] w fun r w' => r = .returned (.bool true) ∧ Below w.heap.size w w' := by
  refine (callsIn_wide (n := 8)).1 ?_
  refine callsIn_of_wp_marks Tryd.func5 rfl trivial ?_ rfl
  simp only [Tryd.ntmps5, List.size_toArray, List.length_cons, List.length_nil, Nat.reduceAdd, Nat.reduceSub, Array.replicate_succ, Array.replicate_zero, List.push_toArray, List.append_toArray, List.nil_append, List.cons_append]
  obtain ⟨w0, hw0⟩ : ∃ w0, w.alloc (.cells #[.bool false] 4) = w0 := ⟨_, rfl⟩
  have hb0 : Below w.heap.size w w0 := by rw [← hw0]; exact (Below.refl _ _).alloc (Nat.le_refl _) _
  have hr0 : Boxed w0 w.heap.size 4 (.bool false) := by rw [← hw0]; exact Boxed.new w _ _
  have HE := hide' hE
  have HS := hide' hS
  have HT := hide' hT
  have HSM := hide' hs
  have H0 := hide' hb0
  have HR := hide' hr0
  have C1 := hide' (trAwake w0 (hS.below hb0 (Nat.le_refl _)) (tabs_below hT hb0 (Nat.le_refl _)))
  have HW0 := hide' hw0
  clear hE hS hT hs hb0 hr0 hw0
  gi_wp2_with fail
  refine ⟨trivial, ?_⟩
  rw [HW0.out]
  clear HW0
  refine (callsIn_wide.2 C1.out).mono ?_
  rintro e w1 ⟨rfl, hb1⟩
  have H1 := hide' (H0.out.trans (hb1.mono H0.out.size))
  have HR1 : Hid (Boxed w1 w.heap.size 4 (.bool false)) := (hb1.block _ HR.out.lt).trans HR.out
  clear hb1 C1 H0 HR
  have C2 := hide' (trCopied v n E w1 (HE.out.below H1.out (Nat.le_refl _)) HSM.out hn)
  gi_wp2_with fail
  refine ⟨trivial, ?_⟩
  refine (callsIn_wide.2 C2.out).mono ?_
  rintro e w2 ⟨L0, E1, rfl, hc⟩
  have HC := hide' hc
  have H2 := hide' (H1.out.trans (hc.bel.mono H1.out.size))
  have HR2 : Hid (Boxed w2 w.heap.size 4 (.bool false)) := (hc.bel.block _ HR1.out.lt).trans HR1.out
  have HAL : Hid (Tr.Alike n E E1) := fun i hi => hc.eq i hi
  clear hc C2 H1 HR1
  have C2 := hide' (trBuild _ n E1 w2 (HC.out.evs hn) (HAL.out.small HSM.out) hn (HS.out.below H2.out (Nat.le_refl _)) (tabs_below HT.out H2.out (Nat.le_refl _)))
  clear HC HAL HSM HS HT HE
  gi_wp2_with fail
  refine ⟨trivial, ?_⟩
  refine (callsIn_wide.2 C2.out).mono ?_
  rintro e w3 ⟨hb3, hre⟩
  have HR3 : Hid (Boxed w3 w.heap.size 4 (.bool false)) := (hb3.block _ HR2.out.lt).trans HR2.out
  have H3 := hide' (H2.out.trans (hb3.mono H2.out.size))
  clear hb3 C2 H2 HR2
  have cR := HR3.out.cell
  have fR := HR3.out.frozen
  rcases hre with ⟨_, rfl⟩ | ⟨-, D, E2, L, q, cap, nd, rfl, -, hR⟩
  · gi_wp2
    refine ⟨trivial, ?_⟩
    gi_wp2
    exact ⟨_, Tr.results_cellB rfl _ _ ⟨w.heap.size, 0, none⟩ (.bool true) rfl (HR3.out.set (.bool true)).cell Tryd.underlying4, rfl, H3.out.setCell (p := ⟨w.heap.size, 0, none⟩) (Nat.le_refl _) _⟩
  have HTR := hide' hR
  have CL := hide' (trLen w3 _ D n E2 L q cap nd hR)
  clear hR
  gi_wp2_with fail
  refine ⟨trivial, ?_⟩
  refine (callsIn_wide.2 CL.out).mono ?_
  rintro e w4 ⟨rfl, rfl⟩
  clear CL
  by_cases t6 : ¬ (nd : Int) ≤ 60
  · gi_wp2
    exact ⟨_, Tr.results_cellB rfl _ _ ⟨w.heap.size, 0, none⟩ (.bool true) rfl (HR3.out.set (.bool true)).cell Tryd.underlying4, rfl, H3.out.setCell (p := ⟨w.heap.size, 0, none⟩) (Nat.le_refl _) _⟩
  have h6 : (nd : Int) ≤ 60 := by omega
  clear t6
  have CA := hide' (trAlong w4 _ D n E2 L q cap nd HTR.out (by omega) (-1) 2 (by decide))
  have e0 : Tr.alF E2 n nd (-1) 2 = (-1, (nd : Int)) := by
    unfold Tr.alF Tr.bh
    rw [if_neg (by omega), if_neg (by decide), if_pos rfl, if_pos (by decide)]
  rw [e0] at CA
  dsimp only at CA
  gi_wp2_with fail
  refine ⟨trivial, ?_⟩
  refine (callsIn_wide.2 CA.out).mono ?_
  rintro e w5 ⟨rfl, rfl⟩
  clear CA
  gi_wp2
  -- THE LOOPS
  obtain ⟨M, hM⟩ : ∃ M, w4.heap.size = M := ⟨_, rfl⟩
  generalize decide (60 < (nd : Int)) = bz
  obtain ⟨W5, hW5⟩ : ∃ W5, ((((((w4.alloc (.cells #[.int .i64 (-1)] 3)).alloc (.cells #[.int .i64 (nd : Nat)] 3)).alloc (.cells #[.func (.func 52) #[] #[.pointer (some ⟨w4.heap.size, 0, none⟩), .pointer (some ⟨w4.heap.size + 1, 0, none⟩)]] 57)).alloc (.cells #[.slice none 0 0] 52)).alloc (.cells #[.slice none 0 0] 52)).alloc (.cells #[.slice none 0 0] 52)) = W5 := ⟨_, rfl⟩
  have hIt := Tr.it_start w w4 nd H3.out HR3.out hW5
  rw [hW5]
  rw [hM] at hIt ⊢
  obtain ⟨hti, hz5, hbx⟩ := hIt
  have HIT := hide' hti
  have HBX := hide' hbx
  have HZ5 := hide' hz5
  clear hti hbx hz5 hW5 hM cR fR HTR e0 H3 HR3
  have hlS : (Tr.numS (-1) (nd : Int)).length = nd + 1 := by rw [Tr.numS_length]; omega
  have HLS := hide' hlS
  clear hlS
  refine wpIn_rangeFunc_ownH rfl (by omega) (gf := 52) (lb := #[.pointer (some ⟨M, 0, none⟩), .pointer (some ⟨M + 1, 0, none⟩)]) rfl trivial (enters_of Tryd.func52 (by kernel_rfl) rfl)
    (trNum_stops Fence.wide 7 trivial rfl (by omega) M (M + 1) (-1) (nd : Int) (by omega) (by omega) W5 HIT.out.bf.cell HIT.out.be.cell) Tr.keep1_t (Tr.keep1_b (by have := HZ5.out; omega)) (Below.refl _ _) (fun _ => rfl)
    (Tr.CJ (M + 1 + 1 + 1) W5.heap.size W5) (fun _ _ _ => False) (Tr.CJ.own _ _ _ _ (Nat.le_refl _)) (fun _ _ _ _ _ h _ _ => h) (Tr.cj_start (HBX.out 0 (by omega)))
    (fun x a' _ => a' = { tmps := #[v, .int .i64 st, undef, undef, .pointer (some ⟨w.heap.size, 0, none⟩), .pointer (some ⟨D, 0, none⟩), .int .i64 0, .pointer (some ⟨M + 1 + 1, 0, none⟩), .pointer (some ⟨M + 1 + 1 + 1, 0, none⟩), .pointer (some ⟨M + 1 + 1 + 1 + 1, 0, none⟩), .pointer (some ⟨M + 1 + 1 + 1 + 1 + 1, 0, none⟩), .int .i64 x.1, undef, undef, undef, undef, undef, .bool true, .bool false, .tuple #[.pointer (some ⟨D, 0, none⟩), .int .i64 0], v, .slice (some ⟨L0, 0, none⟩) n n, .tuple #[.pointer (some ⟨D, 0, none⟩), .int .i64 0], .pointer (some ⟨D, 0, none⟩), .int .i64 0, .int .i64 0, .bool false, .bool false, .pointer (some ⟨D, 0, none⟩), .int .i64 (nd : Nat), .bool bz, .bool bz, .pointer (some ⟨D, 0, none⟩), .func (.func 52) #[] #[.pointer (some ⟨M, 0, none⟩), .pointer (some ⟨M + 1, 0, none⟩)], .func (.func 52) #[] #[.pointer (some ⟨M, 0, none⟩), .pointer (some ⟨M + 1, 0, none⟩)], .int .i64 x.1, undef, undef, undef, undef, undef, undef, undef, undef, undef, undef, undef, undef, undef, undef, undef, undef, undef, undef, undef, undef, undef, undef, undef, undef, undef, undef, undef, undef, undef, undef, undef, undef, undef, undef, undef, undef, undef, undef, undef, undef, undef, undef, undef, undef, undef, undef, undef, undef, undef, undef, undef, undef, undef, undef, undef, undef, undef, undef, undef, undef, undef], defers := [] }) (fun _ _ _ _ _ _ hs _ _ => hs) ?assign ?body ?done ?stop
  case assign =>
    rintro l pre x W K hi hK
    simp only [Tr.encI]
    gi_wp2
    exact hK _ _ (KeepsFrom.refl _ _) rfl hi rfl
  case body =>
    rintro l pre ⟨x, hx1, hx2⟩ a' W hl ⟨rec, hrec⟩ hI rfl hlt
    dsimp only
    obtain ⟨i0, hi, hz0, hz1, hz2⟩ := info_parts Tr.intInfo
    obtain ⟨v1, hv, hrow, _⟩ := hI.box
    obtain ⟨p, cap1, rfl, _, _⟩ := Tr.owns_sl hrow
    have cb := hv.cell
    have fb := hv.frozen
    have hle := hI.le
    rw [HLS.out] at hlt
    have HI := hide' hI
    have HREC := hide' hrec
    clear hI hrec
    gi_wp2_with (gi_at_builtin; refine wpListIn_append_own _ rfl _ _ 52 rfl W5.heap.size 3 i0 (.int .i64 0) 1 8 Tryd.underlying52 hi hz0 hz1 hz2 rfl (by decide) _ _ _ rfl (hrow.alloc _) ⟨W.heap.size, 0, none⟩ 1 1 [.int .i64 x] rfl rfl ?c1 ?c2 ?c3 ?c4 ?c5 ?_)
    case c1 => exact cell_one_new _ _ _
    case c2 => intro u hu; rw [List.mem_singleton.1 hu]; rfl
    case c3 => unfold maxLen; omega
    case c4 => omega
    case c5 => simp; omega
    intro v' w3 hown' hg3 _
    obtain ⟨g', cap', rfl⟩ := ownsRow_succ hown'
    obtain ⟨hv3, hCJ, hko, hsm⟩ := HI.out.app (x := ⟨x, hx1, hx2⟩) hv hrow hown' hg3
    have cb3 := hv3.cell
    have fb3 := hv3.frozen
    have hI2 := HIT.out.go hCJ (by omega)
    have cAll := (hI2.all.alloc (.cells #[.int .i64 0] 3)).cell
    obtain ⟨W2, hW2⟩ : ∃ W2, w3.setCell ⟨M + 1 + 1 + 1, 0, none⟩ (.slice (some ⟨g', 0, none⟩) (pre.length + 1) cap') = W2 := ⟨_, rfl⟩
    rw [hW2] at hCJ hko hsm hI2
    have HCJ := hide' hCJ
    have HKO := hide' hko
    have HSM := hide' hsm
    have HI2 := hide' hI2
    have HW2 := hide' hW2
    clear hCJ hko hsm hI2 hv3 hown' hg3 hrow hv HI hW2
    gi_wp2_with fail
    rw [HW2.out]
    have hz5 := HZ5.out
    have hzi : (W2.alloc (.cells #[.int .i64 0] 3)).heap.size = W2.heap.size + 1 := World.size_alloc _ _
    have hcl := HCJ.out.le
    have hrecI : (W2.alloc (.cells #[.int .i64 0] 3)).heap[l]? = some (.loop rec) := by
      have h1 := HKO.out.same l _ HREC.out rfl
      exact (Below.heap_alloc _ _ _ (Array.getElem?_eq_some_iff.1 h1).1).trans h1
    have hW2s : w3.heap.size = W2.heap.size := by have := HW2.out; rw [← this]; simp
    rw [hW2s]
    clear hW2s cAll cb cb3 fb fb3
    have hseq2 : SeqStopsK (Fence.wide.inRound l) (8 - 1 - 1 - 1) Tryd.prog 52 #[.pointer (some ⟨M, 0, none⟩), .pointer (some ⟨M + 1, 0, none⟩)] (Tr.encI (a := -1) (b := (nd : Int))) (Tr.Keep1 (M + 1)) (fun ys => ys = Tr.numS (-1) (nd : Int)) (fun pre => pre <+: Tr.numS (-1) (nd : Int)) (Tr.numS (-1) (nd : Int)).length (W2.alloc (.cells #[.int .i64 0] 3)) := SeqStopsK.inRound l (trNum_stops Fence.wide (8 - 1 - 1 - 1) trivial rfl (by omega) M (M + 1) (-1) (nd : Int) (by omega) (by omega) _ (HI2.out.bf.alloc _).cell (HI2.out.be.alloc _).cell)
    refine wpIn_rangeFunc_ownN (l₀ := l) (r₀ := rec) rfl hrecI (by omega) (gf := 52) (lb := #[.pointer (some ⟨M, 0, none⟩), .pointer (some ⟨M + 1, 0, none⟩)]) rfl trivial (enters_of Tryd.func52 (by kernel_rfl) rfl)
      hseq2 Tr.keep1_t (Tr.keep1_b (by omega)) (Below.refl _ _) (fun _ => rfl)
      (Tr.KJ W2.heap.size (W2.alloc (.cells #[.int .i64 0] 3))) (fun _ pre2 _ => ¬ pre2 <+: Tr.numS (-1) (nd : Int)) (Tr.KJ.own _ _ _ (Nat.le_refl _)) (fun _ _ _ _ _ h _ _ => h)
      ⟨Below.refl _ _, fun _ _ _ => rfl, Boxed.new _ _ _, List.nil_prefix, Nat.le_refl _, by omega⟩
      (fun y a'' _ => a'' = { tmps := #[v, .int .i64 st, undef, undef, .pointer (some ⟨w.heap.size, 0, none⟩), .pointer (some ⟨D, 0, none⟩), .int .i64 0, .pointer (some ⟨M + 1 + 1, 0, none⟩), .pointer (some ⟨M + 1 + 1 + 1, 0, none⟩), .pointer (some ⟨M + 1 + 1 + 1 + 1, 0, none⟩), .pointer (some ⟨M + 1 + 1 + 1 + 1 + 1, 0, none⟩), .int .i64 x, .pointer (some ⟨W2.heap.size, 0, none⟩), .int .i64 y.1, undef, undef, undef, .bool true, .bool false, .tuple #[.pointer (some ⟨D, 0, none⟩), .int .i64 0], v, .slice (some ⟨L0, 0, none⟩) n n, .tuple #[.pointer (some ⟨D, 0, none⟩), .int .i64 0], .pointer (some ⟨D, 0, none⟩), .int .i64 0, .int .i64 0, .bool false, .bool false, .pointer (some ⟨D, 0, none⟩), .int .i64 (nd : Nat), .bool bz, .bool bz, .pointer (some ⟨D, 0, none⟩), .func (.func 52) #[] #[.pointer (some ⟨M, 0, none⟩), .pointer (some ⟨M + 1, 0, none⟩)], .func (.func 52) #[] #[.pointer (some ⟨M, 0, none⟩), .pointer (some ⟨M + 1, 0, none⟩)], .int .i64 x, .slice p pre.length cap1, .int .i64 x, .slice (some ⟨W.heap.size, 0, none⟩) 1 1, .slice (some ⟨g', 0, none⟩) (pre.length + 1) cap', .func (.func 52) #[] #[.pointer (some ⟨M, 0, none⟩), .pointer (some ⟨M + 1, 0, none⟩)], .int .i64 y.1, undef, undef, undef, undef, undef, undef, undef, undef, undef, undef, undef, undef, undef, undef, undef, undef, undef, undef, undef, undef, undef, undef, undef, undef, undef, undef, undef, undef, undef, undef, undef, undef, undef, undef, undef, undef, undef, undef, undef, undef, undef, undef, undef, undef, undef, undef, undef, undef, undef, undef, undef, undef, undef, undef, undef], defers := [] }) (fun _ _ _ _ _ _ hs _ _ => hs) ?assign2 ?body2 ?done2 ?stop2
    case assign2 =>
      rintro l2 pre2 y W' K hi hK
      clear hz5 hzi
      simp only [Tr.encI]
      gi_wp2
      exact hK _ _ (KeepsFrom.refl _ _) rfl hi rfl
    case body2 =>
      rintro l2 pre2 ⟨y, hy1, hy2⟩ a'' W' hl2 - hK rfl hlt3
      dsimp only
      rw [HLS.out] at hlt3
      have cK := hK.box.cell
      have fK := hK.box.frozen
      have tw : IntKind.i64.wrap ((pre2.length : Int) - 1) = (pre2.length : Int) - 1 := by rw [IntKind.wrap_i64]; omega
      have tw2 : IntKind.i64.wrap ((pre2.length : Int) + 1) = (pre2.length : Int) + 1 := by rw [IntKind.wrap_i64]; omega
      have t100 : (pre2.length : Int) ≤ 100 := by omega
      by_cases hy : y = (pre2.length : Int) - 1
      · have hnext : pre2 ++ [⟨y, hy1, hy2⟩] <+: Tr.numS (-1) (nd : Int) := by
          have hlt4 : pre2.length < (Tr.numS (-1) (nd : Int)).length := by rw [HLS.out]; exact hlt3
          refine Tr.pre_snoc hK.pre _ ?_
          have h1 := Tr.numS_at (-1) (nd : Int) pre2.length _ (List.getElem?_eq_getElem hlt4)
          rw [List.getElem?_eq_getElem hlt4]
          congr 1
          apply Subtype.ext
          rw [h1]
          show _ = y
          omega
        have hst := hK.step ⟨y, hy1, hy2⟩ hnext
        have e1 : (y != (pre2.length : Int) - 1) = false := by rw [hy]; simp
        have HST := hide' hst
        have HKP : Hid (Tr.Keep1 (M + 1) W' (W'.setCell ⟨W2.heap.size, 0, none⟩ (.int .i64 ((pre2.length : Int) + 1)))) := World.cell?_of_block (Below.heap_setCell _ _ _ _ (by show M + 1 ≠ W2.heap.size; omega))
        clear hnext hst hK hy hz5 hzi
        gi_wp2
        exact ⟨(KeepsOthers.setCell _ _ _).from _, HKP.out, HST.out⟩
      · have hno : ¬ pre2 ++ [(⟨y, hy1, hy2⟩ : Tr.Num (-1) (nd : Int))] <+: Tr.numS (-1) (nd : Int) := fun h => by
          have h1 := Tr.numS_at _ _ _ _ (Tr.pre_next _ h)
          exact hy (by have h2 : y = -1 + (pre2.length : Int) := h1; omega)
        have e1 : (y != (pre2.length : Int) - 1) = true := by simpa using hy
        have hlw := HI2.out.low
        have hres : Boxed W' w.heap.size 4 (.bool false) := (hK.same w.heap.size (by omega) (by omega)).trans (HI2.out.res.alloc _)
        have cR := hres.cell
        have fR := hres.frozen
        have HNO := hide' hno
        clear hno hK hres hy hz5 hzi
        gi_wp2
        exact ⟨(KeepsOthers.setCell _ _ _).from _, HNO.out⟩
    case done2 =>
      rintro ys W' rfl hK
      have hCJ := HCJ.out.thru _ hK
      have hKO := hK.keeps HKO.out rfl
      have hI3 := HIT.out.go hCJ (by omega)
      obtain ⟨p5, c5, hb5, _⟩ := hCJ.row
      have cb5 := hb5.cell
      have e5 : ((pre ++ [(⟨x, hx1, hx2⟩ : Tr.Num (-1) (nd : Int))]).length : Int) = (pre.length : Int) + 1 := by simp
      obtain ⟨m5, hm5⟩ : ∃ m5, (pre ++ [(⟨x, hx1, hx2⟩ : Tr.Num (-1) (nd : Int))]).length = m5 := ⟨_, rfl⟩
      rw [hm5] at cb5 e5
      have t5 : (m5 : Int) ≤ 100 := by omega
      have HKP : Hid (Tr.Keep1 (M + 1) W W') := by
        have h1 : W'.cell? ⟨M + 1, 0, none⟩ = some (.int .i64 (nd : Nat)) := hI3.be.cell
        have h2 := HSM.out (M + 1) (by omega) (by omega)
        have h3 := HI2.out.be.cell
        have h4 : W2.cell? ⟨M + 1, 0, none⟩ = W.cell? ⟨M + 1, 0, none⟩ := World.cell?_of_block (a := ⟨M + 1, 0, none⟩) h2
        show W'.cell? ⟨M + 1, 0, none⟩ = W.cell? ⟨M + 1, 0, none⟩
        rw [h1, ← h4, h3]
      have HCJ3 := hide' hCJ
      have HKO3 := hide' hKO
      clear hCJ hKO hI3 hb5 hK e5 hm5 hz5 hzi
      gi_wp2
      exact ⟨HKO3.out.from _, HKP.out, HCJ3.out⟩
    case stop2 =>
      rintro c pre2 W' hp hn
      exact absurd hp hn
  case done =>
    rintro D1 ys W hD1 rfl hI hK1
    have hI2 := HIT.out.go hI (by omega)
    have cA := hI2.all.cell
    have HI := hide' hI
    have HI2 := hide' hI2
    have HK1 := hide' hK1
    clear hI hI2 hK1
    gi_wp2_with fail
    have hle0 := HI.out.le
    have hz5 := HZ5.out
    have hb4 : Boxed W (M + 1 + 1 + 1 + 1) 52 (.slice none 0 0) := (HI.out.same _ (by omega) (by omega)).trans (HBX.out 1 (by omega))
    have HB4 := hide' hb4
    clear hb4
    refine wpIn_rangeFunc_ownH rfl (by omega) (gf := 52) (lb := #[.pointer (some ⟨M, 0, none⟩), .pointer (some ⟨M + 1, 0, none⟩)]) rfl trivial (enters_of Tryd.func52 (by kernel_rfl) rfl)
      (trNum_stops Fence.wide 7 trivial rfl (by omega) M (M + 1) (-1) (nd : Int) (by omega) (by omega) W HI2.out.bf.cell HI2.out.be.cell) Tr.keep1_t (Tr.keep1_b (by omega)) (Below.refl _ _) (fun _ => rfl)
      (Tr.CJ (M + 1 + 1 + 1 + 1) W.heap.size W) (fun _ _ _ => False) (Tr.CJ.own _ _ _ _ (Nat.le_refl _)) (fun _ _ _ _ _ h _ _ => h) (Tr.cj_start HB4.out)
      (fun x a' _ => a' = { tmps := #[v, .int .i64 st, undef, undef, .pointer (some ⟨w.heap.size, 0, none⟩), .pointer (some ⟨D, 0, none⟩), .int .i64 0, .pointer (some ⟨M + 1 + 1, 0, none⟩), .pointer (some ⟨M + 1 + 1 + 1, 0, none⟩), .pointer (some ⟨M + 1 + 1 + 1 + 1, 0, none⟩), .pointer (some ⟨M + 1 + 1 + 1 + 1 + 1, 0, none⟩), undef, undef, undef, .int .i64 x.1, undef, undef, .bool true, .bool false, .tuple #[.pointer (some ⟨D, 0, none⟩), .int .i64 0], v, .slice (some ⟨L0, 0, none⟩) n n, .tuple #[.pointer (some ⟨D, 0, none⟩), .int .i64 0], .pointer (some ⟨D, 0, none⟩), .int .i64 0, .int .i64 0, .bool false, .bool false, .pointer (some ⟨D, 0, none⟩), .int .i64 (nd : Nat), .bool bz, .bool bz, .pointer (some ⟨D, 0, none⟩), .func (.func 52) #[] #[.pointer (some ⟨M, 0, none⟩), .pointer (some ⟨M + 1, 0, none⟩)], .func (.func 52) #[] #[.pointer (some ⟨M, 0, none⟩), .pointer (some ⟨M + 1, 0, none⟩)], undef, undef, undef, undef, undef, undef, undef, undef, undef, undef, undef, undef, undef, undef, undef, undef, undef, undef, undef, undef, .func (.func 52) #[] #[.pointer (some ⟨M, 0, none⟩), .pointer (some ⟨M + 1, 0, none⟩)], .int .i64 x.1, undef, undef, undef, undef, undef, undef, undef, undef, undef, undef, undef, undef, undef, undef, undef, undef, undef, undef, undef, undef, undef, undef, undef, undef, undef, undef, undef, undef, undef, undef, undef, undef, undef, undef, undef, undef, undef, undef, undef, undef], defers := [] }) (fun _ _ _ _ _ _ hs _ _ => hs) ?assignB ?bodyB ?doneB ?stopB
    case assignB =>
      rintro l pre x Wq K hi hK
      simp only [Tr.encI]
      gi_wp2
      exact hK _ _ (KeepsFrom.refl _ _) rfl hi rfl
    case bodyB =>
      rintro l pre ⟨x, hx1, hx2⟩ a' Wq hl - hI rfl hlt
      dsimp only
      obtain ⟨i0, hi, hz0, hz1, hz2⟩ := info_parts Tr.intInfo
      obtain ⟨v1, hv, hrow, _⟩ := hI.box
      obtain ⟨p, cap1, rfl, _, _⟩ := Tr.owns_sl hrow
      have cb := hv.cell
      have fb := hv.frozen
      have hle := hI.le
      rw [HLS.out] at hlt
      have t100 : (pre.length : Int) ≤ 100 := by omega
      have HJ := hide' hI
      clear hI
      gi_wp2_with (gi_at_builtin; refine wpListIn_append_own _ rfl _ _ 52 rfl W.heap.size 3 i0 (.int .i64 0) 1 8 Tryd.underlying52 hi hz0 hz1 hz2 rfl (by decide) _ _ _ rfl (hrow.alloc _) ⟨Wq.heap.size, 0, none⟩ 1 1 [.int .i64 x] rfl rfl ?c1 ?c2 ?c3 ?c4 ?c5 ?_)
      case c1 => exact cell_one_new _ _ _
      case c2 => intro u hu; rw [List.mem_singleton.1 hu]; rfl
      case c3 => unfold maxLen; omega
      case c4 => omega
      case c5 => simp; omega
      intro v' w3 hown' hg3 _
      obtain ⟨g', cap', rfl⟩ := ownsRow_succ hown'
      obtain ⟨hv3, hCJ, hko, hsm⟩ := HJ.out.app (x := ⟨x, hx1, hx2⟩) hv hrow hown' hg3
      have cb3 := hv3.cell
      have fb3 := hv3.frozen
      have HKP : Hid (Tr.Keep1 (M + 1) Wq (w3.setCell ⟨M + 1 + 1 + 1 + 1, 0, none⟩ (.slice (some ⟨g', 0, none⟩) (pre.length + 1) cap'))) := World.cell?_of_block (a := ⟨M + 1, 0, none⟩) (hsm (M + 1) (by omega) (by omega))
      have HCJ := hide' hCJ
      have HKO := hide' hko
      clear hCJ hko hsm hv3 hown' hg3 hrow hv HJ
      gi_wp2
      exact ⟨HKO.out.from _, HKP.out, HCJ.out⟩
    case stopB =>
      rintro D c pre W _ _ h _
      exact h.elim
    case doneB =>
      rintro D2 ys W2 hD2 rfl hJ hK2
      have hI3 := HI2.out.go hJ (by omega)
      have hle2 := hJ.le
      obtain ⟨pO, cO, hbO0, hrO0⟩ := HI.out.row
      obtain ⟨pT, cT, hbT, hrT⟩ := hJ.row
      have hbO : Boxed W2 (M + 1 + 1 + 1) 52 (.slice pO (Tr.numS (-1) (nd : Int)).length cO) := (hJ.same _ (by omega) (by omega)).trans hbO0
      have hrO : Tr.IO W2 W5.heap.size (.slice pO (Tr.numS (-1) (nd : Int)).length cO) (Tr.vals (Tr.numS (-1) (nd : Int))) := hrO0.same (fun g e => hJ.same g (by have := (Tr.IO.lt hrO0 e).2; omega) (by have := (Tr.IO.lt hrO0 e).1; omega))
      have hb5 : Boxed W2 (M + 1 + 1 + 1 + 1 + 1) 52 (.slice none 0 0) := (hJ.same _ (by omega) (by omega)).trans ((HI.out.same _ (by omega) (by omega)).trans (HBX.out 2 (by omega)))
      have hk1 : W2.heap[D1]? = some (.deferred (some [])) := (hJ.same D1 (Array.getElem?_eq_some_iff.1 HK1.out).1 (by omega)).trans HK1.out
      rw [Tr.vals_numS, HLS.out] at hrO hrT
      rw [HLS.out] at hbO hbT
      have hT : ∀ nn : Nat, Tr.T3 w M nd W5.heap.size W2.heap.size D1 D2 nn (.slice pO (nd + 1) cO) (.slice pT (nd + 1) cT) (W2.alloc (.cells #[.int .i64 (nn : Nat)] 3)) := fun nn =>
        ⟨hI3.alloc _, hbO.alloc _, hrO.below ((Below.refl _ _).alloc (Nat.le_refl _) _), hbT.alloc _, (show Tr.IO _ _ _ _ from Tr.owns_base (hrT.below ((Below.refl _ _).alloc (Nat.le_refl _) _)) hle0), Boxed.new _ _ _, (Below.heap_alloc _ _ _ (Array.getElem?_eq_some_iff.1 hk1).1).trans hk1, (Below.heap_alloc _ _ _ (Array.getElem?_eq_some_iff.1 hK2).1).trans hK2, by omega, by omega, hD1, by have := (Array.getElem?_eq_some_iff.1 HK1.out).1; omega⟩
      have HT := hide' hT
      have HBO := hide' hbO
      have HI3 := hide' hI3
      have HB5 := hide' hb5
      have HLE2 := hide' hle2
      clear hJ hI3 hbO0 hrO0 hbO hrO hbT hrT hb5 hk1 hK2 HI HI2 HBX HB4 cA hT HK1 hle2
      have cAl := (HI3.out.all.alloc (.cells #[.int .i64 0] 3)).cell
      have cOn := (HBO.out.alloc (.cells #[.int .i64 0] 3)).cell
      have cAm := (HI3.out.all.alloc (.cells #[.int .i64 (st % ((nd : Int) + 1 + 1))] 3)).cell
      by_cases hst : (0 : Int) < st
      · clear cAl
        gi_wp2_with fail
        obtain ⟨nn, hnn, hn1⟩ : ∃ nn : Nat, st % ((nd : Int) + 1 + 1) = (nn : Int) ∧ nn ≤ nd + 1 := by
          have h1 := Int.emod_nonneg st (b := (nd : Int) + 1 + 1) (by omega)
          have h2 := Int.emod_lt_of_pos st (b := (nd : Int) + 1 + 1) (by omega)
          exact ⟨(st % ((nd : Int) + 1 + 1)).toNat, by omega, by omega⟩
        rw [hnn]
        clear hnn cAm cOn hst
        obtain ⟨W3, hW3⟩ : ∃ W3, W2.alloc (.cells #[.int .i64 (nn : Int)] 3) = W3 := ⟨_, rfl⟩
        have hT3 := HT.out nn
        have hb53 := HB5.out.alloc (.cells #[.int .i64 (nn : Int)] 3)
        have hz3 : W2.heap.size < W3.heap.size := by rw [← hW3]; simp
        rw [hW3] at hT3 hb53 ⊢
        have HT3 := hide' hT3
        have HB53 := hide' hb53
        have HN1 := hide' hn1
        have HZ3 := hide' hz3
        clear hT3 hb53 hW3 HT HBO HI3 HB5 hn1 hz3
        refine wpIn_rangeFunc_ownH rfl (by omega) (gf := 52) (lb := #[.pointer (some ⟨M, 0, none⟩), .pointer (some ⟨M + 1, 0, none⟩)]) rfl trivial (enters_of Tryd.func52 (by kernel_rfl) rfl)
          (trNum_stops Fence.wide 7 trivial rfl (by omega) M (M + 1) (-1) (nd : Int) (by omega) (by omega) W3 HT3.out.ti.bf.cell HT3.out.ti.be.cell) Tr.keep1_t (Tr.keep1_b (by have := HZ3.out; have := HLE2.out; omega)) (Below.refl _ _) (fun _ => rfl)
          (fun pre Wq => Tr.CJ (M + 1 + 1 + 1 + 1 + 1) W3.heap.size W3 pre Wq ∧ pre.length ≤ nn) (Tr.Ix3 (M + 1 + 1 + 1 + 1 + 1) W3 nn)
          (fun pre W W' row h hg hr => ⟨Tr.CJ.own _ _ _ _ (Nat.le_refl _) pre W W' row h.1 hg hr, h.2⟩) (fun _ _ W W' row h hg hr => by obtain ⟨pre, x, e1, e2, h3, h4⟩ := h; exact ⟨pre, x, e1, e2, Tr.CJ.own _ _ _ _ (Nat.le_refl _) pre W W' row h3 hg hr, h4⟩) ⟨Tr.cj_start HB53.out, Nat.zero_le _⟩
          (fun x a' _ => a' = { tmps := #[v, .int .i64 st, undef, undef, .pointer (some ⟨w.heap.size, 0, none⟩), .pointer (some ⟨D, 0, none⟩), .int .i64 0, .pointer (some ⟨M + 1 + 1, 0, none⟩), .pointer (some ⟨M + 1 + 1 + 1, 0, none⟩), .pointer (some ⟨M + 1 + 1 + 1 + 1, 0, none⟩), .pointer (some ⟨M + 1 + 1 + 1 + 1 + 1, 0, none⟩), undef, undef, undef, undef, .pointer (some ⟨W2.heap.size, 0, none⟩), .int .i64 x.1, .bool true, .bool false, .tuple #[.pointer (some ⟨D, 0, none⟩), .int .i64 0], v, .slice (some ⟨L0, 0, none⟩) n n, .tuple #[.pointer (some ⟨D, 0, none⟩), .int .i64 0], .pointer (some ⟨D, 0, none⟩), .int .i64 0, .int .i64 0, .bool false, .bool false, .pointer (some ⟨D, 0, none⟩), .int .i64 (nd : Nat), .bool bz, .bool bz, .pointer (some ⟨D, 0, none⟩), .func (.func 52) #[] #[.pointer (some ⟨M, 0, none⟩), .pointer (some ⟨M + 1, 0, none⟩)], .func (.func 52) #[] #[.pointer (some ⟨M, 0, none⟩), .pointer (some ⟨M + 1, 0, none⟩)], undef, undef, undef, undef, undef, undef, undef, undef, undef, undef, undef, undef, undef, undef, undef, undef, undef, undef, undef, undef, .func (.func 52) #[] #[.pointer (some ⟨M, 0, none⟩), .pointer (some ⟨M + 1, 0, none⟩)], undef, undef, undef, undef, undef, undef, undef, undef, .int .i64 st, .bool true, .int .i64 st, .slice pO (nd + 1) cO, .int .i64 ((nd : Int) + 1), .int .i64 ((nd : Int) + 1 + 1), .int .i64 (nn : Nat), .func (.func 52) #[] #[.pointer (some ⟨M, 0, none⟩), .pointer (some ⟨M + 1, 0, none⟩)], .int .i64 x.1, undef, undef, undef, undef, undef, undef, undef, undef, undef, undef, undef, undef, undef, undef, undef, undef, undef, undef, undef, undef, undef, undef, undef, undef], defers := [] }) (fun _ _ _ _ _ _ hs _ _ => hs) ?assignC ?bodyC ?doneC ?stopC
        case assignC =>
          rintro l pre x Wq K hi hK
          simp only [Tr.encI]
          gi_wp2
          exact hK _ _ (KeepsFrom.refl _ _) rfl hi rfl
        case bodyC =>
          rintro l pre ⟨x, hx1, hx2⟩ a' Wq hl - ⟨hI, hnn⟩ rfl hlt
          dsimp only
          have hT4 := HT3.out.go (HT3.out.ti.bel.trans (hI.bel.mono (by have := HT3.out.ti.low; omega))) (fun k h1 h2 => hI.same k h1 h2)
          have cN := hT4.bn.cell
          clear hT4
          obtain ⟨i0, hi, hz0, hz1, hz2⟩ := info_parts Tr.intInfo
          obtain ⟨v1, hv, hrow, _⟩ := hI.box
          obtain ⟨p, cap1, rfl, _, _⟩ := Tr.owns_sl hrow
          have cb := hv.cell
          have fb := hv.frozen
          have hle := hI.le
          have hz3 := HZ3.out
          have hle2 := HLE2.out
          rw [HLS.out] at hlt
          have HJ := hide' hI
          clear hI
          by_cases e0 : pre.length = nn
          · have HX : Hid (Tr.Ix3 (M + 1 + 1 + 1 + 1 + 1) W3 nn (.exit 6) (pre ++ [(⟨x, hx1, hx2⟩ : Tr.Num (-1) (nd : Int))]) Wq) := ⟨pre, _, rfl, rfl, HJ.out, e0⟩
            have t1 : ((pre.length : Int) == (nn : Int)) = true := by rw [e0]; simp
            clear e0 hnn hrow hv HJ hz3 hle2 hle hlt
            gi_wp2
            exact ⟨KeepsFrom.refl _ _, HX.out⟩
          have t1 : ((pre.length : Int) == (nn : Int)) = false := by simp; omega
          have HNN : Hid (pre.length + 1 ≤ nn) := by show _ ≤ _; omega
          clear e0 hnn
          gi_wp2_with (gi_at_builtin; refine wpListIn_append_own _ rfl _ _ 52 rfl W3.heap.size 3 i0 (.int .i64 0) 1 8 Tryd.underlying52 hi hz0 hz1 hz2 rfl (by decide) _ _ _ rfl (hrow.alloc _) ⟨Wq.heap.size, 0, none⟩ 1 1 [.int .i64 x] rfl rfl ?c1 ?c2 ?c3 ?c4 ?c5 ?_)
          case c1 => exact cell_one_new _ _ _
          case c2 => intro u hu; rw [List.mem_singleton.1 hu]; rfl
          case c3 => unfold maxLen; omega
          case c4 => omega
          case c5 => simp; omega
          intro v' w3 hown' hg3 _
          obtain ⟨g', cap', rfl⟩ := ownsRow_succ hown'
          obtain ⟨hv3, hCJ, hko, hsm⟩ := HJ.out.app (x := ⟨x, hx1, hx2⟩) hv hrow hown' hg3
          have cb3 := hv3.cell
          have fb3 := hv3.frozen
          have HKP : Hid (Tr.Keep1 (M + 1) Wq (w3.setCell ⟨M + 1 + 1 + 1 + 1 + 1, 0, none⟩ (.slice (some ⟨g', 0, none⟩) (pre.length + 1) cap'))) := World.cell?_of_block (a := ⟨M + 1, 0, none⟩) (hsm (M + 1) (by omega) (by omega))
          have HCJ := hide' hCJ
          have HKO := hide' hko
          clear hCJ hko hsm hv3 hown' hg3 hrow hv HJ
          gi_wp2
          exact ⟨HKO.out.from _, HKP.out, HCJ.out, by rw [List.length_append]; exact HNN.out⟩
        case doneC =>
          rintro D3 ys W4 hD3 rfl ⟨hJ, hnn⟩ hK3
          have hpl : (Tr.numS (-1) (nd : Int)).length = nn := by have := HLS.out; have := HN1.out; omega
          have hpr : Tr.numS (-1) (nd : Int) <+: Tr.numS (-1) (nd : Int) := List.prefix_rfl
          obtain ⟨preF, hpf⟩ : ∃ preF, Tr.numS (-1) (nd : Int) = preF := ⟨_, rfl⟩
          rw [hpf] at hJ hpl
          have hpr : preF <+: Tr.numS (-1) (nd : Int) := by rw [hpf]; exact List.prefix_rfl
          clear hpf
          have hT4 := HT3.out.go (HT3.out.ti.bel.trans (hJ.bel.mono (by have := HT3.out.ti.low; omega))) (fun k h1 h2 => hJ.same k h1 h2)
          obtain ⟨pF, cF, hbF, hrF⟩ := hJ.row
          have hvF : Tr.vals preF = (Tr.numL (-1) (nd : Int)).take nn := by
            obtain ⟨t, ht⟩ := hpr
            rw [← Tr.vals_numS, ← ht, ← hpl]
            simp [Tr.vals]
          rw [hpl] at hbF hrF
          rw [hvF] at hrF
          have hlw := hT4.ti.low
          have hl0 := hT4.l0
          have hln := hT4.ln
          have hlen : (Tr.numL (-1) (nd : Int)).length = nd + 1 := by rw [Tr.numL_length]; omega
          have hlt : ((Tr.numL (-1) (nd : Int)).take nn).length = nn := by rw [List.length_take, hlen]; have := HN1.out; omega
          have hz30 := HZ3.out
          have hz31 := HLE2.out
          have hfn0 : Tr.Fn w W4 W4.drew := ⟨hT4.ti.bel.drew, Nat.le_refl _, fun _ _ _ => rfl, false, hT4.ti.res⟩
          have HC : Hid (∀ W', Tr.Fn w W4 W' → W'.cell? ⟨M + 1 + 1 + 1, 0, none⟩ = some (.slice pO (nd + 1) cO) ∧ W'.cell? ⟨M + 1 + 1 + 1 + 1, 0, none⟩ = some (.slice pT (nd + 1) cT) ∧ W'.cell? ⟨M + 1 + 1 + 1 + 1 + 1, 0, none⟩ = some (.slice pF nn cF) ∧ W'.cell? ⟨W2.heap.size, 0, none⟩ = some (.int .i64 (nn : Nat))) := fun W' h =>
            ⟨Boxed.cell ((h.same _ hT4.b3.lt (by omega)).trans hT4.b3), Boxed.cell ((h.same _ hT4.b4.lt (by omega)).trans hT4.b4), Boxed.cell ((h.same _ hbF.lt (by omega)).trans hbF), Boxed.cell ((h.same _ hT4.bn.lt (by omega)).trans hT4.bn)⟩
          have hR3 : ∀ W', Tr.Fn w W4 W' → Tr.IRow W' (.slice pO (nd + 1) cO) (nd + 1) (Tr.numL (-1) (nd : Int)) := fun W' h => by
            have := (hT4.r3.same (W' := W') (fun g e => h.same g (Tr.IO.lt hT4.r3 e).2 (by have := (Tr.IO.lt hT4.r3 e).1; omega))).row
            rwa [hlen] at this
          have hR4 : ∀ W', Tr.Fn w W4 W' → Tr.IRow W' (.slice pT (nd + 1) cT) (nd + 1) (Tr.numL (-1) (nd : Int)) := fun W' h => by
            have := (hT4.r4.same (W' := W') (fun g e => h.same g (Tr.IO.lt hT4.r4 e).2 (by have := (Tr.IO.lt hT4.r4 e).1; omega))).row
            rwa [hlen] at this
          have hR5 : ∀ W', Tr.Fn w W4 W' → Tr.IRow W' (.slice pF nn cF) nn ((Tr.numL (-1) (nd : Int)).take nn) := fun W' h => by
            have := (hrF.same (W' := W') (fun g e => h.same g (Tr.IO.lt hrF e).2 (by have := (Tr.IO.lt hrF e).1; omega))).row
            rwa [hlt] at this
          have CI1 : Hid (∀ W', Tr.Fn w W4 W' → Calls Tryd.prog 22 #[.slice pO (nd + 1) cO, .slice pT (nd + 1) cT] W' fun e w' => e = .returned (.bool true) ∧ Below W'.heap.size W' w') := fun W' h => trInts W' _ _ (nd + 1) _ (hR3 W' h) (hR4 W' h) (by omega)
          have CI2 : Hid (∀ W', Tr.Fn w W4 W' → Calls Tryd.prog 22 #[.slice pF nn cF, .slice pO nn cO] W' fun e w' => e = .returned (.bool true) ∧ Below W'.heap.size W' w') := fun W' h => trInts W' _ _ nn _ (hR5 W' h) ((hR3 W' h).take HN1.out) (by have := HN1.out; omega)
          have HDS : Hid (∀ W', Tr.Fn w W4 W' → ∀ D' ∈ [D3, D2, D1], w.heap.size < D' ∧ W'.heap[D']? = some (.deferred (some []))) := fun W' h D' hD' => by
            have a1 := hT4.l1
            have a2 := hT4.l2
            have e : D' = D3 ∨ D' = D2 ∨ D' = D1 := by simpa using hD'
            rcases e with rfl | rfl | rfl
            · exact ⟨by omega, (h.same _ (Array.getElem?_eq_some_iff.1 hK3).1 (by omega)).trans hK3⟩
            · exact ⟨by omega, (h.same _ (Array.getElem?_eq_some_iff.1 hT4.d2).1 (by omega)).trans hT4.d2⟩
            · exact ⟨by omega, (h.same _ (Array.getElem?_eq_some_iff.1 hT4.d1).1 (by omega)).trans hT4.d1⟩
          have HND : Hid ([D3, D2, D1].Nodup) := by
            have a2 := hT4.l2
            have a3 : D2 < W3.heap.size := by have := (Array.getElem?_eq_some_iff.1 HT3.out.d2).1; exact this
            have e1 : D3 ≠ D2 := by omega
            have e2 : D3 ≠ D1 := by omega
            have e3 : D2 ≠ D1 := by omega
            show List.Nodup _
            simp [e1, e2, e3]
          have tn : (0 : Int) ≤ (nn : Int) := by omega
          have tn2 : (nn : Int) ≤ (nd : Int) + 1 := by have := HN1.out; omega
          have tn3 : nn ≤ cO := by obtain ⟨_, _, e, h1, _⟩ := hR3 _ hfn0; cases e; have := HN1.out; omega
          clear hT4 hbF hrF hvF hR3 hR4 hR5 hJ hpr hpl hK3 hlen hlt hlw hl0 hln hz30 hz31 HT3 HB53
          gi_wp2_with fail
          obtain ⟨Mid, hMid⟩ : ∃ Mid : Act → World → Prop, Mid = fun a' W' => Tr.Fn w W4 W' ∧ Boxed W' w.heap.size 4 (.bool true) ∧ a'.tmps.getD 4 undef = .pointer (some ⟨w.heap.size, 0, none⟩) ∧ a'.defers = [D3, D2, D1].map fun D => { target := .collected D, args := #[] } := ⟨_, rfl⟩
          have HMid := hide' hMid
          clear hMid
          refine wpIn_mono (Q := Exit.then Mid (fun _ _ _ => False)) ?_ ?_
          · refine wpIn_wide.2 ?_
            refine wp_region_held_drew (S := Tr.Fn w W4) (by kernel_rfl) hfn0 (fun hHeld => ?_)
            simp only [List.size_toArray, List.length_cons, List.length_nil, Nat.reduceAdd]
            refine wpAnyH_take (i := 0) (v := .slice pO (nd + 1) cO) rfl (by kernel_rfl) (by kernel_rfl) (by kernel_rfl) (fun _ _ _ h => h) (Or.inl ⟨by rfl, ?y0⟩) (by assumption) ?_
            case y0 => (intro w' hSw; obtain ⟨q3, q4, q5, qn⟩ := HC.out w' hSw; go_simp)
            try simp only [List.getElem_toArray, List.getElem_cons_zero, Act.put, List.setIfInBounds_toArray, List.set_cons_zero, List.set_cons_succ]
            refine wpAnyH_take (i := 1) (v := .slice pT (nd + 1) cT) rfl (by kernel_rfl) (by kernel_rfl) (by kernel_rfl) (fun _ _ _ h => h) (Or.inl ⟨by rfl, ?y1⟩) (by assumption) ?_
            case y1 => (intro w' hSw; obtain ⟨q3, q4, q5, qn⟩ := HC.out w' hSw; go_simp)
            try simp only [List.getElem_toArray, List.getElem_cons_zero, List.getElem_cons_succ, Act.put, List.setIfInBounds_toArray, List.set_cons_zero, List.set_cons_succ]
            refine wpAnyH_ready (rs := [2]) (by kernel_rfl) (by simp) ?_
            refine AllReadyH.cons rfl (fun K hK => ?_) AllReadyH.nil
            try simp only [List.getElem_toArray, List.getElem_cons_zero, List.getElem_cons_succ]
            go_simp
            refine (CI1.out _ hfn0).mono ?_
            rintro e Wa ⟨rfl, hbz⟩
            have hfn1 := Tr.Fn.go hfn0 hbz
            clear hbz
            refine hK.out _ _ hfn1 (fun hHeld9 => ?_)
            clear hK K
            try simp only [List.getElem_toArray, List.getElem_cons_zero, List.getElem_cons_succ, Act.put, List.setIfInBounds_toArray, List.set_cons_zero, List.set_cons_succ]
            refine wpAnyH_take (i := 3) (v := .bool true) rfl (by kernel_rfl) (by kernel_rfl) (by kernel_rfl) (fun _ _ _ h => h) (Or.inl ⟨by rfl, ?y3⟩) (by assumption) ?_
            case y3 => (intro w' hSw; obtain ⟨q3, q4, q5, qn⟩ := HC.out w' hSw; go_simp)
            try simp only [List.getElem_toArray, List.getElem_cons_zero, List.getElem_cons_succ, Act.put, List.setIfInBounds_toArray, List.set_cons_zero, List.set_cons_succ]
            refine wpAnyH_take (i := 4) (v := .slice pF nn cF) rfl (by kernel_rfl) (by kernel_rfl) (by kernel_rfl) (fun _ _ _ h => h) (Or.inl ⟨by rfl, ?y4⟩) (by assumption) ?_
            case y4 => (intro w' hSw; obtain ⟨q3, q4, q5, qn⟩ := HC.out w' hSw; go_simp)
            try simp only [List.getElem_toArray, List.getElem_cons_zero, List.getElem_cons_succ, Act.put, List.setIfInBounds_toArray, List.set_cons_zero, List.set_cons_succ]
            refine wpAnyH_take (i := 5) (v := .int .i64 (nn : Nat)) rfl (by kernel_rfl) (by kernel_rfl) (by kernel_rfl) (fun _ _ _ h => h) (Or.inl ⟨by rfl, ?y5⟩) (by assumption) ?_
            case y5 => (intro w' hSw; obtain ⟨q3, q4, q5, qn⟩ := HC.out w' hSw; go_simp)
            try simp only [List.getElem_toArray, List.getElem_cons_zero, List.getElem_cons_succ, Act.put, List.setIfInBounds_toArray, List.set_cons_zero, List.set_cons_succ]
            refine wpAnyH_take (i := 6) (v := .int .i64 (nn : Nat)) rfl (by kernel_rfl) (by kernel_rfl) (by kernel_rfl) (fun _ _ _ h => h) (Or.inl ⟨by rfl, ?y6⟩) (by assumption) ?_
            case y6 => (intro w' hSw; obtain ⟨q3, q4, q5, qn⟩ := HC.out w' hSw; go_simp)
            try simp only [List.getElem_toArray, List.getElem_cons_zero, List.getElem_cons_succ, Act.put, List.setIfInBounds_toArray, List.set_cons_zero, List.set_cons_succ]
            refine wpAnyH_take (i := 7) (v := .bool true) rfl (by kernel_rfl) (by kernel_rfl) (by kernel_rfl) (fun _ _ _ h => h) (Or.inl ⟨by rfl, ?y7⟩) (by assumption) ?_
            case y7 => (intro w' hSw; obtain ⟨q3, q4, q5, qn⟩ := HC.out w' hSw; go_simp)
            try simp only [List.getElem_toArray, List.getElem_cons_zero, List.getElem_cons_succ, Act.put, List.setIfInBounds_toArray, List.set_cons_zero, List.set_cons_succ]
            refine wpAnyH_take (i := 8) (v := .bool true) rfl (by kernel_rfl) (by kernel_rfl) (by kernel_rfl) (fun _ _ _ h => h) (Or.inl ⟨by rfl, ?y8⟩) (by assumption) ?_
            case y8 => (intro w' hSw; obtain ⟨q3, q4, q5, qn⟩ := HC.out w' hSw; go_simp)
            try simp only [List.getElem_toArray, List.getElem_cons_zero, List.getElem_cons_succ, Act.put, List.setIfInBounds_toArray, List.set_cons_zero, List.set_cons_succ]
            refine wpAnyH_take (i := 9) (v := .bool true) rfl (by kernel_rfl) (by kernel_rfl) (by kernel_rfl) (fun _ _ _ h => h) (Or.inl ⟨by rfl, ?y9⟩) (by assumption) ?_
            case y9 => (intro w' hSw; obtain ⟨q3, q4, q5, qn⟩ := HC.out w' hSw; go_simp)
            try simp only [List.getElem_toArray, List.getElem_cons_zero, List.getElem_cons_succ, Act.put, List.setIfInBounds_toArray, List.set_cons_zero, List.set_cons_succ]
            refine wpAnyH_take (i := 10) (v := .slice pF nn cF) rfl (by kernel_rfl) (by kernel_rfl) (by kernel_rfl) (fun _ _ _ h => h) (Or.inl ⟨by rfl, ?y10⟩) (by assumption) ?_
            case y10 => (intro w' hSw; obtain ⟨q3, q4, q5, qn⟩ := HC.out w' hSw; go_simp)
            try simp only [List.getElem_toArray, List.getElem_cons_zero, List.getElem_cons_succ, Act.put, List.setIfInBounds_toArray, List.set_cons_zero, List.set_cons_succ]
            refine wpAnyH_take (i := 11) (v := .slice pO (nd + 1) cO) rfl (by kernel_rfl) (by kernel_rfl) (by kernel_rfl) (fun _ _ _ h => h) (Or.inl ⟨by rfl, ?y11⟩) (by assumption) ?_
            case y11 => (intro w' hSw; obtain ⟨q3, q4, q5, qn⟩ := HC.out w' hSw; go_simp)
            try simp only [List.getElem_toArray, List.getElem_cons_zero, List.getElem_cons_succ, Act.put, List.setIfInBounds_toArray, List.set_cons_zero, List.set_cons_succ]
            refine wpAnyH_take (i := 12) (v := .int .i64 (nn : Nat)) rfl (by kernel_rfl) (by kernel_rfl) (by kernel_rfl) (fun _ _ _ h => h) (Or.inl ⟨by rfl, ?y12⟩) (by assumption) ?_
            case y12 => (intro w' hSw; obtain ⟨q3, q4, q5, qn⟩ := HC.out w' hSw; go_simp)
            try simp only [List.getElem_toArray, List.getElem_cons_zero, List.getElem_cons_succ, Act.put, List.setIfInBounds_toArray, List.set_cons_zero, List.set_cons_succ]
            refine wpAnyH_take (i := 13) (v := .slice pO nn cO) rfl (by kernel_rfl) (by kernel_rfl) (by kernel_rfl) (fun _ _ _ h => h) (Or.inl ⟨by rfl, ?y13⟩) (by assumption) ?_
            case y13 => (intro w' hSw; obtain ⟨q3, q4, q5, qn⟩ := HC.out w' hSw; go_simp)
            try simp only [List.getElem_toArray, List.getElem_cons_zero, List.getElem_cons_succ, Act.put, List.setIfInBounds_toArray, List.set_cons_zero, List.set_cons_succ]
            refine wpAnyH_ready (rs := [14]) (by kernel_rfl) (by simp) ?_
            refine AllReadyH.cons rfl (fun K hK => ?_) AllReadyH.nil
            try simp only [List.getElem_toArray, List.getElem_cons_zero, List.getElem_cons_succ]
            go_simp
            refine (CI2.out _ hfn1).mono ?_
            rintro e Wb ⟨rfl, hbz⟩
            have hfn2 := Tr.Fn.go hfn1 hbz
            clear hbz
            refine hK.out _ _ hfn2 (fun hHeld9 => ?_)
            clear hK K
            try simp only [List.getElem_toArray, List.getElem_cons_zero, List.getElem_cons_succ, Act.put, List.setIfInBounds_toArray, List.set_cons_zero, List.set_cons_succ]
            refine wpAnyH_take (i := 15) (v := .bool true) rfl (by kernel_rfl) (by kernel_rfl) (by kernel_rfl) (fun _ _ _ h => h) (Or.inl ⟨by rfl, ?y15⟩) (by assumption) ?_
            case y15 => (intro w' hSw; obtain ⟨q3, q4, q5, qn⟩ := HC.out w' hSw; go_simp)
            try simp only [List.getElem_toArray, List.getElem_cons_zero, List.getElem_cons_succ, Act.put, List.setIfInBounds_toArray, List.set_cons_zero, List.set_cons_succ]
            refine wpAnyH_ready (rs := [16]) (by kernel_rfl) (by simp) ?_
            refine AllReadyH.cons rfl (fun K hK => ?_) AllReadyH.nil
            try simp only [List.getElem_toArray, List.getElem_cons_zero, List.getElem_cons_succ]
            obtain ⟨bR, hR⟩ := hfn2.res
            have cR := hR.cell
            have fR := hR.frozen
            obtain ⟨hfn3, hR3⟩ := hfn2.put true
            have HR3 := hide' hR3
            clear hR hR3
            go_simp
            refine hK.out _ _ hfn3 (fun hHeld9 => ?_)
            clear hK K
            try simp only [List.getElem_toArray, List.getElem_cons_zero, List.getElem_cons_succ, Act.put, List.setIfInBounds_toArray, List.set_cons_zero, List.set_cons_succ]
            refine wpAnyH_done (by kernel_rfl) ?_ _
            show Mid _ _
            rw [HMid.out]
            exact ⟨hfn3, HR3.out, rfl, rfl⟩
          · rintro e ⟨ta, da⟩ W' h
            cases e with
            | normal =>
              have h : Mid ⟨ta, da⟩ W' := h
              rw [HMid.out] at h
              obtain ⟨h1, h2, h3, rfl⟩ := h
              gi_wp2
              exact Tr.it_leaves w _ h3 _ _ HND.out (HDS.out _ h1) h2 h1.bel
            | _ => exact h.elim
        case stopC =>
          rintro D3 c ys W4 hD3 hsp ⟨preF, x, rfl, rfl, hJ, hpl⟩ hK3
          have hpr : preF <+: Tr.numS (-1) (nd : Int) := (List.prefix_append _ _).trans hsp
          clear hsp
          have hT4 := HT3.out.go (HT3.out.ti.bel.trans (hJ.bel.mono (by have := HT3.out.ti.low; omega))) (fun k h1 h2 => hJ.same k h1 h2)
          obtain ⟨pF, cF, hbF, hrF⟩ := hJ.row
          have hvF : Tr.vals preF = (Tr.numL (-1) (nd : Int)).take nn := by
            obtain ⟨t, ht⟩ := hpr
            rw [← Tr.vals_numS, ← ht, ← hpl]
            simp [Tr.vals]
          rw [hpl] at hbF hrF
          rw [hvF] at hrF
          have hlw := hT4.ti.low
          have hl0 := hT4.l0
          have hln := hT4.ln
          have hlen : (Tr.numL (-1) (nd : Int)).length = nd + 1 := by rw [Tr.numL_length]; omega
          have hlt : ((Tr.numL (-1) (nd : Int)).take nn).length = nn := by rw [List.length_take, hlen]; have := HN1.out; omega
          have hz30 := HZ3.out
          have hz31 := HLE2.out
          have hfn0 : Tr.Fn w W4 W4.drew := ⟨hT4.ti.bel.drew, Nat.le_refl _, fun _ _ _ => rfl, false, hT4.ti.res⟩
          have HC : Hid (∀ W', Tr.Fn w W4 W' → W'.cell? ⟨M + 1 + 1 + 1, 0, none⟩ = some (.slice pO (nd + 1) cO) ∧ W'.cell? ⟨M + 1 + 1 + 1 + 1, 0, none⟩ = some (.slice pT (nd + 1) cT) ∧ W'.cell? ⟨M + 1 + 1 + 1 + 1 + 1, 0, none⟩ = some (.slice pF nn cF) ∧ W'.cell? ⟨W2.heap.size, 0, none⟩ = some (.int .i64 (nn : Nat))) := fun W' h =>
            ⟨Boxed.cell ((h.same _ hT4.b3.lt (by omega)).trans hT4.b3), Boxed.cell ((h.same _ hT4.b4.lt (by omega)).trans hT4.b4), Boxed.cell ((h.same _ hbF.lt (by omega)).trans hbF), Boxed.cell ((h.same _ hT4.bn.lt (by omega)).trans hT4.bn)⟩
          have hR3 : ∀ W', Tr.Fn w W4 W' → Tr.IRow W' (.slice pO (nd + 1) cO) (nd + 1) (Tr.numL (-1) (nd : Int)) := fun W' h => by
            have := (hT4.r3.same (W' := W') (fun g e => h.same g (Tr.IO.lt hT4.r3 e).2 (by have := (Tr.IO.lt hT4.r3 e).1; omega))).row
            rwa [hlen] at this
          have hR4 : ∀ W', Tr.Fn w W4 W' → Tr.IRow W' (.slice pT (nd + 1) cT) (nd + 1) (Tr.numL (-1) (nd : Int)) := fun W' h => by
            have := (hT4.r4.same (W' := W') (fun g e => h.same g (Tr.IO.lt hT4.r4 e).2 (by have := (Tr.IO.lt hT4.r4 e).1; omega))).row
            rwa [hlen] at this
          have hR5 : ∀ W', Tr.Fn w W4 W' → Tr.IRow W' (.slice pF nn cF) nn ((Tr.numL (-1) (nd : Int)).take nn) := fun W' h => by
            have := (hrF.same (W' := W') (fun g e => h.same g (Tr.IO.lt hrF e).2 (by have := (Tr.IO.lt hrF e).1; omega))).row
            rwa [hlt] at this
          have CI1 : Hid (∀ W', Tr.Fn w W4 W' → Calls Tryd.prog 22 #[.slice pO (nd + 1) cO, .slice pT (nd + 1) cT] W' fun e w' => e = .returned (.bool true) ∧ Below W'.heap.size W' w') := fun W' h => trInts W' _ _ (nd + 1) _ (hR3 W' h) (hR4 W' h) (by omega)
          have CI2 : Hid (∀ W', Tr.Fn w W4 W' → Calls Tryd.prog 22 #[.slice pF nn cF, .slice pO nn cO] W' fun e w' => e = .returned (.bool true) ∧ Below W'.heap.size W' w') := fun W' h => trInts W' _ _ nn _ (hR5 W' h) ((hR3 W' h).take HN1.out) (by have := HN1.out; omega)
          have HDS : Hid (∀ W', Tr.Fn w W4 W' → ∀ D' ∈ [D3, D2, D1], w.heap.size < D' ∧ W'.heap[D']? = some (.deferred (some []))) := fun W' h D' hD' => by
            have a1 := hT4.l1
            have a2 := hT4.l2
            have e : D' = D3 ∨ D' = D2 ∨ D' = D1 := by simpa using hD'
            rcases e with rfl | rfl | rfl
            · exact ⟨by omega, (h.same _ (Array.getElem?_eq_some_iff.1 hK3).1 (by omega)).trans hK3⟩
            · exact ⟨by omega, (h.same _ (Array.getElem?_eq_some_iff.1 hT4.d2).1 (by omega)).trans hT4.d2⟩
            · exact ⟨by omega, (h.same _ (Array.getElem?_eq_some_iff.1 hT4.d1).1 (by omega)).trans hT4.d1⟩
          have HND : Hid ([D3, D2, D1].Nodup) := by
            have a2 := hT4.l2
            have a3 : D2 < W3.heap.size := by have := (Array.getElem?_eq_some_iff.1 HT3.out.d2).1; exact this
            have e1 : D3 ≠ D2 := by omega
            have e2 : D3 ≠ D1 := by omega
            have e3 : D2 ≠ D1 := by omega
            show List.Nodup _
            simp [e1, e2, e3]
          have tn : (0 : Int) ≤ (nn : Int) := by omega
          have tn2 : (nn : Int) ≤ (nd : Int) + 1 := by have := HN1.out; omega
          have tn3 : nn ≤ cO := by obtain ⟨_, _, e, h1, _⟩ := hR3 _ hfn0; cases e; have := HN1.out; omega
          clear hT4 hbF hrF hvF hR3 hR4 hR5 hJ hpr hpl hK3 hlen hlt hlw hl0 hln hz30 hz31 HT3 HB53
          gi_wp2_with fail
          obtain ⟨Mid, hMid⟩ : ∃ Mid : Act → World → Prop, Mid = fun a' W' => Tr.Fn w W4 W' ∧ Boxed W' w.heap.size 4 (.bool true) ∧ a'.tmps.getD 4 undef = .pointer (some ⟨w.heap.size, 0, none⟩) ∧ a'.defers = [D3, D2, D1].map fun D => { target := .collected D, args := #[] } := ⟨_, rfl⟩
          have HMid := hide' hMid
          clear hMid
          refine wpIn_mono (Q := Exit.then Mid (fun _ _ _ => False)) ?_ ?_
          · refine wpIn_wide.2 ?_
            refine wp_region_held_drew (S := Tr.Fn w W4) (by kernel_rfl) hfn0 (fun hHeld => ?_)
            simp only [List.size_toArray, List.length_cons, List.length_nil, Nat.reduceAdd]
            refine wpAnyH_take (i := 0) (v := .slice pO (nd + 1) cO) rfl (by kernel_rfl) (by kernel_rfl) (by kernel_rfl) (fun _ _ _ h => h) (Or.inl ⟨by rfl, ?y0⟩) (by assumption) ?_
            case y0 => (intro w' hSw; obtain ⟨q3, q4, q5, qn⟩ := HC.out w' hSw; go_simp)
            try simp only [List.getElem_toArray, List.getElem_cons_zero, Act.put, List.setIfInBounds_toArray, List.set_cons_zero, List.set_cons_succ]
            refine wpAnyH_take (i := 1) (v := .slice pT (nd + 1) cT) rfl (by kernel_rfl) (by kernel_rfl) (by kernel_rfl) (fun _ _ _ h => h) (Or.inl ⟨by rfl, ?y1⟩) (by assumption) ?_
            case y1 => (intro w' hSw; obtain ⟨q3, q4, q5, qn⟩ := HC.out w' hSw; go_simp)
            try simp only [List.getElem_toArray, List.getElem_cons_zero, List.getElem_cons_succ, Act.put, List.setIfInBounds_toArray, List.set_cons_zero, List.set_cons_succ]
            refine wpAnyH_ready (rs := [2]) (by kernel_rfl) (by simp) ?_
            refine AllReadyH.cons rfl (fun K hK => ?_) AllReadyH.nil
            try simp only [List.getElem_toArray, List.getElem_cons_zero, List.getElem_cons_succ]
            go_simp
            refine (CI1.out _ hfn0).mono ?_
            rintro e Wa ⟨rfl, hbz⟩
            have hfn1 := Tr.Fn.go hfn0 hbz
            clear hbz
            refine hK.out _ _ hfn1 (fun hHeld9 => ?_)
            clear hK K
            try simp only [List.getElem_toArray, List.getElem_cons_zero, List.getElem_cons_succ, Act.put, List.setIfInBounds_toArray, List.set_cons_zero, List.set_cons_succ]
            refine wpAnyH_take (i := 3) (v := .bool true) rfl (by kernel_rfl) (by kernel_rfl) (by kernel_rfl) (fun _ _ _ h => h) (Or.inl ⟨by rfl, ?y3⟩) (by assumption) ?_
            case y3 => (intro w' hSw; obtain ⟨q3, q4, q5, qn⟩ := HC.out w' hSw; go_simp)
            try simp only [List.getElem_toArray, List.getElem_cons_zero, List.getElem_cons_succ, Act.put, List.setIfInBounds_toArray, List.set_cons_zero, List.set_cons_succ]
            refine wpAnyH_take (i := 4) (v := .slice pF nn cF) rfl (by kernel_rfl) (by kernel_rfl) (by kernel_rfl) (fun _ _ _ h => h) (Or.inl ⟨by rfl, ?y4⟩) (by assumption) ?_
            case y4 => (intro w' hSw; obtain ⟨q3, q4, q5, qn⟩ := HC.out w' hSw; go_simp)
            try simp only [List.getElem_toArray, List.getElem_cons_zero, List.getElem_cons_succ, Act.put, List.setIfInBounds_toArray, List.set_cons_zero, List.set_cons_succ]
            refine wpAnyH_take (i := 5) (v := .int .i64 (nn : Nat)) rfl (by kernel_rfl) (by kernel_rfl) (by kernel_rfl) (fun _ _ _ h => h) (Or.inl ⟨by rfl, ?y5⟩) (by assumption) ?_
            case y5 => (intro w' hSw; obtain ⟨q3, q4, q5, qn⟩ := HC.out w' hSw; go_simp)
            try simp only [List.getElem_toArray, List.getElem_cons_zero, List.getElem_cons_succ, Act.put, List.setIfInBounds_toArray, List.set_cons_zero, List.set_cons_succ]
            refine wpAnyH_take (i := 6) (v := .int .i64 (nn : Nat)) rfl (by kernel_rfl) (by kernel_rfl) (by kernel_rfl) (fun _ _ _ h => h) (Or.inl ⟨by rfl, ?y6⟩) (by assumption) ?_
            case y6 => (intro w' hSw; obtain ⟨q3, q4, q5, qn⟩ := HC.out w' hSw; go_simp)
            try simp only [List.getElem_toArray, List.getElem_cons_zero, List.getElem_cons_succ, Act.put, List.setIfInBounds_toArray, List.set_cons_zero, List.set_cons_succ]
            refine wpAnyH_take (i := 7) (v := .bool true) rfl (by kernel_rfl) (by kernel_rfl) (by kernel_rfl) (fun _ _ _ h => h) (Or.inl ⟨by rfl, ?y7⟩) (by assumption) ?_
            case y7 => (intro w' hSw; obtain ⟨q3, q4, q5, qn⟩ := HC.out w' hSw; go_simp)
            try simp only [List.getElem_toArray, List.getElem_cons_zero, List.getElem_cons_succ, Act.put, List.setIfInBounds_toArray, List.set_cons_zero, List.set_cons_succ]
            refine wpAnyH_take (i := 8) (v := .bool true) rfl (by kernel_rfl) (by kernel_rfl) (by kernel_rfl) (fun _ _ _ h => h) (Or.inl ⟨by rfl, ?y8⟩) (by assumption) ?_
            case y8 => (intro w' hSw; obtain ⟨q3, q4, q5, qn⟩ := HC.out w' hSw; go_simp)
            try simp only [List.getElem_toArray, List.getElem_cons_zero, List.getElem_cons_succ, Act.put, List.setIfInBounds_toArray, List.set_cons_zero, List.set_cons_succ]
            refine wpAnyH_take (i := 9) (v := .bool true) rfl (by kernel_rfl) (by kernel_rfl) (by kernel_rfl) (fun _ _ _ h => h) (Or.inl ⟨by rfl, ?y9⟩) (by assumption) ?_
            case y9 => (intro w' hSw; obtain ⟨q3, q4, q5, qn⟩ := HC.out w' hSw; go_simp)
            try simp only [List.getElem_toArray, List.getElem_cons_zero, List.getElem_cons_succ, Act.put, List.setIfInBounds_toArray, List.set_cons_zero, List.set_cons_succ]
            refine wpAnyH_take (i := 10) (v := .slice pF nn cF) rfl (by kernel_rfl) (by kernel_rfl) (by kernel_rfl) (fun _ _ _ h => h) (Or.inl ⟨by rfl, ?y10⟩) (by assumption) ?_
            case y10 => (intro w' hSw; obtain ⟨q3, q4, q5, qn⟩ := HC.out w' hSw; go_simp)
            try simp only [List.getElem_toArray, List.getElem_cons_zero, List.getElem_cons_succ, Act.put, List.setIfInBounds_toArray, List.set_cons_zero, List.set_cons_succ]
            refine wpAnyH_take (i := 11) (v := .slice pO (nd + 1) cO) rfl (by kernel_rfl) (by kernel_rfl) (by kernel_rfl) (fun _ _ _ h => h) (Or.inl ⟨by rfl, ?y11⟩) (by assumption) ?_
            case y11 => (intro w' hSw; obtain ⟨q3, q4, q5, qn⟩ := HC.out w' hSw; go_simp)
            try simp only [List.getElem_toArray, List.getElem_cons_zero, List.getElem_cons_succ, Act.put, List.setIfInBounds_toArray, List.set_cons_zero, List.set_cons_succ]
            refine wpAnyH_take (i := 12) (v := .int .i64 (nn : Nat)) rfl (by kernel_rfl) (by kernel_rfl) (by kernel_rfl) (fun _ _ _ h => h) (Or.inl ⟨by rfl, ?y12⟩) (by assumption) ?_
            case y12 => (intro w' hSw; obtain ⟨q3, q4, q5, qn⟩ := HC.out w' hSw; go_simp)
            try simp only [List.getElem_toArray, List.getElem_cons_zero, List.getElem_cons_succ, Act.put, List.setIfInBounds_toArray, List.set_cons_zero, List.set_cons_succ]
            refine wpAnyH_take (i := 13) (v := .slice pO nn cO) rfl (by kernel_rfl) (by kernel_rfl) (by kernel_rfl) (fun _ _ _ h => h) (Or.inl ⟨by rfl, ?y13⟩) (by assumption) ?_
            case y13 => (intro w' hSw; obtain ⟨q3, q4, q5, qn⟩ := HC.out w' hSw; go_simp)
            try simp only [List.getElem_toArray, List.getElem_cons_zero, List.getElem_cons_succ, Act.put, List.setIfInBounds_toArray, List.set_cons_zero, List.set_cons_succ]
            refine wpAnyH_ready (rs := [14]) (by kernel_rfl) (by simp) ?_
            refine AllReadyH.cons rfl (fun K hK => ?_) AllReadyH.nil
            try simp only [List.getElem_toArray, List.getElem_cons_zero, List.getElem_cons_succ]
            go_simp
            refine (CI2.out _ hfn1).mono ?_
            rintro e Wb ⟨rfl, hbz⟩
            have hfn2 := Tr.Fn.go hfn1 hbz
            clear hbz
            refine hK.out _ _ hfn2 (fun hHeld9 => ?_)
            clear hK K
            try simp only [List.getElem_toArray, List.getElem_cons_zero, List.getElem_cons_succ, Act.put, List.setIfInBounds_toArray, List.set_cons_zero, List.set_cons_succ]
            refine wpAnyH_take (i := 15) (v := .bool true) rfl (by kernel_rfl) (by kernel_rfl) (by kernel_rfl) (fun _ _ _ h => h) (Or.inl ⟨by rfl, ?y15⟩) (by assumption) ?_
            case y15 => (intro w' hSw; obtain ⟨q3, q4, q5, qn⟩ := HC.out w' hSw; go_simp)
            try simp only [List.getElem_toArray, List.getElem_cons_zero, List.getElem_cons_succ, Act.put, List.setIfInBounds_toArray, List.set_cons_zero, List.set_cons_succ]
            refine wpAnyH_ready (rs := [16]) (by kernel_rfl) (by simp) ?_
            refine AllReadyH.cons rfl (fun K hK => ?_) AllReadyH.nil
            try simp only [List.getElem_toArray, List.getElem_cons_zero, List.getElem_cons_succ]
            obtain ⟨bR, hR⟩ := hfn2.res
            have cR := hR.cell
            have fR := hR.frozen
            obtain ⟨hfn3, hR3⟩ := hfn2.put true
            have HR3 := hide' hR3
            clear hR hR3
            go_simp
            refine hK.out _ _ hfn3 (fun hHeld9 => ?_)
            clear hK K
            try simp only [List.getElem_toArray, List.getElem_cons_zero, List.getElem_cons_succ, Act.put, List.setIfInBounds_toArray, List.set_cons_zero, List.set_cons_succ]
            refine wpAnyH_done (by kernel_rfl) ?_ _
            show Mid _ _
            rw [HMid.out]
            exact ⟨hfn3, HR3.out, rfl, rfl⟩
          · rintro e ⟨ta, da⟩ W' h
            cases e with
            | normal =>
              have h : Mid ⟨ta, da⟩ W' := h
              rw [HMid.out] at h
              obtain ⟨h1, h2, h3, rfl⟩ := h
              gi_wp2
              exact Tr.it_leaves w _ h3 _ _ HND.out (HDS.out _ h1) h2 h1.bel
            | _ => exact h.elim
      · clear cAm
        gi_wp2_with fail
        obtain ⟨nn, hnn, hn1⟩ : ∃ nn : Nat, (0 : Int) = (nn : Int) ∧ nn ≤ nd + 1 := ⟨0, rfl, by omega⟩
        rw [show (W2.alloc (.cells #[.int .i64 0] 3)) = W2.alloc (.cells #[.int .i64 (nn : Int)] 3) by rw [← hnn]]
        clear hnn cAl cOn hst
        obtain ⟨W3, hW3⟩ : ∃ W3, W2.alloc (.cells #[.int .i64 (nn : Int)] 3) = W3 := ⟨_, rfl⟩
        have hT3 := HT.out nn
        have hb53 := HB5.out.alloc (.cells #[.int .i64 (nn : Int)] 3)
        have hz3 : W2.heap.size < W3.heap.size := by rw [← hW3]; simp
        rw [hW3] at hT3 hb53 ⊢
        have HT3 := hide' hT3
        have HB53 := hide' hb53
        have HN1 := hide' hn1
        have HZ3 := hide' hz3
        clear hT3 hb53 hW3 HT HBO HI3 HB5 hn1 hz3
        refine wpIn_rangeFunc_ownH rfl (by omega) (gf := 52) (lb := #[.pointer (some ⟨M, 0, none⟩), .pointer (some ⟨M + 1, 0, none⟩)]) rfl trivial (enters_of Tryd.func52 (by kernel_rfl) rfl)
          (trNum_stops Fence.wide 7 trivial rfl (by omega) M (M + 1) (-1) (nd : Int) (by omega) (by omega) W3 HT3.out.ti.bf.cell HT3.out.ti.be.cell) Tr.keep1_t (Tr.keep1_b (by have := HZ3.out; have := HLE2.out; omega)) (Below.refl _ _) (fun _ => rfl)
          (fun pre Wq => Tr.CJ (M + 1 + 1 + 1 + 1 + 1) W3.heap.size W3 pre Wq ∧ pre.length ≤ nn) (Tr.Ix3 (M + 1 + 1 + 1 + 1 + 1) W3 nn)
          (fun pre W W' row h hg hr => ⟨Tr.CJ.own _ _ _ _ (Nat.le_refl _) pre W W' row h.1 hg hr, h.2⟩) (fun _ _ W W' row h hg hr => by obtain ⟨pre, x, e1, e2, h3, h4⟩ := h; exact ⟨pre, x, e1, e2, Tr.CJ.own _ _ _ _ (Nat.le_refl _) pre W W' row h3 hg hr, h4⟩) ⟨Tr.cj_start HB53.out, Nat.zero_le _⟩
          (fun x a' _ => a' = { tmps := #[v, .int .i64 st, undef, undef, .pointer (some ⟨w.heap.size, 0, none⟩), .pointer (some ⟨D, 0, none⟩), .int .i64 0, .pointer (some ⟨M + 1 + 1, 0, none⟩), .pointer (some ⟨M + 1 + 1 + 1, 0, none⟩), .pointer (some ⟨M + 1 + 1 + 1 + 1, 0, none⟩), .pointer (some ⟨M + 1 + 1 + 1 + 1 + 1, 0, none⟩), undef, undef, undef, undef, .pointer (some ⟨W2.heap.size, 0, none⟩), .int .i64 x.1, .bool true, .bool false, .tuple #[.pointer (some ⟨D, 0, none⟩), .int .i64 0], v, .slice (some ⟨L0, 0, none⟩) n n, .tuple #[.pointer (some ⟨D, 0, none⟩), .int .i64 0], .pointer (some ⟨D, 0, none⟩), .int .i64 0, .int .i64 0, .bool false, .bool false, .pointer (some ⟨D, 0, none⟩), .int .i64 (nd : Nat), .bool bz, .bool bz, .pointer (some ⟨D, 0, none⟩), .func (.func 52) #[] #[.pointer (some ⟨M, 0, none⟩), .pointer (some ⟨M + 1, 0, none⟩)], .func (.func 52) #[] #[.pointer (some ⟨M, 0, none⟩), .pointer (some ⟨M + 1, 0, none⟩)], undef, undef, undef, undef, undef, undef, undef, undef, undef, undef, undef, undef, undef, undef, undef, undef, undef, undef, undef, undef, .func (.func 52) #[] #[.pointer (some ⟨M, 0, none⟩), .pointer (some ⟨M + 1, 0, none⟩)], undef, undef, undef, undef, undef, undef, undef, undef, .int .i64 st, .bool false, undef, undef, undef, undef, undef, .func (.func 52) #[] #[.pointer (some ⟨M, 0, none⟩), .pointer (some ⟨M + 1, 0, none⟩)], .int .i64 x.1, undef, undef, undef, undef, undef, undef, undef, undef, undef, undef, undef, undef, undef, undef, undef, undef, undef, undef, undef, undef, undef, undef, undef, undef], defers := [] }) (fun _ _ _ _ _ _ hs _ _ => hs) ?assignC ?bodyC ?doneC ?stopC
        case assignC =>
          rintro l pre x Wq K hi hK
          simp only [Tr.encI]
          gi_wp2
          exact hK _ _ (KeepsFrom.refl _ _) rfl hi rfl
        case bodyC =>
          rintro l pre ⟨x, hx1, hx2⟩ a' Wq hl - ⟨hI, hnn⟩ rfl hlt
          dsimp only
          have hT4 := HT3.out.go (HT3.out.ti.bel.trans (hI.bel.mono (by have := HT3.out.ti.low; omega))) (fun k h1 h2 => hI.same k h1 h2)
          have cN := hT4.bn.cell
          clear hT4
          obtain ⟨i0, hi, hz0, hz1, hz2⟩ := info_parts Tr.intInfo
          obtain ⟨v1, hv, hrow, _⟩ := hI.box
          obtain ⟨p, cap1, rfl, _, _⟩ := Tr.owns_sl hrow
          have cb := hv.cell
          have fb := hv.frozen
          have hle := hI.le
          have hz3 := HZ3.out
          have hle2 := HLE2.out
          rw [HLS.out] at hlt
          have HJ := hide' hI
          clear hI
          by_cases e0 : pre.length = nn
          · have HX : Hid (Tr.Ix3 (M + 1 + 1 + 1 + 1 + 1) W3 nn (.exit 6) (pre ++ [(⟨x, hx1, hx2⟩ : Tr.Num (-1) (nd : Int))]) Wq) := ⟨pre, _, rfl, rfl, HJ.out, e0⟩
            have t1 : ((pre.length : Int) == (nn : Int)) = true := by rw [e0]; simp
            clear e0 hnn hrow hv HJ hz3 hle2 hle hlt
            gi_wp2
            exact ⟨KeepsFrom.refl _ _, HX.out⟩
          have t1 : ((pre.length : Int) == (nn : Int)) = false := by simp; omega
          have HNN : Hid (pre.length + 1 ≤ nn) := by show _ ≤ _; omega
          clear e0 hnn
          gi_wp2_with (gi_at_builtin; refine wpListIn_append_own _ rfl _ _ 52 rfl W3.heap.size 3 i0 (.int .i64 0) 1 8 Tryd.underlying52 hi hz0 hz1 hz2 rfl (by decide) _ _ _ rfl (hrow.alloc _) ⟨Wq.heap.size, 0, none⟩ 1 1 [.int .i64 x] rfl rfl ?c1 ?c2 ?c3 ?c4 ?c5 ?_)
          case c1 => exact cell_one_new _ _ _
          case c2 => intro u hu; rw [List.mem_singleton.1 hu]; rfl
          case c3 => unfold maxLen; omega
          case c4 => omega
          case c5 => simp; omega
          intro v' w3 hown' hg3 _
          obtain ⟨g', cap', rfl⟩ := ownsRow_succ hown'
          obtain ⟨hv3, hCJ, hko, hsm⟩ := HJ.out.app (x := ⟨x, hx1, hx2⟩) hv hrow hown' hg3
          have cb3 := hv3.cell
          have fb3 := hv3.frozen
          have HKP : Hid (Tr.Keep1 (M + 1) Wq (w3.setCell ⟨M + 1 + 1 + 1 + 1 + 1, 0, none⟩ (.slice (some ⟨g', 0, none⟩) (pre.length + 1) cap'))) := World.cell?_of_block (a := ⟨M + 1, 0, none⟩) (hsm (M + 1) (by omega) (by omega))
          have HCJ := hide' hCJ
          have HKO := hide' hko
          clear hCJ hko hsm hv3 hown' hg3 hrow hv HJ
          gi_wp2
          exact ⟨HKO.out.from _, HKP.out, HCJ.out, by rw [List.length_append]; exact HNN.out⟩
        case doneC =>
          rintro D3 ys W4 hD3 rfl ⟨hJ, hnn⟩ hK3
          have hpl : (Tr.numS (-1) (nd : Int)).length = nn := by have := HLS.out; have := HN1.out; omega
          have hpr : Tr.numS (-1) (nd : Int) <+: Tr.numS (-1) (nd : Int) := List.prefix_rfl
          obtain ⟨preF, hpf⟩ : ∃ preF, Tr.numS (-1) (nd : Int) = preF := ⟨_, rfl⟩
          rw [hpf] at hJ hpl
          have hpr : preF <+: Tr.numS (-1) (nd : Int) := by rw [hpf]; exact List.prefix_rfl
          clear hpf
          have hT4 := HT3.out.go (HT3.out.ti.bel.trans (hJ.bel.mono (by have := HT3.out.ti.low; omega))) (fun k h1 h2 => hJ.same k h1 h2)
          obtain ⟨pF, cF, hbF, hrF⟩ := hJ.row
          have hvF : Tr.vals preF = (Tr.numL (-1) (nd : Int)).take nn := by
            obtain ⟨t, ht⟩ := hpr
            rw [← Tr.vals_numS, ← ht, ← hpl]
            simp [Tr.vals]
          rw [hpl] at hbF hrF
          rw [hvF] at hrF
          have hlw := hT4.ti.low
          have hl0 := hT4.l0
          have hln := hT4.ln
          have hlen : (Tr.numL (-1) (nd : Int)).length = nd + 1 := by rw [Tr.numL_length]; omega
          have hlt : ((Tr.numL (-1) (nd : Int)).take nn).length = nn := by rw [List.length_take, hlen]; have := HN1.out; omega
          have hz30 := HZ3.out
          have hz31 := HLE2.out
          have hfn0 : Tr.Fn w W4 W4.drew := ⟨hT4.ti.bel.drew, Nat.le_refl _, fun _ _ _ => rfl, false, hT4.ti.res⟩
          have HC : Hid (∀ W', Tr.Fn w W4 W' → W'.cell? ⟨M + 1 + 1 + 1, 0, none⟩ = some (.slice pO (nd + 1) cO) ∧ W'.cell? ⟨M + 1 + 1 + 1 + 1, 0, none⟩ = some (.slice pT (nd + 1) cT) ∧ W'.cell? ⟨M + 1 + 1 + 1 + 1 + 1, 0, none⟩ = some (.slice pF nn cF) ∧ W'.cell? ⟨W2.heap.size, 0, none⟩ = some (.int .i64 (nn : Nat))) := fun W' h =>
            ⟨Boxed.cell ((h.same _ hT4.b3.lt (by omega)).trans hT4.b3), Boxed.cell ((h.same _ hT4.b4.lt (by omega)).trans hT4.b4), Boxed.cell ((h.same _ hbF.lt (by omega)).trans hbF), Boxed.cell ((h.same _ hT4.bn.lt (by omega)).trans hT4.bn)⟩
          have hR3 : ∀ W', Tr.Fn w W4 W' → Tr.IRow W' (.slice pO (nd + 1) cO) (nd + 1) (Tr.numL (-1) (nd : Int)) := fun W' h => by
            have := (hT4.r3.same (W' := W') (fun g e => h.same g (Tr.IO.lt hT4.r3 e).2 (by have := (Tr.IO.lt hT4.r3 e).1; omega))).row
            rwa [hlen] at this
          have hR4 : ∀ W', Tr.Fn w W4 W' → Tr.IRow W' (.slice pT (nd + 1) cT) (nd + 1) (Tr.numL (-1) (nd : Int)) := fun W' h => by
            have := (hT4.r4.same (W' := W') (fun g e => h.same g (Tr.IO.lt hT4.r4 e).2 (by have := (Tr.IO.lt hT4.r4 e).1; omega))).row
            rwa [hlen] at this
          have hR5 : ∀ W', Tr.Fn w W4 W' → Tr.IRow W' (.slice pF nn cF) nn ((Tr.numL (-1) (nd : Int)).take nn) := fun W' h => by
            have := (hrF.same (W' := W') (fun g e => h.same g (Tr.IO.lt hrF e).2 (by have := (Tr.IO.lt hrF e).1; omega))).row
            rwa [hlt] at this
          have CI1 : Hid (∀ W', Tr.Fn w W4 W' → Calls Tryd.prog 22 #[.slice pO (nd + 1) cO, .slice pT (nd + 1) cT] W' fun e w' => e = .returned (.bool true) ∧ Below W'.heap.size W' w') := fun W' h => trInts W' _ _ (nd + 1) _ (hR3 W' h) (hR4 W' h) (by omega)
          have CI2 : Hid (∀ W', Tr.Fn w W4 W' → Calls Tryd.prog 22 #[.slice pF nn cF, .slice pO nn cO] W' fun e w' => e = .returned (.bool true) ∧ Below W'.heap.size W' w') := fun W' h => trInts W' _ _ nn _ (hR5 W' h) ((hR3 W' h).take HN1.out) (by have := HN1.out; omega)
          have HDS : Hid (∀ W', Tr.Fn w W4 W' → ∀ D' ∈ [D3, D2, D1], w.heap.size < D' ∧ W'.heap[D']? = some (.deferred (some []))) := fun W' h D' hD' => by
            have a1 := hT4.l1
            have a2 := hT4.l2
            have e : D' = D3 ∨ D' = D2 ∨ D' = D1 := by simpa using hD'
            rcases e with rfl | rfl | rfl
            · exact ⟨by omega, (h.same _ (Array.getElem?_eq_some_iff.1 hK3).1 (by omega)).trans hK3⟩
            · exact ⟨by omega, (h.same _ (Array.getElem?_eq_some_iff.1 hT4.d2).1 (by omega)).trans hT4.d2⟩
            · exact ⟨by omega, (h.same _ (Array.getElem?_eq_some_iff.1 hT4.d1).1 (by omega)).trans hT4.d1⟩
          have HND : Hid ([D3, D2, D1].Nodup) := by
            have a2 := hT4.l2
            have a3 : D2 < W3.heap.size := by have := (Array.getElem?_eq_some_iff.1 HT3.out.d2).1; exact this
            have e1 : D3 ≠ D2 := by omega
            have e2 : D3 ≠ D1 := by omega
            have e3 : D2 ≠ D1 := by omega
            show List.Nodup _
            simp [e1, e2, e3]
          have tn : (0 : Int) ≤ (nn : Int) := by omega
          have tn2 : (nn : Int) ≤ (nd : Int) + 1 := by have := HN1.out; omega
          have tn3 : nn ≤ cO := by obtain ⟨_, _, e, h1, _⟩ := hR3 _ hfn0; cases e; have := HN1.out; omega
          clear hT4 hbF hrF hvF hR3 hR4 hR5 hJ hpr hpl hK3 hlen hlt hlw hl0 hln hz30 hz31 HT3 HB53
          gi_wp2_with fail
          obtain ⟨Mid, hMid⟩ : ∃ Mid : Act → World → Prop, Mid = fun a' W' => Tr.Fn w W4 W' ∧ Boxed W' w.heap.size 4 (.bool true) ∧ a'.tmps.getD 4 undef = .pointer (some ⟨w.heap.size, 0, none⟩) ∧ a'.defers = [D3, D2, D1].map fun D => { target := .collected D, args := #[] } := ⟨_, rfl⟩
          have HMid := hide' hMid
          clear hMid
          refine wpIn_mono (Q := Exit.then Mid (fun _ _ _ => False)) ?_ ?_
          · refine wpIn_wide.2 ?_
            refine wp_region_held_drew (S := Tr.Fn w W4) (by kernel_rfl) hfn0 (fun hHeld => ?_)
            simp only [List.size_toArray, List.length_cons, List.length_nil, Nat.reduceAdd]
            refine wpAnyH_take (i := 0) (v := .slice pO (nd + 1) cO) rfl (by kernel_rfl) (by kernel_rfl) (by kernel_rfl) (fun _ _ _ h => h) (Or.inl ⟨by rfl, ?y0⟩) (by assumption) ?_
            case y0 => (intro w' hSw; obtain ⟨q3, q4, q5, qn⟩ := HC.out w' hSw; go_simp)
            try simp only [List.getElem_toArray, List.getElem_cons_zero, Act.put, List.setIfInBounds_toArray, List.set_cons_zero, List.set_cons_succ]
            refine wpAnyH_take (i := 1) (v := .slice pT (nd + 1) cT) rfl (by kernel_rfl) (by kernel_rfl) (by kernel_rfl) (fun _ _ _ h => h) (Or.inl ⟨by rfl, ?y1⟩) (by assumption) ?_
            case y1 => (intro w' hSw; obtain ⟨q3, q4, q5, qn⟩ := HC.out w' hSw; go_simp)
            try simp only [List.getElem_toArray, List.getElem_cons_zero, List.getElem_cons_succ, Act.put, List.setIfInBounds_toArray, List.set_cons_zero, List.set_cons_succ]
            refine wpAnyH_ready (rs := [2]) (by kernel_rfl) (by simp) ?_
            refine AllReadyH.cons rfl (fun K hK => ?_) AllReadyH.nil
            try simp only [List.getElem_toArray, List.getElem_cons_zero, List.getElem_cons_succ]
            go_simp
            refine (CI1.out _ hfn0).mono ?_
            rintro e Wa ⟨rfl, hbz⟩
            have hfn1 := Tr.Fn.go hfn0 hbz
            clear hbz
            refine hK.out _ _ hfn1 (fun hHeld9 => ?_)
            clear hK K
            try simp only [List.getElem_toArray, List.getElem_cons_zero, List.getElem_cons_succ, Act.put, List.setIfInBounds_toArray, List.set_cons_zero, List.set_cons_succ]
            refine wpAnyH_take (i := 3) (v := .bool true) rfl (by kernel_rfl) (by kernel_rfl) (by kernel_rfl) (fun _ _ _ h => h) (Or.inl ⟨by rfl, ?y3⟩) (by assumption) ?_
            case y3 => (intro w' hSw; obtain ⟨q3, q4, q5, qn⟩ := HC.out w' hSw; go_simp)
            try simp only [List.getElem_toArray, List.getElem_cons_zero, List.getElem_cons_succ, Act.put, List.setIfInBounds_toArray, List.set_cons_zero, List.set_cons_succ]
            refine wpAnyH_take (i := 4) (v := .slice pF nn cF) rfl (by kernel_rfl) (by kernel_rfl) (by kernel_rfl) (fun _ _ _ h => h) (Or.inl ⟨by rfl, ?y4⟩) (by assumption) ?_
            case y4 => (intro w' hSw; obtain ⟨q3, q4, q5, qn⟩ := HC.out w' hSw; go_simp)
            try simp only [List.getElem_toArray, List.getElem_cons_zero, List.getElem_cons_succ, Act.put, List.setIfInBounds_toArray, List.set_cons_zero, List.set_cons_succ]
            refine wpAnyH_take (i := 5) (v := .int .i64 (nn : Nat)) rfl (by kernel_rfl) (by kernel_rfl) (by kernel_rfl) (fun _ _ _ h => h) (Or.inl ⟨by rfl, ?y5⟩) (by assumption) ?_
            case y5 => (intro w' hSw; obtain ⟨q3, q4, q5, qn⟩ := HC.out w' hSw; go_simp)
            try simp only [List.getElem_toArray, List.getElem_cons_zero, List.getElem_cons_succ, Act.put, List.setIfInBounds_toArray, List.set_cons_zero, List.set_cons_succ]
            refine wpAnyH_take (i := 6) (v := .int .i64 (nn : Nat)) rfl (by kernel_rfl) (by kernel_rfl) (by kernel_rfl) (fun _ _ _ h => h) (Or.inl ⟨by rfl, ?y6⟩) (by assumption) ?_
            case y6 => (intro w' hSw; obtain ⟨q3, q4, q5, qn⟩ := HC.out w' hSw; go_simp)
            try simp only [List.getElem_toArray, List.getElem_cons_zero, List.getElem_cons_succ, Act.put, List.setIfInBounds_toArray, List.set_cons_zero, List.set_cons_succ]
            refine wpAnyH_take (i := 7) (v := .bool true) rfl (by kernel_rfl) (by kernel_rfl) (by kernel_rfl) (fun _ _ _ h => h) (Or.inl ⟨by rfl, ?y7⟩) (by assumption) ?_
            case y7 => (intro w' hSw; obtain ⟨q3, q4, q5, qn⟩ := HC.out w' hSw; go_simp)
            try simp only [List.getElem_toArray, List.getElem_cons_zero, List.getElem_cons_succ, Act.put, List.setIfInBounds_toArray, List.set_cons_zero, List.set_cons_succ]
            refine wpAnyH_take (i := 8) (v := .bool true) rfl (by kernel_rfl) (by kernel_rfl) (by kernel_rfl) (fun _ _ _ h => h) (Or.inl ⟨by rfl, ?y8⟩) (by assumption) ?_
            case y8 => (intro w' hSw; obtain ⟨q3, q4, q5, qn⟩ := HC.out w' hSw; go_simp)
            try simp only [List.getElem_toArray, List.getElem_cons_zero, List.getElem_cons_succ, Act.put, List.setIfInBounds_toArray, List.set_cons_zero, List.set_cons_succ]
            refine wpAnyH_take (i := 9) (v := .bool true) rfl (by kernel_rfl) (by kernel_rfl) (by kernel_rfl) (fun _ _ _ h => h) (Or.inl ⟨by rfl, ?y9⟩) (by assumption) ?_
            case y9 => (intro w' hSw; obtain ⟨q3, q4, q5, qn⟩ := HC.out w' hSw; go_simp)
            try simp only [List.getElem_toArray, List.getElem_cons_zero, List.getElem_cons_succ, Act.put, List.setIfInBounds_toArray, List.set_cons_zero, List.set_cons_succ]
            refine wpAnyH_take (i := 10) (v := .slice pF nn cF) rfl (by kernel_rfl) (by kernel_rfl) (by kernel_rfl) (fun _ _ _ h => h) (Or.inl ⟨by rfl, ?y10⟩) (by assumption) ?_
            case y10 => (intro w' hSw; obtain ⟨q3, q4, q5, qn⟩ := HC.out w' hSw; go_simp)
            try simp only [List.getElem_toArray, List.getElem_cons_zero, List.getElem_cons_succ, Act.put, List.setIfInBounds_toArray, List.set_cons_zero, List.set_cons_succ]
            refine wpAnyH_take (i := 11) (v := .slice pO (nd + 1) cO) rfl (by kernel_rfl) (by kernel_rfl) (by kernel_rfl) (fun _ _ _ h => h) (Or.inl ⟨by rfl, ?y11⟩) (by assumption) ?_
            case y11 => (intro w' hSw; obtain ⟨q3, q4, q5, qn⟩ := HC.out w' hSw; go_simp)
            try simp only [List.getElem_toArray, List.getElem_cons_zero, List.getElem_cons_succ, Act.put, List.setIfInBounds_toArray, List.set_cons_zero, List.set_cons_succ]
            refine wpAnyH_take (i := 12) (v := .int .i64 (nn : Nat)) rfl (by kernel_rfl) (by kernel_rfl) (by kernel_rfl) (fun _ _ _ h => h) (Or.inl ⟨by rfl, ?y12⟩) (by assumption) ?_
            case y12 => (intro w' hSw; obtain ⟨q3, q4, q5, qn⟩ := HC.out w' hSw; go_simp)
            try simp only [List.getElem_toArray, List.getElem_cons_zero, List.getElem_cons_succ, Act.put, List.setIfInBounds_toArray, List.set_cons_zero, List.set_cons_succ]
            refine wpAnyH_take (i := 13) (v := .slice pO nn cO) rfl (by kernel_rfl) (by kernel_rfl) (by kernel_rfl) (fun _ _ _ h => h) (Or.inl ⟨by rfl, ?y13⟩) (by assumption) ?_
            case y13 => (intro w' hSw; obtain ⟨q3, q4, q5, qn⟩ := HC.out w' hSw; go_simp)
            try simp only [List.getElem_toArray, List.getElem_cons_zero, List.getElem_cons_succ, Act.put, List.setIfInBounds_toArray, List.set_cons_zero, List.set_cons_succ]
            refine wpAnyH_ready (rs := [14]) (by kernel_rfl) (by simp) ?_
            refine AllReadyH.cons rfl (fun K hK => ?_) AllReadyH.nil
            try simp only [List.getElem_toArray, List.getElem_cons_zero, List.getElem_cons_succ]
            go_simp
            refine (CI2.out _ hfn1).mono ?_
            rintro e Wb ⟨rfl, hbz⟩
            have hfn2 := Tr.Fn.go hfn1 hbz
            clear hbz
            refine hK.out _ _ hfn2 (fun hHeld9 => ?_)
            clear hK K
            try simp only [List.getElem_toArray, List.getElem_cons_zero, List.getElem_cons_succ, Act.put, List.setIfInBounds_toArray, List.set_cons_zero, List.set_cons_succ]
            refine wpAnyH_take (i := 15) (v := .bool true) rfl (by kernel_rfl) (by kernel_rfl) (by kernel_rfl) (fun _ _ _ h => h) (Or.inl ⟨by rfl, ?y15⟩) (by assumption) ?_
            case y15 => (intro w' hSw; obtain ⟨q3, q4, q5, qn⟩ := HC.out w' hSw; go_simp)
            try simp only [List.getElem_toArray, List.getElem_cons_zero, List.getElem_cons_succ, Act.put, List.setIfInBounds_toArray, List.set_cons_zero, List.set_cons_succ]
            refine wpAnyH_ready (rs := [16]) (by kernel_rfl) (by simp) ?_
            refine AllReadyH.cons rfl (fun K hK => ?_) AllReadyH.nil
            try simp only [List.getElem_toArray, List.getElem_cons_zero, List.getElem_cons_succ]
            obtain ⟨bR, hR⟩ := hfn2.res
            have cR := hR.cell
            have fR := hR.frozen
            obtain ⟨hfn3, hR3⟩ := hfn2.put true
            have HR3 := hide' hR3
            clear hR hR3
            go_simp
            refine hK.out _ _ hfn3 (fun hHeld9 => ?_)
            clear hK K
            try simp only [List.getElem_toArray, List.getElem_cons_zero, List.getElem_cons_succ, Act.put, List.setIfInBounds_toArray, List.set_cons_zero, List.set_cons_succ]
            refine wpAnyH_done (by kernel_rfl) ?_ _
            show Mid _ _
            rw [HMid.out]
            exact ⟨hfn3, HR3.out, rfl, rfl⟩
          · rintro e ⟨ta, da⟩ W' h
            cases e with
            | normal =>
              have h : Mid ⟨ta, da⟩ W' := h
              rw [HMid.out] at h
              obtain ⟨h1, h2, h3, rfl⟩ := h
              gi_wp2
              exact Tr.it_leaves w _ h3 _ _ HND.out (HDS.out _ h1) h2 h1.bel
            | _ => exact h.elim
        case stopC =>
          rintro D3 c ys W4 hD3 hsp ⟨preF, x, rfl, rfl, hJ, hpl⟩ hK3
          have hpr : preF <+: Tr.numS (-1) (nd : Int) := (List.prefix_append _ _).trans hsp
          clear hsp
          have hT4 := HT3.out.go (HT3.out.ti.bel.trans (hJ.bel.mono (by have := HT3.out.ti.low; omega))) (fun k h1 h2 => hJ.same k h1 h2)
          obtain ⟨pF, cF, hbF, hrF⟩ := hJ.row
          have hvF : Tr.vals preF = (Tr.numL (-1) (nd : Int)).take nn := by
            obtain ⟨t, ht⟩ := hpr
            rw [← Tr.vals_numS, ← ht, ← hpl]
            simp [Tr.vals]
          rw [hpl] at hbF hrF
          rw [hvF] at hrF
          have hlw := hT4.ti.low
          have hl0 := hT4.l0
          have hln := hT4.ln
          have hlen : (Tr.numL (-1) (nd : Int)).length = nd + 1 := by rw [Tr.numL_length]; omega
          have hlt : ((Tr.numL (-1) (nd : Int)).take nn).length = nn := by rw [List.length_take, hlen]; have := HN1.out; omega
          have hz30 := HZ3.out
          have hz31 := HLE2.out
          have hfn0 : Tr.Fn w W4 W4.drew := ⟨hT4.ti.bel.drew, Nat.le_refl _, fun _ _ _ => rfl, false, hT4.ti.res⟩
          have HC : Hid (∀ W', Tr.Fn w W4 W' → W'.cell? ⟨M + 1 + 1 + 1, 0, none⟩ = some (.slice pO (nd + 1) cO) ∧ W'.cell? ⟨M + 1 + 1 + 1 + 1, 0, none⟩ = some (.slice pT (nd + 1) cT) ∧ W'.cell? ⟨M + 1 + 1 + 1 + 1 + 1, 0, none⟩ = some (.slice pF nn cF) ∧ W'.cell? ⟨W2.heap.size, 0, none⟩ = some (.int .i64 (nn : Nat))) := fun W' h =>
            ⟨Boxed.cell ((h.same _ hT4.b3.lt (by omega)).trans hT4.b3), Boxed.cell ((h.same _ hT4.b4.lt (by omega)).trans hT4.b4), Boxed.cell ((h.same _ hbF.lt (by omega)).trans hbF), Boxed.cell ((h.same _ hT4.bn.lt (by omega)).trans hT4.bn)⟩
          have hR3 : ∀ W', Tr.Fn w W4 W' → Tr.IRow W' (.slice pO (nd + 1) cO) (nd + 1) (Tr.numL (-1) (nd : Int)) := fun W' h => by
            have := (hT4.r3.same (W' := W') (fun g e => h.same g (Tr.IO.lt hT4.r3 e).2 (by have := (Tr.IO.lt hT4.r3 e).1; omega))).row
            rwa [hlen] at this
          have hR4 : ∀ W', Tr.Fn w W4 W' → Tr.IRow W' (.slice pT (nd + 1) cT) (nd + 1) (Tr.numL (-1) (nd : Int)) := fun W' h => by
            have := (hT4.r4.same (W' := W') (fun g e => h.same g (Tr.IO.lt hT4.r4 e).2 (by have := (Tr.IO.lt hT4.r4 e).1; omega))).row
            rwa [hlen] at this
          have hR5 : ∀ W', Tr.Fn w W4 W' → Tr.IRow W' (.slice pF nn cF) nn ((Tr.numL (-1) (nd : Int)).take nn) := fun W' h => by
            have := (hrF.same (W' := W') (fun g e => h.same g (Tr.IO.lt hrF e).2 (by have := (Tr.IO.lt hrF e).1; omega))).row
            rwa [hlt] at this
          have CI1 : Hid (∀ W', Tr.Fn w W4 W' → Calls Tryd.prog 22 #[.slice pO (nd + 1) cO, .slice pT (nd + 1) cT] W' fun e w' => e = .returned (.bool true) ∧ Below W'.heap.size W' w') := fun W' h => trInts W' _ _ (nd + 1) _ (hR3 W' h) (hR4 W' h) (by omega)
          have CI2 : Hid (∀ W', Tr.Fn w W4 W' → Calls Tryd.prog 22 #[.slice pF nn cF, .slice pO nn cO] W' fun e w' => e = .returned (.bool true) ∧ Below W'.heap.size W' w') := fun W' h => trInts W' _ _ nn _ (hR5 W' h) ((hR3 W' h).take HN1.out) (by have := HN1.out; omega)
          have HDS : Hid (∀ W', Tr.Fn w W4 W' → ∀ D' ∈ [D3, D2, D1], w.heap.size < D' ∧ W'.heap[D']? = some (.deferred (some []))) := fun W' h D' hD' => by
            have a1 := hT4.l1
            have a2 := hT4.l2
            have e : D' = D3 ∨ D' = D2 ∨ D' = D1 := by simpa using hD'
            rcases e with rfl | rfl | rfl
            · exact ⟨by omega, (h.same _ (Array.getElem?_eq_some_iff.1 hK3).1 (by omega)).trans hK3⟩
            · exact ⟨by omega, (h.same _ (Array.getElem?_eq_some_iff.1 hT4.d2).1 (by omega)).trans hT4.d2⟩
            · exact ⟨by omega, (h.same _ (Array.getElem?_eq_some_iff.1 hT4.d1).1 (by omega)).trans hT4.d1⟩
          have HND : Hid ([D3, D2, D1].Nodup) := by
            have a2 := hT4.l2
            have a3 : D2 < W3.heap.size := by have := (Array.getElem?_eq_some_iff.1 HT3.out.d2).1; exact this
            have e1 : D3 ≠ D2 := by omega
            have e2 : D3 ≠ D1 := by omega
            have e3 : D2 ≠ D1 := by omega
            show List.Nodup _
            simp [e1, e2, e3]
          have tn : (0 : Int) ≤ (nn : Int) := by omega
          have tn2 : (nn : Int) ≤ (nd : Int) + 1 := by have := HN1.out; omega
          have tn3 : nn ≤ cO := by obtain ⟨_, _, e, h1, _⟩ := hR3 _ hfn0; cases e; have := HN1.out; omega
          clear hT4 hbF hrF hvF hR3 hR4 hR5 hJ hpr hpl hK3 hlen hlt hlw hl0 hln hz30 hz31 HT3 HB53
          gi_wp2_with fail
          obtain ⟨Mid, hMid⟩ : ∃ Mid : Act → World → Prop, Mid = fun a' W' => Tr.Fn w W4 W' ∧ Boxed W' w.heap.size 4 (.bool true) ∧ a'.tmps.getD 4 undef = .pointer (some ⟨w.heap.size, 0, none⟩) ∧ a'.defers = [D3, D2, D1].map fun D => { target := .collected D, args := #[] } := ⟨_, rfl⟩
          have HMid := hide' hMid
          clear hMid
          refine wpIn_mono (Q := Exit.then Mid (fun _ _ _ => False)) ?_ ?_
          · refine wpIn_wide.2 ?_
            refine wp_region_held_drew (S := Tr.Fn w W4) (by kernel_rfl) hfn0 (fun hHeld => ?_)
            simp only [List.size_toArray, List.length_cons, List.length_nil, Nat.reduceAdd]
            refine wpAnyH_take (i := 0) (v := .slice pO (nd + 1) cO) rfl (by kernel_rfl) (by kernel_rfl) (by kernel_rfl) (fun _ _ _ h => h) (Or.inl ⟨by rfl, ?y0⟩) (by assumption) ?_
            case y0 => (intro w' hSw; obtain ⟨q3, q4, q5, qn⟩ := HC.out w' hSw; go_simp)
            try simp only [List.getElem_toArray, List.getElem_cons_zero, Act.put, List.setIfInBounds_toArray, List.set_cons_zero, List.set_cons_succ]
            refine wpAnyH_take (i := 1) (v := .slice pT (nd + 1) cT) rfl (by kernel_rfl) (by kernel_rfl) (by kernel_rfl) (fun _ _ _ h => h) (Or.inl ⟨by rfl, ?y1⟩) (by assumption) ?_
            case y1 => (intro w' hSw; obtain ⟨q3, q4, q5, qn⟩ := HC.out w' hSw; go_simp)
            try simp only [List.getElem_toArray, List.getElem_cons_zero, List.getElem_cons_succ, Act.put, List.setIfInBounds_toArray, List.set_cons_zero, List.set_cons_succ]
            refine wpAnyH_ready (rs := [2]) (by kernel_rfl) (by simp) ?_
            refine AllReadyH.cons rfl (fun K hK => ?_) AllReadyH.nil
            try simp only [List.getElem_toArray, List.getElem_cons_zero, List.getElem_cons_succ]
            go_simp
            refine (CI1.out _ hfn0).mono ?_
            rintro e Wa ⟨rfl, hbz⟩
            have hfn1 := Tr.Fn.go hfn0 hbz
            clear hbz
            refine hK.out _ _ hfn1 (fun hHeld9 => ?_)
            clear hK K
            try simp only [List.getElem_toArray, List.getElem_cons_zero, List.getElem_cons_succ, Act.put, List.setIfInBounds_toArray, List.set_cons_zero, List.set_cons_succ]
            refine wpAnyH_take (i := 3) (v := .bool true) rfl (by kernel_rfl) (by kernel_rfl) (by kernel_rfl) (fun _ _ _ h => h) (Or.inl ⟨by rfl, ?y3⟩) (by assumption) ?_
            case y3 => (intro w' hSw; obtain ⟨q3, q4, q5, qn⟩ := HC.out w' hSw; go_simp)
            try simp only [List.getElem_toArray, List.getElem_cons_zero, List.getElem_cons_succ, Act.put, List.setIfInBounds_toArray, List.set_cons_zero, List.set_cons_succ]
            refine wpAnyH_take (i := 4) (v := .slice pF nn cF) rfl (by kernel_rfl) (by kernel_rfl) (by kernel_rfl) (fun _ _ _ h => h) (Or.inl ⟨by rfl, ?y4⟩) (by assumption) ?_
            case y4 => (intro w' hSw; obtain ⟨q3, q4, q5, qn⟩ := HC.out w' hSw; go_simp)
            try simp only [List.getElem_toArray, List.getElem_cons_zero, List.getElem_cons_succ, Act.put, List.setIfInBounds_toArray, List.set_cons_zero, List.set_cons_succ]
            refine wpAnyH_take (i := 5) (v := .int .i64 (nn : Nat)) rfl (by kernel_rfl) (by kernel_rfl) (by kernel_rfl) (fun _ _ _ h => h) (Or.inl ⟨by rfl, ?y5⟩) (by assumption) ?_
            case y5 => (intro w' hSw; obtain ⟨q3, q4, q5, qn⟩ := HC.out w' hSw; go_simp)
            try simp only [List.getElem_toArray, List.getElem_cons_zero, List.getElem_cons_succ, Act.put, List.setIfInBounds_toArray, List.set_cons_zero, List.set_cons_succ]
            refine wpAnyH_take (i := 6) (v := .int .i64 (nn : Nat)) rfl (by kernel_rfl) (by kernel_rfl) (by kernel_rfl) (fun _ _ _ h => h) (Or.inl ⟨by rfl, ?y6⟩) (by assumption) ?_
            case y6 => (intro w' hSw; obtain ⟨q3, q4, q5, qn⟩ := HC.out w' hSw; go_simp)
            try simp only [List.getElem_toArray, List.getElem_cons_zero, List.getElem_cons_succ, Act.put, List.setIfInBounds_toArray, List.set_cons_zero, List.set_cons_succ]
            refine wpAnyH_take (i := 7) (v := .bool true) rfl (by kernel_rfl) (by kernel_rfl) (by kernel_rfl) (fun _ _ _ h => h) (Or.inl ⟨by rfl, ?y7⟩) (by assumption) ?_
            case y7 => (intro w' hSw; obtain ⟨q3, q4, q5, qn⟩ := HC.out w' hSw; go_simp)
            try simp only [List.getElem_toArray, List.getElem_cons_zero, List.getElem_cons_succ, Act.put, List.setIfInBounds_toArray, List.set_cons_zero, List.set_cons_succ]
            refine wpAnyH_take (i := 8) (v := .bool true) rfl (by kernel_rfl) (by kernel_rfl) (by kernel_rfl) (fun _ _ _ h => h) (Or.inl ⟨by rfl, ?y8⟩) (by assumption) ?_
            case y8 => (intro w' hSw; obtain ⟨q3, q4, q5, qn⟩ := HC.out w' hSw; go_simp)
            try simp only [List.getElem_toArray, List.getElem_cons_zero, List.getElem_cons_succ, Act.put, List.setIfInBounds_toArray, List.set_cons_zero, List.set_cons_succ]
            refine wpAnyH_take (i := 9) (v := .bool true) rfl (by kernel_rfl) (by kernel_rfl) (by kernel_rfl) (fun _ _ _ h => h) (Or.inl ⟨by rfl, ?y9⟩) (by assumption) ?_
            case y9 => (intro w' hSw; obtain ⟨q3, q4, q5, qn⟩ := HC.out w' hSw; go_simp)
            try simp only [List.getElem_toArray, List.getElem_cons_zero, List.getElem_cons_succ, Act.put, List.setIfInBounds_toArray, List.set_cons_zero, List.set_cons_succ]
            refine wpAnyH_take (i := 10) (v := .slice pF nn cF) rfl (by kernel_rfl) (by kernel_rfl) (by kernel_rfl) (fun _ _ _ h => h) (Or.inl ⟨by rfl, ?y10⟩) (by assumption) ?_
            case y10 => (intro w' hSw; obtain ⟨q3, q4, q5, qn⟩ := HC.out w' hSw; go_simp)
            try simp only [List.getElem_toArray, List.getElem_cons_zero, List.getElem_cons_succ, Act.put, List.setIfInBounds_toArray, List.set_cons_zero, List.set_cons_succ]
            refine wpAnyH_take (i := 11) (v := .slice pO (nd + 1) cO) rfl (by kernel_rfl) (by kernel_rfl) (by kernel_rfl) (fun _ _ _ h => h) (Or.inl ⟨by rfl, ?y11⟩) (by assumption) ?_
            case y11 => (intro w' hSw; obtain ⟨q3, q4, q5, qn⟩ := HC.out w' hSw; go_simp)
            try simp only [List.getElem_toArray, List.getElem_cons_zero, List.getElem_cons_succ, Act.put, List.setIfInBounds_toArray, List.set_cons_zero, List.set_cons_succ]
            refine wpAnyH_take (i := 12) (v := .int .i64 (nn : Nat)) rfl (by kernel_rfl) (by kernel_rfl) (by kernel_rfl) (fun _ _ _ h => h) (Or.inl ⟨by rfl, ?y12⟩) (by assumption) ?_
            case y12 => (intro w' hSw; obtain ⟨q3, q4, q5, qn⟩ := HC.out w' hSw; go_simp)
            try simp only [List.getElem_toArray, List.getElem_cons_zero, List.getElem_cons_succ, Act.put, List.setIfInBounds_toArray, List.set_cons_zero, List.set_cons_succ]
            refine wpAnyH_take (i := 13) (v := .slice pO nn cO) rfl (by kernel_rfl) (by kernel_rfl) (by kernel_rfl) (fun _ _ _ h => h) (Or.inl ⟨by rfl, ?y13⟩) (by assumption) ?_
            case y13 => (intro w' hSw; obtain ⟨q3, q4, q5, qn⟩ := HC.out w' hSw; go_simp)
            try simp only [List.getElem_toArray, List.getElem_cons_zero, List.getElem_cons_succ, Act.put, List.setIfInBounds_toArray, List.set_cons_zero, List.set_cons_succ]
            refine wpAnyH_ready (rs := [14]) (by kernel_rfl) (by simp) ?_
            refine AllReadyH.cons rfl (fun K hK => ?_) AllReadyH.nil
            try simp only [List.getElem_toArray, List.getElem_cons_zero, List.getElem_cons_succ]
            go_simp
            refine (CI2.out _ hfn1).mono ?_
            rintro e Wb ⟨rfl, hbz⟩
            have hfn2 := Tr.Fn.go hfn1 hbz
            clear hbz
            refine hK.out _ _ hfn2 (fun hHeld9 => ?_)
            clear hK K
            try simp only [List.getElem_toArray, List.getElem_cons_zero, List.getElem_cons_succ, Act.put, List.setIfInBounds_toArray, List.set_cons_zero, List.set_cons_succ]
            refine wpAnyH_take (i := 15) (v := .bool true) rfl (by kernel_rfl) (by kernel_rfl) (by kernel_rfl) (fun _ _ _ h => h) (Or.inl ⟨by rfl, ?y15⟩) (by assumption) ?_
            case y15 => (intro w' hSw; obtain ⟨q3, q4, q5, qn⟩ := HC.out w' hSw; go_simp)
            try simp only [List.getElem_toArray, List.getElem_cons_zero, List.getElem_cons_succ, Act.put, List.setIfInBounds_toArray, List.set_cons_zero, List.set_cons_succ]
            refine wpAnyH_ready (rs := [16]) (by kernel_rfl) (by simp) ?_
            refine AllReadyH.cons rfl (fun K hK => ?_) AllReadyH.nil
            try simp only [List.getElem_toArray, List.getElem_cons_zero, List.getElem_cons_succ]
            obtain ⟨bR, hR⟩ := hfn2.res
            have cR := hR.cell
            have fR := hR.frozen
            obtain ⟨hfn3, hR3⟩ := hfn2.put true
            have HR3 := hide' hR3
            clear hR hR3
            go_simp
            refine hK.out _ _ hfn3 (fun hHeld9 => ?_)
            clear hK K
            try simp only [List.getElem_toArray, List.getElem_cons_zero, List.getElem_cons_succ, Act.put, List.setIfInBounds_toArray, List.set_cons_zero, List.set_cons_succ]
            refine wpAnyH_done (by kernel_rfl) ?_ _
            show Mid _ _
            rw [HMid.out]
            exact ⟨hfn3, HR3.out, rfl, rfl⟩
          · rintro e ⟨ta, da⟩ W' h
            cases e with
            | normal =>
              have h : Mid ⟨ta, da⟩ W' := h
              rw [HMid.out] at h
              obtain ⟨h1, h2, h3, rfl⟩ := h
              gi_wp2
              exact Tr.it_leaves w _ h3 _ _ HND.out (HDS.out _ h1) h2 h1.bel
            | _ => exact h.elim
  case stop =>
    rintro D c pre W _ _ h _
    exact h.elim
end Go.Proofs.YtfkmeghddobgcaaDoor
