/-
  Rows of places and of runes that a call owns; what a region with two appends leaves.
-/
import Derived.Test.YtcggkbgbfgkaiaaDoorRnJoin
import Derived.Lib.SlBytesConst
import Derived.Deep.AppendLies
import Derived.Deep.RegionLaw
namespace Go.Proofs.YtcggkbgbfgkaiaaDoor
open Go.RowKit Go.Shelf
namespace Wh
/-- places and runes, as cells -/
def plcs {n : Nat} (xs : List (Rn.Chr n)) : List Value := xs.map fun x => .int .i64 x.1.1
def rcs {n : Nat} (xs : List (Rn.Chr n)) : List Value := xs.map fun x => .int .i32 x.1.2
theorem plcs_length {n : Nat} (xs : List (Rn.Chr n)) : (plcs xs).length = xs.length := by simp [plcs]
theorem rcs_length {n : Nat} (xs : List (Rn.Chr n)) : (rcs xs).length = xs.length := by simp [rcs]
theorem infoRune : (Tryd.prog.info? 21).map (fun i => (i.zero, i.size, i.bytes)) = some (some (.int .i32 0), 1, 4) := by kernel_rfl
theorem infoInt : (Tryd.prog.info? 3).map (fun i => (i.zero, i.size, i.bytes)) = some (some (.int .i64 0), 1, 8) := by kernel_rfl
/-- rows of two types are two rows -/
theorem rows_ne {w : World} {B B' : Nat} {t t' : TypeId} {v v' : Value} {n n' : Nat} {ys ys' : List Value} (h : w.ownsRow B t 1 v n ys) (h' : w.ownsRow B' t' 1 v' n' ys') (ht : t ≠ t') : v'.ownBlock = none ∨ v'.ownBlock ≠ v.ownBlock := by
  rcases h'.2 with ⟨rfl, _⟩ | ⟨g', cap', cur', rfl, _, hg', _⟩
  · exact .inl rfl
  · refine .inr fun e => ?_
    rcases h.2 with ⟨rfl, _⟩ | ⟨g, cap, cur, rfl, _, hg, _⟩
    · cases e
    · have : g' = g := Option.some.inj e
      subst this
      rw [hg] at hg'
      cases hg'
      exact ht rfl
theorem owns_slice {w : World} {B : Nat} {t : TypeId} {v : Value} {n : Nat} {ys : List Value} (h : w.ownsRow B t 1 v n ys) : ∃ p cap, v = .slice p n cap ∧ (0 < n → ∃ g, p = some ⟨g, 0, none⟩ ∧ ∀ j u, ys[j]? = some u → w.cell? ⟨g, j, none⟩ = some u) := by
  rcases h.2 with ⟨rfl, h0⟩ | ⟨g, cap, cur, rfl, _⟩
  · exact ⟨none, 0, by rw [h0], fun h => by omega⟩
  · refine ⟨_, cap, rfl, fun _ => ⟨g, rfl, fun j u hu => ?_⟩⟩
    have := h.cells (g := g) rfl j u hu
    rw [show (Addr.add ⟨g, 0, none⟩ j) = ⟨g, j, none⟩ by simp [Addr.add]; omega] at this
    exact this
theorem owns_iter {w : World} {B : Nat} {t : TypeId} {v : Value} {n : Nat} {ys : List Value} (h : w.ownsRow B t 1 v n ys) {I : Nat} (hI : I < B) (st : ByteArray) (p : Nat) : (w.iterAt I st p).ownsRow B t 1 v n ys := by
  refine h.kept (grownBy_iterAt w I st p) ?_
  cases hv : v.ownBlock with
  | none => exact .inl rfl
  | some g =>
    refine .inr fun e => ?_
    have := (h.lt g hv).1
    have := Option.some.inj e
    omega
theorem keepRow {w w' : World} {B : Nat} {e : TypeId} {size : Nat} {v : Value} {n : Nat} {ys : List Value} (h : w.ownsRow B e size v n ys) (hk : ∀ g, v.ownBlock = some g → w'.heap[g]? = w.heap[g]?) : w'.ownsRow B e size v n ys := by
  refine ⟨h.1, ?_⟩
  rcases h.2 with h1 | ⟨g, cap, cur, hv, hb, hg, rest⟩
  · exact .inl h1
  · exact .inr ⟨g, cap, cur, hv, hb, (hk g (by rw [hv]; rfl)).trans hg, rest⟩
theorem keepBelow {w w' : World} {B : Nat} {e : TypeId} {size : Nat} {v : Value} {n : Nat} {ys : List Value} (h : w.ownsRow B e size v n ys) (hb : Below w.heap.size w w') : w'.ownsRow B e size v n ys :=
  keepRow h fun g hg => hb.block g (h.lt g hg).2
theorem heap_new (w : World) (o : Obj) : (w.alloc o).heap[w.heap.size]? = some o := World.alloc_heap_new w o
theorem heap_under (w : World) (o o' : Obj) : ((w.alloc o).alloc o').heap[w.heap.size]? = some o := (Below.heap_alloc _ _ _ (by simp)).trans (heap_new w o)
theorem heap_above (w : World) (o o' : Obj) : ((w.alloc o).alloc o').heap[w.heap.size + 1]? = some o' := by
  have := heap_new (w.alloc o) o'
  rw [World.size_alloc] at this
  exact this

/-- what the loop of Go's own range keeps: the iterator, the boxes of the two slices, and their rows -/
structure A (w : World) (R P L I : Nat) (f : Nat → Nat) (n pos : Nat) (pre : List (Rn.Chr n)) (pv lv : Value) (wr : World) : Prop where
  it : wr.heap[I]? = some (.stringIter (Rn.arr f n) pos)
  res : wr.heap[R]? = some (.cells #[.bool false] 4 (0, 0))
  pb : wr.heap[P]? = some (.cells #[pv] 25 (0, 0))
  lb : wr.heap[L]? = some (.cells #[lv] 26 (0, 0))
  po : wr.ownsRow (I + 1) 3 1 pv pre.length (plcs pre)
  lo : wr.ownsRow (I + 1) 21 1 lv pre.length (rcs pre)
  bel : Below R w wr
/-- ahead of the first append nothing but new blocks came; what lies there then, and behind it -/
theorem A.mid {w wr Wb W1 : World} {R P L I : Nat} {f : Nat → Nat} {n pos : Nat} {pre : List (Rn.Chr n)} {pv lv : Value} (h : A w R P L I f n pos pre pv lv wr) (hb : Below wr.heap.size wr Wb) (hg : Wb.grownBy W1 pv.ownBlock) :
    W1.ownsRow (I + 1) 21 1 lv pre.length (rcs pre) ∧ (∀ k, k < Wb.heap.size → k < I + 1 ∨ wr.heap.size ≤ k → W1.heap[k]? = Wb.heap[k]?) := by
  have hp := keepBelow h.po hb
  have hl := keepBelow h.lo hb
  refine ⟨hl.kept hg (rows_ne hp hl (by decide)), fun k hk hk2 => hg.block k hk (fun e => ?_)⟩
  have h1 := h.po.lt k e.symm
  omega
/-- the two boxes as the stores want them -/
def Boxes (P L : Nat) (pv lv : Value) (w : World) : Prop := w.cell? ⟨P, 0, none⟩ = some pv ∧ w.cell? ⟨L, 0, none⟩ = some lv ∧ w.frozen? ⟨P, 0, none⟩ = false ∧ w.frozen? ⟨L, 0, none⟩ = false
theorem A.boxes {w wr W' : World} {R P L I : Nat} {f : Nat → Nat} {n pos : Nat} {pre : List (Rn.Chr n)} {pv lv : Value} (h : A w R P L I f n pos pre pv lv wr) (h1 : W'.heap[P]? = wr.heap[P]?) (h2 : W'.heap[L]? = wr.heap[L]?) : Boxes P L pv lv W' :=
  ⟨by rw [Lib.cell_of_heap (h1.trans h.pb)]; rfl, by rw [Lib.cell_of_heap (h2.trans h.lb)]; rfl, Lib.frozen_of_heap (h1.trans h.pb) 0, Lib.frozen_of_heap (h2.trans h.lb) 0⟩
theorem A.low {w wr Wb W1 : World} {R P L I : Nat} {f : Nat → Nat} {n pos : Nat} {pre : List (Rn.Chr n)} {pv lv : Value} (h : A w R P L I f n pos pre pv lv wr) (hb : Below wr.heap.size wr Wb) (hg : Wb.grownBy W1 pv.ownBlock) : (∀ k, k < I + 1 → W1.heap[k]? = wr.heap[k]?) ∧ wr.heap.size ≤ W1.heap.size := by
  have hI : I < wr.heap.size := (Array.getElem?_eq_some_iff.1 h.it).1
  have z1 := hb.size
  have z2 := hg.size
  exact ⟨fun k hk => ((h.mid hb hg).2 k (by omega) (.inl hk)).trans (hb.block k (by omega)), by omega⟩
theorem A.low2 {w wr Wb W1 Wc W7 : World} {R P L I : Nat} {f : Nat → Nat} {n pos : Nat} {pre : List (Rn.Chr n)} {pv lv : Value} (h : A w R P L I f n pos pre pv lv wr) (hb : Below wr.heap.size wr Wb) (hg : Wb.grownBy W1 pv.ownBlock) (hbc : Below W1.heap.size W1 Wc) (hg2 : Wc.grownBy W7 lv.ownBlock) : ∀ k, k < I + 1 → W7.heap[k]? = wr.heap[k]? := fun k hk => by
  have hI : I < wr.heap.size := (Array.getElem?_eq_some_iff.1 h.it).1
  have z1 := hb.size
  have z2 := hg.size
  have z3 := hbc.size
  rw [hg2.block k (by omega) (fun e => by have := h.lo.lt k e.symm; omega), hbc.block k (by omega)]
  exact (h.low hb hg).1 k hk
theorem A.step {w wr Wb W1 Wc W7 : World} {R P L I : Nat} {f : Nat → Nat} {n pos d : Nat} {pre : List (Rn.Chr n)} {pv lv : Value} (h : A w R P L I f n pos pre pv lv wr) (hRP : R < P) (hPL : P < L) (hLI : L < I) (hb : Below wr.heap.size wr Wb) (hg : Wb.grownBy W1 pv.ownBlock) (hbc : Below W1.heap.size W1 Wc) (hg2 : Wc.grownBy W7 lv.ownBlock)
    (x : Rn.Chr n) {g1 cap1 g2 cap2 : Nat} {ps ls : Value} (hps : ps = .int .i64 x.1.1) (hls : ls = .int .i32 x.1.2) (ho1 : W1.ownsRow (I + 1) 3 1 (.slice (some ⟨g1, 0, none⟩) (pre.length + 1) cap1) (pre.length + 1) (plcs pre ++ [ps])) (ho2 : W7.ownsRow (I + 1) 21 1 (.slice (some ⟨g2, 0, none⟩) (pre.length + 1) cap2) (pre.length + 1) (rcs pre ++ [ls]))
    (hit : wr.heap[I]? = some (.stringIter (Rn.arr f n) d)) :
    A w R P L I f n d (pre ++ [x]) (.slice (some ⟨g1, 0, none⟩) (pre.length + 1) cap1) (.slice (some ⟨g2, 0, none⟩) (pre.length + 1) cap2) ((W7.setCell ⟨P, 0, none⟩ (.slice (some ⟨g1, 0, none⟩) (pre.length + 1) cap1)).setCell ⟨L, 0, none⟩ (.slice (some ⟨g2, 0, none⟩) (pre.length + 1) cap2)) := by
  obtain ⟨hl1, hk1⟩ := h.mid hb hg
  have hI : I < wr.heap.size := (Array.getElem?_eq_some_iff.1 h.it).1
  have z1 := hb.size
  have z2 := hg.size
  have z3 := hbc.size
  have z4 := hg2.size
  have hoc := keepBelow ho1 hbc
  have hlc := keepBelow hl1 hbc
  have ho7 : W7.ownsRow (I + 1) 3 1 (.slice (some ⟨g1, 0, none⟩) (pre.length + 1) cap1) (pre.length + 1) (plcs pre ++ [ps]) := hoc.kept hg2 (rows_ne hlc hoc (by decide))
  have hkeep : ∀ k, k < I + 1 → W7.heap[k]? = wr.heap[k]? := fun k hk => by
    rw [hg2.block k (by omega) (fun e => by have := h.lo.lt k e.symm; omega), hbc.block k (by omega), hk1 k (by omega) (.inl hk), hb.block k (by omega)]
  have hset : ∀ k, k ≠ P → k ≠ L → ((W7.setCell ⟨P, 0, none⟩ (.slice (some ⟨g1, 0, none⟩) (pre.length + 1) cap1)).setCell ⟨L, 0, none⟩ (.slice (some ⟨g2, 0, none⟩) (pre.length + 1) cap2)).heap[k]? = W7.heap[k]? := fun k h1 h2 =>
    (Below.heap_setCell _ ⟨L, 0, none⟩ _ k h2).trans (Below.heap_setCell _ ⟨P, 0, none⟩ _ k h1)
  refine ⟨?_, ?_, ?_, ?_, ?_, ?_, ?_⟩
  · rw [hset I (by omega) (by omega), hkeep I (by omega)]
    exact hit
  · rw [hset R (by omega) (by omega), hkeep R (by omega)]
    exact h.res
  · rw [Below.heap_setCell _ ⟨L, 0, none⟩ _ P (by show P ≠ L; omega)]
    exact Go.Joins.block_setCell (i := 0) ((hkeep P (by omega)).trans h.pb) _
  · refine Go.Joins.block_setCell (i := 0) (cs := #[lv]) ?_ _
    rw [Below.heap_setCell _ ⟨P, 0, none⟩ _ L (by show L ≠ P; omega)]
    exact (hkeep L (by omega)).trans h.lb
  · rw [List.length_append]
    have e : plcs (pre ++ [x]) = plcs pre ++ [ps] := by rw [hps]; simp [plcs]
    rw [e]
    exact keepRow ho7 (fun g hg => by have := ho7.lt g hg; exact hset g (by omega) (by omega))
  · rw [List.length_append]
    have e : rcs (pre ++ [x]) = rcs pre ++ [ls] := by rw [hls]; simp [rcs]
    rw [e]
    exact keepRow ho2 (fun g hg => by have := ho2.lt g hg; exact hset g (by omega) (by omega))
  · have b1 := h.bel.trans (hb.mono (by omega))
    have b2 := b1.grown hg (by omega) (fun k hk => by have := h.po.lt k hk; omega)
    have b3 := b2.trans (hbc.mono (by omega))
    have b4 := b3.grown hg2 (by omega) (fun k hk => by have := h.lo.lt k hk; omega)
    exact (b4.setCell (p := ⟨P, 0, none⟩) (by show R ≤ P; omega) _).setCell (p := ⟨L, 0, none⟩) (by show R ≤ L; omega) _
/-- the iterator goes on -/
theorem A.next {w wr : World} {R P L I : Nat} {f : Nat → Nat} {n pos : Nat} {pre : List (Rn.Chr n)} {pv lv : Value} (h : A w R P L I f n pos pre pv lv wr) (hRP : R < P) (hPL : P < L) (hLI : L < I) (p : Nat) : A w R P L I f n p pre pv lv (wr.iterAt I (Rn.arr f n) p) :=
  ⟨Lib.iterAt_heap wr I (Rn.arr f n) pos p h.it, (Lib.iterAt_other wr I R _ _ (by omega)).trans h.res, (Lib.iterAt_other wr I P _ _ (by omega)).trans h.pb, (Lib.iterAt_other wr I L _ _ (by omega)).trans h.lb, owns_iter h.po (by omega) _ _, owns_iter h.lo (by omega) _ _,
    h.bel.grown (grownBy_iterAt _ _ _ _) (by have := (Array.getElem?_eq_some_iff.1 h.it).1; omega) (fun k hk => by cases hk; omega)⟩
theorem A.pos {w wr : World} {R P L I : Nat} {f : Nat → Nat} {n pos : Nat} {pre : List (Rn.Chr n)} {pv lv : Value} (h : A w R P L I f n pos pre pv lv wr) : wr.iterPos I = pos := by simp only [World.iterPos, h.it]
end Wh
end Go.Proofs.YtcggkbgbfgkaiaaDoor
