/-
  Words as cells: a struct of seven cells stored and answered.
-/
import Derived.Test.YtoccedbnnafjcaaDoorLxLead
import Derived.Deep.MidRow
import Derived.Lib.SmallJoins
namespace Go.Proofs.YtoccedbnnafjcaaDoor
open Go.RowKit Go.Lib
namespace Lx
/-- the cells of a word, its place with it -/
def wdC (k : Nat) (tx : ByteArray) (nm : Nat) (p : Nat × Nat × Nat × Nat) : Array Value :=
  #[.int .i64 (k : Nat), .string tx, .int .i64 (nm : Nat), .int .i64 (p.1 : Nat), .int .i64 (p.2.1 : Nat), .int .i64 (p.2.2.1 : Nat), .int .i64 (p.2.2.2 : Nat)]
def wdA (x : Wd) : Array Value := wdC x.k x.tx x.nm (0, 0, 0, 0)
def wd0 : Array Value := #[.int .i64 0, .string ⟨#[]⟩, .int .i64 0, .int .i64 0, .int .i64 0, .int .i64 0, .int .i64 0]
/-- what the four answer -/
def Wd.ans (x : Wd) : Value := .tuple #[.agg (wdA x), .int .i64 (x.wd : Nat), .bool x.ok]
theorem wdInfo : (Tryd.prog.info? 43).map (·.size) = some 7 := by kernel_rfl
theorem wdOne (k : Nat) (tx : ByteArray) (nm : Nat) (p : Nat × Nat × Nat × Nat) : (wdC k tx nm p).all (·.oneCell') = true := by simp [wdC, Value.oneCell']
theorem heap_new (w : World) (o : Obj) : (w.alloc o).heap[w.heap.size]? = some o := by
  show (w.heap.push o)[w.heap.size]? = _
  simp
theorem heap_far {b q : Nat} (hq : q ≠ b) : ∀ (vs : List Value) (o : Nat) (w : World), (w.setCells b o vs).heap[q]? = w.heap[q]?
  | [], _, _ => rfl
  | v :: r, o, w => (heap_far hq r (o + 1) (w.setCell ⟨b, o, none⟩ v)).trans (RowKit.Below.heap_setCell _ _ _ _ hq)
theorem size_setCells {b : Nat} : ∀ (vs : List Value) (o : Nat) (w : World), (w.setCells b o vs).heap.size = w.heap.size
  | [], _, _ => rfl
  | v :: r, o, w => (size_setCells r (o + 1) (w.setCell ⟨b, o, none⟩ v)).trans (by simp [World.setCell])
theorem below_cells {B b : Nat} {a : World} (hb : B ≤ b) : ∀ (vs : List Value) (o : Nat) (w : World), Below B a w → Below B a (w.setCells b o vs)
  | [], _, _, h => h
  | v :: r, o, _, h => below_cells hb r (o + 1) _ (h.setCell (p := ⟨b, o, none⟩) hb v)
/-- cells written one behind the other -/
def setAll (cur : Array Value) : Nat → List Value → Array Value
  | _, [] => cur
  | o, v :: r => setAll (cur.setIfInBounds o v) (o + 1) r
theorem heap_setCells {b : Nat} {t : TypeId} : ∀ (vs : List Value) (o : Nat) (cur : Array Value) (w : World), w.heap[b]? = some (.cells cur t (0, 0)) → (w.setCells b o vs).heap[b]? = some (.cells (setAll cur o vs) t (0, 0))
  | [], _, _, _, h => h
  | v :: r, o, cur, w, h => heap_setCells r (o + 1) (cur.setIfInBounds o v) (w.setCell ⟨b, o, none⟩ v) (Go.Joins.block_setCell (i := o) h v)
theorem there_of {w : World} {b : Nat} {cur : Array Value} {t : TypeId} (h : w.heap[b]? = some (.cells cur t (0, 0))) (o n : Nat) (hn : o + n ≤ cur.size) : w.there b o n := fun j hj =>
  ⟨by rw [Lib.cell_of_heap h, Array.getElem?_eq_getElem (by omega)]; rfl, Lib.frozen_of_heap h _⟩
theorem range_of {w : World} {b : Nat} {cur : Array Value} {t : TypeId} (h : w.heap[b]? = some (.cells cur t (0, 0))) : w.rangeAt b 0 cur.toList := by
  intro j v hv
  rw [Lib.cell_of_heap h, Nat.zero_add, ← Array.getElem?_toList]
  exact hv
/-- a function that answers a struct and two plain values -/
theorem results_word {P : Program} {fn : Func} {a b c : Nat} {t : TypeId} (hr : fn.results = #[.cell a t, .tmp b, .tmp c]) (tmps : Array Value) (p : Addr) (hp : tmps[a]?.getD undef = .pointer (some p)) (v v2 v3 : Value) (w : World) (h : (loadVar t p).run P w = .ok v w) (h2 : tmps[b]?.getD undef = v2) (h3 : tmps[c]?.getD undef = v3) : (results fn tmps).run P w = .ok (.tuple #[v, v2, v3]) w := by
  unfold results
  rw [hr]
  simp [asAddr, hp, h, h2, h3]
theorem results_cell {P : Program} {fn : Func} {a : Nat} {t : TypeId} (hr : fn.results = #[.cell a t]) (tmps : Array Value) (p : Addr) (hp : tmps[a]?.getD undef = .pointer (some p)) (v : Value) (w : World) (h : (loadVar t p).run P w = .ok v w) : (results fn tmps).run P w = .ok v w := by
  unfold results
  rw [hr]
  simp [asAddr, hp, h]
/-- the result's cell, still empty -/
def Emp (w w1 : World) : Prop := w1.heap[w.heap.size]? = some (.cells wd0 43 (0, 0)) ∧ Below w.heap.size w w1
theorem Emp.new (w : World) : Emp w (w.alloc (.cells wd0 43)) := ⟨heap_new w _, (Below.refl _ _).alloc (Nat.le_refl _) _⟩
theorem Emp.below {w w1 w2 : World} (h : Emp w w1) (hb : Below w1.heap.size w1 w2) : Emp w w2 := by
  have hl : w.heap.size < w1.heap.size := (Array.getElem?_eq_some_iff.1 h.1).1
  exact ⟨(hb.block _ hl).trans h.1, h.2.trans (hb.mono h.2.size)⟩
theorem Emp.lt {w w1 : World} (h : Emp w w1) : w.heap.size < w1.heap.size := (Array.getElem?_eq_some_iff.1 h.1).1
theorem Emp.there {w w1 : World} (h : Emp w w1) : w1.there w.heap.size 0 7 := there_of h.1 0 7 (by decide)
/-- the result is stored: what is answered -/
theorem Emp.load {w w1 : World} (h : Emp w w1) (k : Nat) (tx : ByteArray) (nm : Nat) (p : Nat × Nat × Nat × Nat) :
    (loadVar 43 ⟨w.heap.size, 0, none⟩).run Tryd.prog (w1.setCells w.heap.size 0 (wdC k tx nm p).toList) = .ok (.agg (wdC k tx nm p)) (w1.setCells w.heap.size 0 (wdC k tx nm p).toList) :=
  run_loadVar_mid _ w.heap.size 0 43 (wdC k tx nm p).toList _ (World.rangeAt_setCells_same _ _ _ _ h.there) Tryd.underlying43 rfl wdInfo
theorem Emp.fin {w w1 : World} (h : Emp w w1) (vs : List Value) : Below w.heap.size w (w1.setCells w.heap.size 0 vs) := below_cells (Nat.le_refl _) _ _ _ h.2
end Lx
end Go.Proofs.YtoccedbnnafjcaaDoor
