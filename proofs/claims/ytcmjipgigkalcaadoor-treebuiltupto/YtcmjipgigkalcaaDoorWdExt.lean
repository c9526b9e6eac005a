/-
  WALKS over words.extend and words.borders.
-/
import Derived.Test.YtcmjipgigkalcaaDoorWdKmp
import Derived.Test.YtcmjipgigkalcaaDoorProg
import Derived.Below
import Derived.RangeFuncRecord
import Derived.Lib.Builder
import Derived.Deep.DeepFit
namespace Go.Proofs.YtcmjipgigkalcaaDoor
open Go.RowKit Go.Lib

theorem wHide {p : Prop} (h : p) : Hid p := h
/-- numbers that lie one behind the other -/
def Row (k : IntKind) (w : World) (b o n : Nat) (p : Nat → Nat) : Prop := ∀ j, j < n → w.cell? ⟨b, o + j, none⟩ = some (.int k (p j))
theorem Row.below {k : IntKind} {w w' : World} {B b o n : Nat} {p : Nat → Nat} (h : Row k w b o n p) (hb : Below B w w') (hB : w.heap.size ≤ B) : Row k w' b o n p :=
  fun j hj => (hb.cell (p := ⟨b, o + j, none⟩) (Nat.lt_of_lt_of_le (block_lt_of_cell (h j hj)) hB)).trans (h j hj)

theorem infoInt' : (Tryd.prog.info? 3).map (fun i => (i.zero, i.size, i.bytes)) = some (some (.int .i64 0), 1, 8) := by kernel_rfl
theorem info3 {o : Option TypeInfo} {z : Option Value} {s b : Nat} (h : o.map (fun i => (i.zero, i.size, i.bytes)) = some (z, s, b)) : ∃ i, o = some i ∧ i.zero = z ∧ i.size = s ∧ i.bytes = b := by
  obtain ⟨i, h1, h2⟩ := Option.map_eq_some_iff.1 h
  simp only [Prod.mk.injEq] at h2
  exact ⟨i, h1, h2.1, h2.2.1, h2.2.2⟩

/-- the border's numbers, in a block of its own -/
structure Bords (p : Nat → Nat) (cur : Array Value) (k : Nat) (bf : Nat → Nat) : Prop where
  get : ∀ j, j < k → cur[j]? = some (.int .i64 (bf j))
  bd : ∀ j, j < k → Wd.Bd p (bf j) j

end Go.Proofs.YtcmjipgigkalcaaDoor
