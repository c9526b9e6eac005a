/-
  THE WALK over words.Find: the least number from which on the other text stands.
-/
import Derived.Test.YtcmjipgigkalcaaDoorWdFu
import Derived.Test.YtcmjipgigkalcaaDoorWdExt
import Derived.Test.YtcmjipgigkalcaaDoorRnCat
namespace Go.Proofs.YtcmjipgigkalcaaDoor
open Go.RowKit Go.Lib

namespace Wd
/-- a list's numbers, by their place -/
def lg (L : List Nat) : Nat → Nat := fun j => L[j]?.getD 0
theorem drop_cons {L M : List Nat} {k r : Nat} (h : L.drop k = r :: M) : k < L.length ∧ lg L k = r ∧ L.drop (k + 1) = M := by
  have hk : k < L.length := by
    rcases Nat.lt_or_ge k L.length with h' | h'
    · exact h'
    · rw [List.drop_eq_nil_of_le h'] at h
      cases h
  rw [List.drop_eq_getElem_cons hk] at h
  simp only [List.cons.injEq] at h
  exact ⟨hk, by simp [lg, hk, h.1], h.2⟩
theorem drop_nil {L : List Nat} {k : Nat} (h : L.drop k = []) : L.length ≤ k := List.drop_eq_nil_iff.1 h
end Wd
theorem Lie.row {w : World} {g : Nat} {l : List Nat} (h : Lie w g l) : Row .i32 w g 0 l.length (Wd.lg l) := fun j hj => by
  rw [h j hj]
  simp [Wd.lg, hj]

end Go.Proofs.YtcmjipgigkalcaaDoor
