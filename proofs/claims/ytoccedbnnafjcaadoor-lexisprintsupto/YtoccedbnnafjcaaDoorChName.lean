/-
  WALKS over chars.Name and chars.Texts: of any text.
-/
import Derived.Test.YtoccedbnnafjcaaDoorChTab
import Derived.Test.YtoccedbnnafjcaaDoorChShelf
import Derived.Test.YtoccedbnnafjcaaDoorRnAt
namespace Go.Proofs.YtoccedbnnafjcaaDoor
open Go.RowKit Go.Lib

namespace Ch
/-- are the characters from a place on, as Go's range gives them, of the class d (the first one of c)? -/
def allFrom (f : Nat → Nat) (n : Nat) (d : Int) : Nat → Nat → Int → Bool
  | 0, _, _ => true
  | fuel + 1, p, c => if p < n then (isT tab c (Rn.dec (Rn.off f p) (n - p)).1 && allFrom f n d fuel (p + (Rn.dec (Rn.off f p) (n - p)).2) d) else true
theorem allFrom_end (f : Nat → Nat) (n : Nat) (d : Int) (fuel p : Nat) (c : Int) (h : ¬ p < n) : allFrom f n d fuel p c = true := by
  cases fuel with
  | zero => rfl
  | succ m => unfold allFrom; rw [if_neg h]
theorem allFrom_step (f : Nat → Nat) (n : Nat) (d : Int) (fuel p : Nat) (c : Int) (h : p < n) : allFrom f n d (fuel + 1) p c = (isT tab c (Rn.dec (Rn.off f p) (n - p)).1 && allFrom f n d fuel (p + (Rn.dec (Rn.off f p) (n - p)).2) d) := by
  show (if p < n then _ else _) = _
  rw [if_pos h]
/-- are the bytes characters all through? -/
def valid (f : Nat → Nat) (n : Nat) : Bool := validD (Rn.arr f n).data.toList
end Ch

theorem Rn.arr_empty (f : Nat → Nat) (n : Nat) : (Rn.arr f n).toList.isEmpty = decide (n = 0) := by
  rw [ByteArray.toList_eq]
  rw [Bool.eq_iff_iff]
  simp [Rn.arr]

end Go.Proofs.YtoccedbnnafjcaaDoor
