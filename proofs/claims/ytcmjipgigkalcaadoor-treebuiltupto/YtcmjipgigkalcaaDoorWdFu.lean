/-
  WALKS over words.Length, words.next, words.firstUnlike, cmp.Compare, words.units, words.Compare, words.CompareUnits, words.Begins.
-/
import Derived.Test.YtcmjipgigkalcaaDoorWdMath
namespace Go.Proofs.YtcmjipgigkalcaaDoor
open Go.RowKit Go.Lib

theorem wd_empty (f : Nat → Nat) (n : Nat) : (Rn.arr f n).toList.isEmpty = decide (n = 0) := by
  rw [ByteArray.toList_eq]
  rw [Bool.eq_iff_iff]
  simp [Rn.arr]

end Go.Proofs.YtcmjipgigkalcaaDoor
