/-
  THE WALK over words.Sub.
-/
import Derived.Test.YtkhlfahpbkcjeaaDoorWdFind
import Derived.Test.YtkhlfahpbkcjeaaDoorRnJoin
import Derived.Test.YtkhlfahpbkcjeaaDoorRnMend
namespace Go.Proofs.YtkhlfahpbkcjeaaDoor
open Go.RowKit Go.Shelf

namespace Wd
/-- what has been written when k characters have been gone through -/
def sb (L : List Nat) (a X k : Nat) : List Nat := (L.take (min k X)).drop a
theorem sb_skip (L : List Nat) (a X k : Nat) (h : k < a) : sb L a X (k + 1) = sb L a X k := by
  unfold sb
  rw [List.drop_eq_nil_of_le (by simp; omega), List.drop_eq_nil_of_le (by simp; omega)]
theorem sb_put {L M : List Nat} {a X k r : Nat} (h1 : a ≤ k) (h2 : k < X) (h : L.drop k = r :: M) : sb L a X (k + 1) = sb L a X k ++ [r] := by
  obtain ⟨hk, hr, _⟩ := drop_cons h
  unfold sb
  rw [show min (k + 1) X = k + 1 by omega, show min k X = k by omega, List.take_succ_eq_append_getElem hk, List.drop_append_of_le_length (by simp; omega)]
  congr 2
  simp [lg, hk] at hr
  exact hr
theorem sb_past (L : List Nat) (a X k : Nat) (h : X ≤ k) : sb L a X k = (L.take X).drop a := by
  unfold sb
  rw [show min k X = X by omega]
theorem sb_end (L : List Nat) (a X k : Nat) (h : L.length ≤ k) : sb L a X k = (L.take X).drop a := by
  unfold sb
  by_cases e : X ≤ k
  · rw [show min k X = X by omega]
  · rw [show min k X = k by omega, List.take_of_length_le h, List.take_of_length_le (by omega)]
theorem sb_zero (L : List Nat) (a X : Nat) : sb L a X 0 = [] := by simp [sb]
theorem sb_length (L : List Nat) (a X k : Nat) : (sb L a X k).length ≤ k := by simp [sb]; omega
theorem cat_length (L : List Nat) : (Rn.cat L).length ≤ 4 * L.length := by
  induction L with
  | nil => simp [Rn.cat]
  | cons r L ih =>
    rw [Rn.cat_cons, List.length_append, Rn.enc_length]
    have h := Lib.runeCells_le (r : Int)
    rw [Lib.runeCells_length] at h
    rw [Rn.enc_length] at h
    simp
    omega
theorem sub_neg (L : List Nat) (from' count : Int) (h : count ≤ 0) : sub L from' count = [] := by
  unfold sub
  rw [List.drop_eq_nil_of_le (by simp; omega)]
end Wd

theorem tx_eq (L : List Nat) : Rn.tx L = ⟨(Rn.cat L).toArray⟩ := by rw [Rn.tx, Rn.arr_lf]

theorem builder_iterAt {N b K p : Nat} {bs : List Value} {W : World} {s s' : ByteArray} {q : Nat} (h : Lib.IsBuilderF 44 5 N b bs W) (hit : W.heap[K]? = some (.stringIter s' q)) : Lib.IsBuilderF 44 5 N b bs (W.iterAt K s p) :=
  builder_kept h (fun k o h1 h2 => by
    rw [Lib.iterAt_other W K k s p (fun e => by subst e; rw [hit] at h1; cases h1; cases h2)]
    exact h1)

end Go.Proofs.YtkhlfahpbkcjeaaDoor
