/-
  THE WALK over gimletlaw04.FeedEager.
-/
import Derived.Test.YtcggkbgbfgkaiaaDoorFdAwake
namespace Go.Proofs.YtcggkbgbfgkaiaaDoor
open Go.RowKit Go.Lib

namespace Fd
open Rn
/-- where Peek waits, at most three bytes lie there -/
theorem wait_short {F : Nat → Nat} {N T : Nat} (h : pk F N T false = (0, 0, 0, 1)) : N - T ≤ 3 ∧ (N - T ≠ 0 → F T ≠ 13 → waits (off F T) (N - T) = true) := by
  unfold pk at h
  split at h
  · next hw =>
    have hl := whole_lt hw
    have hc := whole_cr hw
    split at h
    · next h13 =>
      split at h
      · split at h <;> simp at h
      · have := hc.1 h13
        exact ⟨by omega, fun _ e => absurd this.2 e⟩
    · simp at h
  · split at h
    · exact ⟨by omega, fun e => by omega⟩
    · split at h
      · next hwt =>
        have h4 := fs_le (off F T) (N - T)
        have h5 := hwt
        simp only [waits, decide_eq_true_eq] at h5
        exact ⟨by omega, fun _ _ => hwt⟩
      · simp at h
theorem pk_open (F : Nat → Nat) (N T : Nat) : (pk F N T false).2.2.2 = 0 ∨ pk F N T false = (0, 0, 0, 1) ∨ ((pk F N T false).2.2.2 = 2 ∧ T < N) := by
  unfold pk
  repeat' split
  all_goals (first | (left; rfl) | (right; left; rfl) | (right; right; exact ⟨rfl, by omega⟩) | skip)
  all_goals simp_all
/-- how many bytes the characters have -/
def ws (l : List (Nat × Nat × (Nat × Nat × Nat) × Nat)) : Nat := (l.map (·.2.2.2)).sum
theorem tk_sum (F : Nat → Nat) (N : Nat) (E : Bool) : ∀ (a T : Nat) (p : Nat × Nat × Nat), T + ws (tk F N E a T p) = (tkE F N E a T p).1
  | 0, _, _ => rfl
  | a + 1, T, p => by
    unfold tk tkE
    by_cases h0 : (pk F N T E).2.2.2 = 0
    · rw [if_pos h0, if_pos h0, ← tk_sum F N E a]
      simp [ws]
      omega
    · rw [if_neg h0, if_neg h0]
      rfl
theorem ws_take (l : List (Nat × Nat × (Nat × Nat × Nat) × Nat)) (k : Nat) (h : k < l.length) : ws (l.take (k + 1)) = ws (l.take k) + l[k].2.2.2 := by
  unfold ws
  rw [List.map_take, List.map_take, List.take_succ_eq_append_getElem (by simpa using h)]
  simp
theorem ws_le (l : List (Nat × Nat × (Nat × Nat × Nat) × Nat)) (k : Nat) : ws (l.take k) ≤ ws l := by
  have : ws l = ws (l.take k) + ws (l.drop k) := by
    unfold ws
    rw [← List.sum_append, ← List.map_append, List.take_append_drop]
  omega
end Fd
theorem fcCells_get (l : List (Nat × Nat × (Nat × Nat × Nat) × Nat)) (i : Nat) (h : i < l.length) : (fcCells l)[6 * i + 5]? = some (.int .i64 l[i].2.2.2) := by
  induction l generalizing i with
  | nil => simp at h
  | cons a l ih =>
    have e : fcCells (a :: l) = fcOne a ++ fcCells l := by simp [fcCells]
    cases i with
    | zero => rw [e]; simp [fcOne]
    | succ i =>
      rw [e, List.getElem?_append_right (by simp [fcOne]; omega)]
      have := ih i (by simpa using h)
      rw [show 6 * (i + 1) + 5 - (fcOne a).length = 6 * i + 5 by simp [fcOne]; omega, this]
      simp
theorem ButF.belowB {D B : Nat} {v : Value} {w w' : World} (h : ButF D v w w') (hD : B ≤ D) (hv : ∀ q, v.ownBlock = some q → B ≤ q) (hw : B ≤ w.heap.size) : Below B w w' :=
  ⟨h.os, h.tape, h.output, h.size, fun k hk => h.block k (by omega) (by omega) (fun e => by have := hv k e; omega)⟩

/-- the field Byte of a place -/
theorem placeByte (W : World) (a b c d : Int) : (Instr.field 40 (.agg #[.int .i64 a, .int .i64 b, .int .i64 c, .int .i64 d]) 0).run Tryd.prog W = .ok (.int .i64 a) W := by kernel_rfl

/-- the law's state at the head of its loop -/
structure EagJ (w : World) (D : Nat) (f : Nat → Nat) (i T : Nat) (v : Value) (p : Nat × Nat × Nat) (wr : World) : Prop where
  feed : Feed wr D w.heap.size f i T false v p
  waits : Fd.pk f i T false = (0, 0, 0, 1)
  below : Below w.heap.size w wr

end Go.Proofs.YtcggkbgbfgkaiaaDoor
