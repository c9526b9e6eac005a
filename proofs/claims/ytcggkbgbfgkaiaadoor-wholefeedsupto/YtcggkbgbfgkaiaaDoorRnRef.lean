/-
  WALKS over the document's answer for layer 1 (gimletref01): size, goes, Front, value.
-/
import Derived.Test.YtcggkbgbfgkaiaaDoorRnGood
import Derived.LoopTactic
namespace Go.Proofs.YtcggkbgbfgkaiaaDoor
open Go.RowKit Go.Lib

theorem ret_bool' {a b : Bool} (h : a = b) : Ending.returned (.bool a) = .returned (.bool b) := by rw [h]
/-- can y be the second byte behind x? -/
def goesB (x y : Nat) : Bool := decide (Rn.lo x ≤ y ∧ y ≤ Rn.hi x)
namespace Rn
theorem lo_ge (x : Nat) : 128 ≤ lo x := by unfold lo; repeat' split
                                           all_goals omega
theorem hi_le (x : Nat) : hi x ≤ 191 := by unfold hi; repeat' split
                                           all_goals omega
/-- the front goes on past k bytes just where the next byte fits -/
theorem fk_step (f : Nat → Nat) (n k : Nat) (h1 : 1 ≤ k) (h2 : k ≤ fk f n) (h3 : k < size (f 0)) (h4 : k < n) :
    k < fk f n ↔ (k = 1 → lo (f 0) ≤ f 1 ∧ f 1 ≤ hi (f 0)) ∧ 128 ≤ f k ∧ f k ≤ 191 := by
  have a := lo_ge (f 0)
  have b := hi_le (f 0)
  have c := size_le (f 0)
  have hk : k = 1 ∨ k = 2 ∨ k = 3 := by omega
  rcases hk with rfl | rfl | rfl
  all_goals
    unfold fk len at h2 ⊢
    revert h2
    repeat' split
    all_goals omega
end Rn

end Go.Proofs.YtcggkbgbfgkaiaaDoor
