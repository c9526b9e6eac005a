/-
  WALKS over runes.beginning and runes.Good: the longest beginning that can go on to be characters.
-/
import Derived.Test.YtgbldbohadacmaaRnNext
import Derived.LoopTactic
namespace Go.Proofs.Ytgbldbohadacmaa
open Go.RowKit Go.Lib

theorem hide' {p : Prop} (h : p) : Hid p := h

namespace Rn
theorem len_min {m n b0 b1 b2 b3 : Nat} (h : m ≤ n) (hs : 0 < size b0) : len m b0 b1 b2 b3 = min m (len n b0 b1 b2 b3) := by
  unfold len
  repeat' split
  all_goals omega
theorem fk_min (f : Nat → Nat) {m n : Nat} (h : m ≤ n) (hs : 0 < size (f 0)) : fk f m = min m (fk f n) := len_min h hs
theorem fk_zero (f : Nat → Nat) (n : Nat) (hs : size (f 0) = 0) : fk f n = 0 := by simp [fk, len, hs]
/-- one byte more of a front that is no whole character: it waits just up to the front -/
theorem waits_upto (f : Nat → Nat) (n m : Nat) (hw : whole f n = false) (hm : m < n) : waits f (m + 1) = decide (m < fk f n) := by
  have a1 := fk_le_fs f n
  have a2 := fk_le f n
  have e0 : fs f n = size (f 0) := by unfold fs; rw [if_neg (by omega)]
  have e1 : fs f (m + 1) = size (f 0) := by unfold fs; rw [if_neg (by omega)]
  by_cases hs : size (f 0) = 0
  · have := fk_zero f n hs
    simp [waits, e1, hs, this]
  · have e2 := fk_min f (m := m + 1) (n := n) (by omega) (by omega)
    simp only [whole, decide_eq_false_iff_not] at hw
    rw [Bool.eq_iff_iff]
    simp only [waits, decide_eq_true_eq, e1, e2]
    rw [e0] at hw a1
    omega
end Rn

namespace Rn
/-- Good, from a place on, by at most so many characters -/
def goodFrom (f : Nat → Nat) (n : Nat) : Nat → Nat → Nat
  | 0, a => a
  | fuel + 1, a => if n ≤ a then a else if whole (off f a) (n - a) then goodFrom f n fuel (a + fs (off f a) (n - a)) else a + fk (off f a) (n - a)
def good (f : Nat → Nat) (n : Nat) : Nat := goodFrom f n n 0
theorem goodFrom_le (f : Nat → Nat) (n : Nat) (fuel a : Nat) (ha : a ≤ n) : goodFrom f n fuel a ≤ n := by
  induction fuel generalizing a with
  | zero => exact ha
  | succ m ih =>
    unfold goodFrom
    split
    · exact ha
    · split
      · next h =>
        simp only [whole, decide_eq_true_eq] at h
        have := fk_le (off f a) (n - a)
        exact ih _ (by omega)
      · have := fk_le (off f a) (n - a)
        omega
theorem good_le (f : Nat → Nat) (n : Nat) : good f n ≤ n := goodFrom_le f n n 0 (Nat.zero_le _)
theorem goodFrom_end (f : Nat → Nat) (n fuel a : Nat) (h : n ≤ a) : goodFrom f n fuel a = a := by
  cases fuel with
  | zero => rfl
  | succ m => unfold goodFrom; rw [if_pos h]
theorem nx_whole {f : Nat → Nat} {n : Nat} (h : whole f n = true) : nx f n = (fv f, fs f n, 0) := by
  have hw : waits f n = false := by
    simp only [whole, waits, decide_eq_true_eq, decide_eq_false_iff_not] at *
    omega
  have hn : ¬ n = 0 := by
    intro e
    subst e
    simp [whole, fs] at h
  unfold nx
  rw [if_neg hn, hw, h]
  simp
theorem nx_waits {f : Nat → Nat} {n : Nat} (h : waits f n = true) : nx f n = (0, n, 1) ∧ fk f n = n := by
  have hn : ¬ n = 0 := by
    intro e
    subst e
    simp [waits, fs] at h
  unfold nx
  rw [if_neg hn, h]
  simp only [waits, decide_eq_true_eq] at h
  exact ⟨rfl, h.2.1⟩
theorem nx_bad {f : Nat → Nat} {n : Nat} (hn : 0 < n) (h : waits f n = false) (h2 : whole f n = false) : nx f n = (65533, 1, 2) := by
  unfold nx
  rw [if_neg (by omega), h, h2]
  simp
theorem nx_how (f : Nat → Nat) (n : Nat) : (nx f n).2.2 = 0 ∨ (nx f n).2.2 = 1 ∨ (nx f n).2.2 = 2 ∨ (nx f n).2.2 = 3 := by
  unfold nx
  repeat' split
  all_goals simp
end Rn

end Go.Proofs.Ytgbldbohadacmaa
