/-
  THE WALK over gimletref01.value, of a whole character's bytes.
-/
import Derived.Test.YtcggkbgbfgkaiaaDoorRnRef
namespace Go.Proofs.YtcggkbgbfgkaiaaDoor
open Go.RowKit Go.Lib

namespace Rn
/-- the value of the first k bytes -/
def pv (f : Nat → Nat) (base : Int) : Nat → Int
  | 0 => 0
  | 1 => f 0 - base
  | k + 2 => 64 * pv f base (k + 1) + f (k + 1) - 128
theorem pv_succ (f : Nat → Nat) (base : Int) {k : Nat} (hk : 1 ≤ k) : pv f base (k + 1) = 64 * pv f base k + f k - 128 := by
  obtain ⟨j, rfl⟩ : ∃ j, k = j + 1 := ⟨k - 1, by omega⟩
  rfl
/-- what is known of the bytes of a whole character -/
inductive Whl (f : Nat → Nat) (n : Nat) : Prop
  | one (hn : n = 1) (h : fv f = f 0)
  | two (hn : n = 2) (h0 : 194 ≤ f 0) (h0' : f 0 ≤ 223) (h1 : 128 ≤ f 1) (h1' : f 1 ≤ 191) (h : (fv f : Int) = pv f 192 2)
  | three (hn : n = 3) (h0 : 224 ≤ f 0) (h0' : f 0 ≤ 239) (h1 : 128 ≤ f 1) (h1' : f 1 ≤ 191) (h2 : 128 ≤ f 2) (h2' : f 2 ≤ 191) (h : (fv f : Int) = pv f 224 3)
  | four (hn : n = 4) (h0 : 240 ≤ f 0) (h0' : f 0 ≤ 244) (h1 : 128 ≤ f 1) (h1' : f 1 ≤ 191) (h2 : 128 ≤ f 2) (h2' : f 2 ≤ 191) (h3 : 128 ≤ f 3) (h3' : f 3 ≤ 191) (h : (fv f : Int) = pv f 240 4)
theorem whl_of {f : Nat → Nat} {n : Nat} (h : whole f n = true) (hs : fs f n = n) : Whl f n := by
  simp only [whole, decide_eq_true_eq] at h
  have hn : ¬ n = 0 := by omega
  have e0 : fs f n = size (f 0) := by unfold fs; rw [if_neg hn]
  have hk : fk f n = n := by omega
  have hz : size (f 0) = n := by omega
  have a := lo_ge (f 0)
  have b := hi_le (f 0)
  unfold fk at hk
  rcases size_cases (f 0) with ⟨e, c⟩ | ⟨e, c, d, _⟩ | ⟨e, c, d, _⟩ | ⟨e, c, d, _⟩ | ⟨e, c⟩
  · exact .one (by omega) (by simp [fv, val, e])
  · obtain rfl : n = 2 := by omega
    have := (len2 e).1 hk
    refine .two rfl c d (by omega) (by omega) ?_
    simp only [fv, val, e, pv, Nat.reduceAdd, Nat.reduceEqDiff, if_false, if_true]
    omega
  · obtain rfl : n = 3 := by omega
    have := (len3 e).1 hk
    refine .three rfl c d (by omega) (by omega) (by omega) (by omega) ?_
    simp only [fv, val, e, pv, Nat.reduceAdd, Nat.reduceEqDiff, if_false, if_true]
    omega
  · obtain rfl : n = 4 := by omega
    have := (len4 e).1 hk
    refine .four rfl c d (by omega) (by omega) (by omega) (by omega) (by omega) (by omega) ?_
    simp only [fv, val, e, pv, Nat.reduceAdd, Nat.reduceEqDiff, if_false]
    omega
  · omega
/-- a whole character, alone -/
theorem whole_self {f : Nat → Nat} {n : Nat} (h : whole f n = true) : whole f (fs f n) = true ∧ fs f (fs f n) = fs f n := by
  simp only [whole, decide_eq_true_eq] at h
  have hle := fk_le f n
  have hn : ¬ n = 0 := by
    intro e
    subst e
    simp [fs] at h
  have e0 : fs f n = size (f 0) := by unfold fs; rw [if_neg hn]
  have e1 : fs f (fs f n) = size (f 0) := by rw [e0]; unfold fs; rw [if_neg (by omega)]
  have e2 := fk_min f (m := fs f n) (n := n) (by omega) (by omega)
  refine ⟨?_, by omega⟩
  simp only [whole, decide_eq_true_eq]
  omega
theorem pv_bound {f : Nat → Nat} {base : Int} {n : Nat} (hn : n ≤ 4) (h0 : base ≤ f 0) (h0' : (f 0 : Int) ≤ base + 31) (h : ∀ j, 1 ≤ j → j < n → 128 ≤ f j ∧ f j ≤ 191) {k : Nat} (hk : 1 ≤ k) (hkn : k ≤ n) : 0 ≤ pv f base k ∧ pv f base k ≤ 8388607 := by
  have : k = 1 ∨ k = 2 ∨ k = 3 ∨ k = 4 := by omega
  have g1 := fun g => h 1 (by omega) g
  have g2 := fun g => h 2 (by omega) g
  have g3 := fun g => h 3 (by omega) g
  rcases this with rfl | rfl | rfl | rfl
  · simp only [pv]; omega
  · have := g1 (by omega); simp only [pv, Nat.reduceAdd]; omega
  · have := g1 (by omega); have := g2 (by omega); simp only [pv, Nat.reduceAdd]; omega
  · have := g1 (by omega); have := g2 (by omega); have := g3 (by omega); simp only [pv, Nat.reduceAdd]; omega
end Rn

end Go.Proofs.YtcggkbgbfgkaiaaDoor
