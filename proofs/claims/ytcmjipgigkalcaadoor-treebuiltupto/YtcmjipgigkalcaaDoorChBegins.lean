import Derived.Test.YtcmjipgigkalcaaDoorChFix
import Derived.Test.YtcmjipgigkalcaaDoorRnCat
import Derived.Laws.CopyRow
import Derived.Laws.CopyOwn
import Derived.Lib.SmallJoins
import Derived.Deep.LoopGhost
/-
  WALKS over chars.complete: the first and the last character whose bytes begin with these.
-/
namespace Go.Proofs.YtcmjipgigkalcaaDoor
open Go.RowKit Go.Lib

namespace Ch
/-- the bytes gone on with: the second byte the least (greatest) that may follow, the others x -/
def goOn (f : Nat → Nat) (n y x : Nat) : Nat → Nat := fun j => if j < n then f j else if j = 1 then y else x
theorem goOn_old (f : Nat → Nat) {n y x j : Nat} (h : j < n) : goOn f n y x j = f j := by unfold goOn; rw [if_pos h]
theorem goOn_one (f : Nat → Nat) {n y x : Nat} (h : n ≤ 1) : goOn f n y x 1 = y := by unfold goOn; rw [if_neg (by omega), if_pos rfl]
theorem goOn_new (f : Nat → Nat) {n y x j : Nat} (h : n ≤ j) (hj : 2 ≤ j) : goOn f n y x j = x := by unfold goOn; rw [if_neg (by omega), if_neg (by omega)]
/-- a front: m bytes that are all right -/
theorem len_all (m b0 b1 b2 b3 : Nat) (h0 : 0 < m) (hs : m ≤ Rn.size b0) (h1 : 1 < m → Rn.lo b0 ≤ b1 ∧ b1 ≤ Rn.hi b0) (h2 : 2 < m → 128 ≤ b2 ∧ b2 ≤ 191) (h3 : 3 < m → 128 ≤ b3 ∧ b3 ≤ 191) : Rn.len m b0 b1 b2 b3 = m := by
  have := Rn.size_le b0
  unfold Rn.len
  repeat' split
  all_goals omega
theorem len_all' {m b0 b1 b2 b3 : Nat} (h : Rn.len m b0 b1 b2 b3 = m) (h0 : 0 < m) : m ≤ Rn.size b0 ∧ (1 < m → Rn.lo b0 ≤ b1 ∧ b1 ≤ Rn.hi b0) ∧ (2 < m → 128 ≤ b2 ∧ b2 ≤ 191) ∧ (3 < m → 128 ≤ b3 ∧ b3 ≤ 191) := by
  have hs := Rn.size_le b0
  have hl := Rn.len_le_size m b0 b1 b2 b3
  unfold Rn.len at h
  split at h
  · omega
  · split at h
    · refine ⟨?_, ?_, ?_, ?_⟩ <;> omega
    · split at h
      · refine ⟨?_, ?_, ?_, ?_⟩ <;> omega
      · split at h
        · refine ⟨?_, ?_, ?_, ?_⟩ <;> omega
        · refine ⟨?_, ?_, ?_, ?_⟩ <;> omega
/-- whole, or a beginning -/
theorem good_iff (f : Nat → Nat) (m : Nat) (h : 0 < m) : (Rn.whole f m = true ∧ Rn.fs f m = m ∨ Rn.waits f m = true) ↔ Rn.fk f m = m := by
  have e : Rn.fs f m = Rn.size (f 0) := by unfold Rn.fs; rw [if_neg (by omega)]
  have hl := Rn.fk_le_fs f m
  simp only [Rn.whole, Rn.waits, decide_eq_true_eq]
  rw [e] at hl ⊢
  omega
end Ch

theorem alloc_setRow (w : World) (cur cs : Array Value) (t : TypeId) : (w.alloc (.cells cur t)).setRow w.heap.size cs = w.alloc (.cells cs t) := by
  unfold World.setRow World.alloc
  congr 1
  apply Array.ext_getElem?
  intro i
  by_cases hi : i = w.heap.size
  · subst hi
    simp [Array.getElem_modify]
  · rw [Array.getElem?_modify, if_neg (Ne.symm hi), Array.getElem?_push, Array.getElem?_push, if_neg hi, if_neg hi]
end Go.Proofs.YtcmjipgigkalcaaDoor
/-
  THE WALK over chars.Begins.
-/
namespace Go.Proofs.YtcmjipgigkalcaaDoor
open Go.RowKit Go.Lib

namespace Ch
/-- what Begins answers -/
def low (f : Nat → Nat) (n : Nat) : Nat := Rn.fv (goOn f n (Rn.lo (f 0)) 128)
def high (f : Nat → Nat) (n : Nat) : Nat := Rn.fv (goOn f n (Rn.hi (f 0)) 191)
def begP (c : Int) (f : Nat → Nat) (n : Nat) : Bool := if 0 < n ∧ Rn.fk f n = n then ((nextT tab c ((low f n : Int) - 1)).2 && decide ((nextT tab c ((low f n : Int) - 1)).1 ≤ (high f n : Int))) else false
theorem goOn_lt (f : Nat → Nat) (hf : ∀ j, f j < 256) (n y x : Nat) (hy : y < 256) (hx : x < 256) : ∀ j, goOn f n y x j < 256 := by
  intro j
  unfold goOn
  split
  · exact hf j
  · split <;> omega
theorem lo_hi (b : Nat) : 128 ≤ Rn.lo b ∧ Rn.lo b ≤ Rn.hi b ∧ Rn.hi b ≤ 191 := by
  unfold Rn.lo Rn.hi
  repeat' split
  all_goals omega
theorem low_lt (f : Nat → Nat) (n : Nat) (hf : ∀ j, f j < 256) : low f n < 2097152 := Rn.fv_le _ (goOn_lt f hf n _ _ (by have := lo_hi (f 0); omega) (by omega))
theorem high_lt (f : Nat → Nat) (n : Nat) (hf : ∀ j, f j < 256) : high f n < 2097152 := Rn.fv_le _ (goOn_lt f hf n _ _ (by have := lo_hi (f 0); omega) (by omega))
end Ch

/-- a slice of bytes as a call takes it -/
def SlAt (w : World) (v : Value) (n : Nat) (f : Nat → Nat) : Prop := (v = .slice none 0 0 ∧ n = 0) ∨ ∃ b o cap, v = .slice (some ⟨b, o, none⟩) n cap ∧ n ≤ cap ∧ cap ≤ maxLen ∧ Bytes w b o n f

end Go.Proofs.YtcmjipgigkalcaaDoor
