/-
  THE WALK over chars.Begins.
-/
import Derived.Test.YtoccedbnnafjcaaDoorChComp
namespace Go.Proofs.YtoccedbnnafjcaaDoor
open Go.RowKit Go.Lib

namespace Ch
/-- what Begins answers -/
def low (f : Nat → Nat) (n : Nat) : Nat := Rn.fv (goOn f n (Rn.lo (f 0)) 128)
def high (f : Nat → Nat) (n : Nat) : Nat := Rn.fv (goOn f n (Rn.hi (f 0)) 191)
def begP (c : Int) (f : Nat → Nat) (n : Nat) : Bool := if 0 < n ∧ Rn.fk f n = n then ((nextT tab c ((low f n : Int) - 1)).2 && decide ((nextT tab c ((low f n : Int) - 1)).1 ≤ (high f n : Int))) else false
theorem goOn_lt (f : Nat → Nat) (hf : ∀ j, f j < 256) (n y x : Nat) (hy : y < 256) (hx : x < 256) : ∀ j, goOn f n y x j < 256 := by
  intro j
  unfold goOn
  split
  · exact hf j
  · split <;> omega
theorem lo_hi (b : Nat) : 128 ≤ Rn.lo b ∧ Rn.lo b ≤ Rn.hi b ∧ Rn.hi b ≤ 191 := by
  unfold Rn.lo Rn.hi
  repeat' split
  all_goals omega
theorem low_lt (f : Nat → Nat) (n : Nat) (hf : ∀ j, f j < 256) : low f n < 2097152 := Rn.fv_le _ (goOn_lt f hf n _ _ (by have := lo_hi (f 0); omega) (by omega))
theorem high_lt (f : Nat → Nat) (n : Nat) (hf : ∀ j, f j < 256) : high f n < 2097152 := Rn.fv_le _ (goOn_lt f hf n _ _ (by have := lo_hi (f 0); omega) (by omega))
end Ch

/-- a slice of bytes as a call takes it -/
def SlAt (w : World) (v : Value) (n : Nat) (f : Nat → Nat) : Prop := (v = .slice none 0 0 ∧ n = 0) ∨ ∃ b o cap, v = .slice (some ⟨b, o, none⟩) n cap ∧ n ≤ cap ∧ cap ≤ maxLen ∧ Bytes w b o n f

end Go.Proofs.YtoccedbnnafjcaaDoor
