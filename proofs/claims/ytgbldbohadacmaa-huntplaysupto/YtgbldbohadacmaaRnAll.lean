/-
  WALKS over runes.All and the function that it hands back: places and characters, one by one.
-/
import Derived.Test.YtgbldbohadacmaaRnStr
import Derived.RangeFuncNested
import Derived.RangeFuncBound
import Derived.RangeFuncCalls
import Derived.RangeFuncLeaves
import Derived.Shelf.Abstract
import Derived.Shelf.RegionOpen
import Derived.OwnWalkIn
import Derived.TacticsInMore
import Derived.LoopNIn
import Derived.LoopIn
namespace Go.Proofs.Ytgbldbohadacmaa
open Go.RowKit Go.Shelf
attribute [local go_sem] Oper.semAt_some

namespace Rn
/-- a place below n and a character -/
abbrev Chr (n : Nat) := { x : Nat × Nat // x.1 < n ∧ x.2 < 2097152 }
/-- the characters from a place on, by at most so many -/
def chFrom (f : Nat → Nat) (n : Nat) (hf : ∀ j, f j < 256) : Nat → Nat → List (Chr n)
  | 0, _ => []
  | fuel + 1, p => if h : p < n then ⟨(p, (dec (off f p) (n - p)).1), h, dec_lt _ _ (fun _ => hf _) (by omega)⟩ :: chFrom f n hf fuel (p + (dec (off f p) (n - p)).2) else []
def chs (f : Nat → Nat) (n : Nat) (hf : ∀ j, f j < 256) : List (Chr n) := chFrom f n hf n 0
theorem chFrom_end (f : Nat → Nat) (n : Nat) (hf : ∀ j, f j < 256) (fuel p : Nat) (h : ¬ p < n) : chFrom f n hf fuel p = [] := by
  cases fuel with
  | zero => rfl
  | succ m => unfold chFrom; rw [dif_neg h]
def encC {n : Nat} (x : Chr n) : Array Value := #[.int .i64 (x.1.1 : Int), .int .i32 (x.1.2 : Int)]
end Rn

theorem grownBy_iterAt (w : World) (k : Nat) (s : ByteArray) (p : Nat) : w.grownBy (w.iterAt k s p) (some k) :=
  ⟨rfl, rfl, rfl, by rw [Lib.iterAt_size]; exact Nat.le_refl _, fun j _ hj => Lib.iterAt_other w k j s p (fun e => hj (by rw [e]))⟩

end Go.Proofs.Ytgbldbohadacmaa
