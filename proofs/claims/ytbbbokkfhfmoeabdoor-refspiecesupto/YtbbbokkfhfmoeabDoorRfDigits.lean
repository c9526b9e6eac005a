/-
  THE WALK over gimletlaw05.digits.
-/
import Derived.Test.YtbbbokkfhfmoeabDoorRfDig
import Derived.Test.YtbbbokkfhfmoeabDoorRfRefW
import Derived.BigQuiet
namespace Go.Proofs.YtbbbokkfhfmoeabDoor
open Go.RowKit Go.Lib

/-- is the text empty? -/
def sz0 : Value → Nat
  | .string b => if b.size = 0 then 1 else 0
  | _ => 0
theorem chCut0 : ∀ k : Fin 16, (ByteArray.mk #[48, 49, 50, 51, 52, 53, 54, 55, 56, 57, 97, 98, 99, 100, 101, 102, 65, 66, 67, 68, 69, 70]).extract k.val (k.val + 1) = ⟨[Rf.ch k.val].toArray⟩ := by decide +kernel

end Go.Proofs.YtbbbokkfhfmoeabDoor
