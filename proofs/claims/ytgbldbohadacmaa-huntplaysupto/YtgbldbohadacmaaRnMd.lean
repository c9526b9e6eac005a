/-
  THE WALK over runes.Mend: each character's bytes, one behind the other.
-/
import Derived.Test.YtgbldbohadacmaaRnMend
namespace Go.Proofs.Ytgbldbohadacmaa
open Go.RowKit Go.Shelf
attribute [local go_sem] Oper.semAt_some

namespace Rn
/-- the bytes of these characters, one behind the other -/
def md {n : Nat} (xs : List (Chr n)) : List UInt8 := xs.flatMap fun x => Lib.encodeRune x.1.2
theorem md_snoc {n : Nat} (xs : List (Chr n)) (x : Chr n) : md (xs ++ [x]) = md xs ++ Lib.encodeRune x.1.2 := by simp [md]
end Rn

end Go.Proofs.Ytgbldbohadacmaa
