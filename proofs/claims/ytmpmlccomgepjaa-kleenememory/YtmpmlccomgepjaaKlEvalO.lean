/-
  THE WALK over kleene.Eval.
-/
import Derived.Test.YtmpmlccomgepjaaKlEval
import Derived.Test.YtmpmlccomgepjaaKlFix
namespace Go.Proofs.Ytmpmlccomgepjaa
open Go.RowKit Go.Lib Go.Sort
namespace Kl
/-- is it asked well? -/
def okE (vs : List Int) (f : Fm) : Bool := goodL vs && isG f
end Kl
end Go.Proofs.Ytmpmlccomgepjaa
