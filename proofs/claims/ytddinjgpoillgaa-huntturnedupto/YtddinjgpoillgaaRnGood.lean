/-
  THE WALK over runes.Good.
-/
import Derived.Test.YtddinjgpoillgaaRnBeg
namespace Go.Proofs.Ytddinjgpoillgaa
open Go.RowKit Go.Lib
end Go.Proofs.Ytddinjgpoillgaa
