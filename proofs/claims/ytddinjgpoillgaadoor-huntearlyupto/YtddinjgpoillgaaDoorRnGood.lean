/-
  THE WALK over runes.Good.
-/
import Derived.Test.YtddinjgpoillgaaDoorRnBeg
namespace Go.Proofs.YtddinjgpoillgaaDoor
open Go.RowKit Go.Lib
end Go.Proofs.YtddinjgpoillgaaDoor
