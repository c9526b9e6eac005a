/-
  THE WALK over runes.Good.
-/
import Derived.Test.YtfbjkebinbemdaaDoorRnBeg
namespace Go.Proofs.YtfbjkebinbemdaaDoor
open Go.RowKit Go.Lib
end Go.Proofs.YtfbjkebinbemdaaDoor
