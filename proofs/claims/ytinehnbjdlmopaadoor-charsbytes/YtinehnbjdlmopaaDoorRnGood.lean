/-
  THE WALK over runes.Good.
-/
import Derived.Test.YtinehnbjdlmopaaDoorRnBeg
namespace Go.Proofs.YtinehnbjdlmopaaDoor
open Go.RowKit Go.Lib
end Go.Proofs.YtinehnbjdlmopaaDoor
