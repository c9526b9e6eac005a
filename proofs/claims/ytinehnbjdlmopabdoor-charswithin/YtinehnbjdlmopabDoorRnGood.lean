/-
  THE WALK over runes.Good.
-/
import Derived.Test.YtinehnbjdlmopabDoorRnBeg
namespace Go.Proofs.YtinehnbjdlmopabDoor
open Go.RowKit Go.Lib
end Go.Proofs.YtinehnbjdlmopabDoor
