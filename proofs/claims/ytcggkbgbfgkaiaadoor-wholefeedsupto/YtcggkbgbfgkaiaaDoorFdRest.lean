/-
  WALKS over slices.Clone (of bytes) and feed's Rest.
-/
import Derived.Test.YtcggkbgbfgkaiaaDoorFdDrop
import Derived.Deep.AppendLies
namespace Go.Proofs.YtcggkbgbfgkaiaaDoor
open Go.RowKit Go.Lib

section
variable {D B : Nat} {v : Value} {g : Nat → Nat} {n k wh pb pr pl pc : Nat} {bad ended : Bool} {w : World}

end
end Go.Proofs.YtcggkbgbfgkaiaaDoor
