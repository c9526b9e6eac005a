/-
  Contracts of the kit's shelf, laid at this seat's program in plain words (by the kit's lay-plain.mjs).
-/
import Derived.Shelf.Unicode.ValidAny
import Derived.Test.YtoccedbnnafjcaaDoorProg
namespace Go.Proofs
open Go.Shelf
end Go.Proofs
