import Derived.Test.YtcfjflchhocnaaaDoorRfRead
import Derived.RangeFuncNested
import Derived.RangeFuncBound
import Derived.RangeFuncCalls
import Derived.RangeFuncLeaves
import Derived.Shelf.Abstract
import Derived.Shelf.RegionOpen
import Derived.OwnWalkIn
import Derived.TacticsInMore
import Derived.LoopNIn
import Derived.LoopIn
import Derived.Lib.SmallJoins
import Derived.Laws.IdiomStrings
import Derived.Laws.Cover4
import Derived.Test.YtcfjflchhocnaaaDoorRnEnc
/-
  WALKS over runes.All and the function that it hands back: places and characters, one by one.
-/
namespace Go.Proofs.YtcfjflchhocnaaaDoor
open Go.RowKit Go.Shelf
attribute [local go_sem] Oper.semAt_some

namespace Rn
end Rn

end Go.Proofs.YtcfjflchhocnaaaDoor
/-
  WALKS over runes.MendParts and runes.Mend: what is written into the Builder, character by character.
-/
namespace Go.Proofs.YtcfjflchhocnaaaDoor
open Go.RowKit Go.Shelf
attribute [local go_sem] Oper.semAt_some

namespace Rn
end Rn

end Go.Proofs.YtcfjflchhocnaaaDoor
/-
  THE WALK over runes.Mend: each character's bytes, one behind the other.
-/
namespace Go.Proofs.YtcfjflchhocnaaaDoor
open Go.RowKit Go.Shelf
attribute [local go_sem] Oper.semAt_some

namespace Rn
end Rn

end Go.Proofs.YtcfjflchhocnaaaDoor
/-
  THE WALK over runes.Byte: where the character of that number begins.
-/
namespace Go.Proofs.YtcfjflchhocnaaaDoor
open Go.RowKit Go.Shelf
attribute [local go_sem] Oper.semAt_some

namespace Rn
end Rn

end Go.Proofs.YtcfjflchhocnaaaDoor
/-
  WALKS over runes.Runes and runes.Join: Go's own conversions, in the words of this proof.
-/
namespace Go.Proofs.YtcfjflchhocnaaaDoor
open Go.RowKit Go.Shelf

namespace Rn
end Rn

end Go.Proofs.YtcfjflchhocnaaaDoor
/-
  Plain mathematics: what is made of characters is read as these characters.
-/
namespace Go.Proofs.YtcfjflchhocnaaaDoor.Rn
open Go.Lib

end Go.Proofs.YtcfjflchhocnaaaDoor.Rn
