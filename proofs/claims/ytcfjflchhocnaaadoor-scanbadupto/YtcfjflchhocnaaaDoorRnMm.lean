import Derived.Test.YtcfjflchhocnaaaDoorRnCat
/-
  Plain mathematics: of characters the order by bytes is the order by their numbers.
-/
namespace Go.Proofs.YtcfjflchhocnaaaDoor.Rn
open Go.Lib

end Go.Proofs.YtcfjflchhocnaaaDoor.Rn
/-
  runes.Mend and runes.Runes, of and into texts that are characters all through.
-/
namespace Go.Proofs.YtcfjflchhocnaaaDoor
open Go.RowKit Go.Shelf

namespace Rn
end Rn

end Go.Proofs.YtcfjflchhocnaaaDoor
/-
  Plain mathematics of mending: what is mended is characters; a text of characters is its own mending.
-/
namespace Go.Proofs.YtcfjflchhocnaaaDoor.Rn
open Go.Lib

end Go.Proofs.YtcfjflchhocnaaaDoor.Rn
