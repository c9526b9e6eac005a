/-
  Plain mathematics: the classes' ranges of characters; what Is, Next and Count say by a list of ranges.
-/
import Derived.Test.YtcfjflchhocnaaaDoorRnPlain
namespace Go.Proofs.YtcfjflchhocnaaaDoor.Ch

end Go.Proofs.YtcfjflchhocnaaaDoor.Ch
