/-
  Plain mathematics: bytes as a function of their place, how many of them are a character's beginning ('front'), what Go's decoder gives of them ('decodeN', the library's), what Go's FullRune says.
-/
import Derived.Lib.DecodeN
namespace Go.Proofs.YtcfjflchhocnaaaDoor.Rn
open Go.Lib

set_option maxHeartbeats 4000000 in
end Go.Proofs.YtcfjflchhocnaaaDoor.Rn
