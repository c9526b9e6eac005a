/-
  WALKS over runes.Put of no bytes.
-/
import Derived.Test.YtddinjgpoillgaaRnEnc
import Derived.Test.YtddinjgpoillgaaRnDec
import Derived.Test.YtddinjgpoillgaaRnAt
import Derived.Laws.CopyRow
namespace Go.Proofs.Ytddinjgpoillgaa
open Go.RowKit Go.Lib

theorem infoByte : (Try.prog.info? 5).map (fun i => (i.zero, i.size, i.bytes)) = some (some (.int .u8 0), 1, 1) := by kernel_rfl
end Go.Proofs.Ytddinjgpoillgaa
