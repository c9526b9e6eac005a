/-
  WALKS over runes.Put of no bytes.
-/
import Derived.Test.YtddinjgpoillgaaDoorRnEnc
import Derived.Test.YtddinjgpoillgaaDoorRnDec
import Derived.Test.YtddinjgpoillgaaDoorRnAt
import Derived.Laws.CopyRow
namespace Go.Proofs.YtddinjgpoillgaaDoor
open Go.RowKit Go.Lib

theorem infoByte : (Tryd.prog.info? 5).map (fun i => (i.zero, i.size, i.bytes)) = some (some (.int .u8 0), 1, 1) := by kernel_rfl
end Go.Proofs.YtddinjgpoillgaaDoor
