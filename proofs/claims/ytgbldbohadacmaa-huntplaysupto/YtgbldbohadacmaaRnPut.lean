/-
  WALKS over runes.Put of no bytes.
-/
import Derived.Test.YtgbldbohadacmaaRnEnc
import Derived.Test.YtgbldbohadacmaaRnDec
import Derived.Test.YtgbldbohadacmaaRnAt
import Derived.Laws.CopyRow
namespace Go.Proofs.Ytgbldbohadacmaa
open Go.RowKit Go.Lib

theorem infoByte : (Try.prog.info? 5).map (fun i => (i.zero, i.size, i.bytes)) = some (some (.int .u8 0), 1, 1) := by kernel_rfl
end Go.Proofs.Ytgbldbohadacmaa
