/-
  runes.Mend and runes.Runes, of and into texts that are characters all through.
-/
import Derived.Test.YtploppaocpbnlaaDoorRnOrd
namespace Go.Proofs.YtploppaocpbnlaaDoor
open Go.RowKit Go.Shelf

namespace Rn
/-- a text that is these characters -/
def tx (L : List Nat) : ByteArray := arr (lf (cat L)) (cat L).length
theorem tx_toList (L : List Nat) : (tx L).toList = cat L := by
  unfold tx
  rw [arr_lf, ByteArray.toList_mk]
end Rn

end Go.Proofs.YtploppaocpbnlaaDoor
