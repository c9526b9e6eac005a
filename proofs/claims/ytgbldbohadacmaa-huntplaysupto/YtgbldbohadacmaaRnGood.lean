/-
  THE WALK over runes.Good.
-/
import Derived.Test.YtgbldbohadacmaaRnBeg
namespace Go.Proofs.Ytgbldbohadacmaa
open Go.RowKit Go.Lib
end Go.Proofs.Ytgbldbohadacmaa
