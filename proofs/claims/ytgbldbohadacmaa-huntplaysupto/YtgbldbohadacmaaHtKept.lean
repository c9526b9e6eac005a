/-
  THE WALK over (*Hunt).Kept.
-/
import Derived.Test.YtgbldbohadacmaaHtClose
namespace Go.Proofs.Ytgbldbohadacmaa
open Go.RowKit Go.Lib
set_option maxHeartbeats 2000000 in
theorem htKept (w : World) (b : Nat) : Calls Try.prog 12 #[.pointer (some ⟨b, 0, none⟩)] w fun e w' => e = .returned (.int .i64 2) ∧ w' = w := by
  go_enter Try.func12, Try.ntmps12
  go_wp2_with fail
  go_ret
  exact ⟨rfl, rfl⟩
end Go.Proofs.Ytgbldbohadacmaa
