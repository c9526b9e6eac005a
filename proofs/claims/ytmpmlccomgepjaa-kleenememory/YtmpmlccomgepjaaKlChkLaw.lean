/-
  THE WALK over gimletlaw14.KleeneChecks.
-/
import Derived.Test.YtmpmlccomgepjaaKlRefV
import Derived.Test.YtmpmlccomgepjaaKlTwin
import Derived.Test.YtmpmlccomgepjaaKlRest
import Derived.Test.YtmpmlccomgepjaaKlFix
import Derived.BigGuard
namespace Go.Proofs.Ytmpmlccomgepjaa
open Go.RowKit Go.Lib Go.Sort
namespace Kl
/-- what twin answers, cell by cell -/
def TwA (f : Fm) (w : World) (r : Ending) (w' : World) : Prop :=
  ∃ (y : Fv) (yo yv yn : Int) (yp : Option Addr) (ky yc : Nat), r = .returned (.agg #[.int .i64 yo, .int .i64 yv, .int .i64 yn, .slice yp ky yc]) ∧ Hid (y.enc.toArray = #[.int .i64 yo, .int .i64 yv, .int .i64 yn, .slice yp ky yc]) ∧ Hid (Ok w' y) ∧ Hid (ct y = f) ∧ Hid (∀ b ∈ fp y, w.heap.size ≤ b) ∧ Hid (Below w.heap.size w w')
theorem twA {x : Fv} {w : World} (hs : sz (ct x) ≤ 1048576) (hx : Ok w x) : Calls Try.prog 6 #[.agg x.enc.toArray] w (TwA (ct x) w) := (klTwin x w hs hx).mono fun r w' h => by
  obtain ⟨y, h1, h2, h3, h4, h5⟩ := h
  obtain ⟨yo, yv, yn, yp, yc, yl⟩ := y
  exact ⟨.mk yo yv yn yp yc yl, yo, yv, yn, yp, yl.length, yc, h1, rfl, h2, h3, h4, h5⟩
end Kl
end Go.Proofs.Ytmpmlccomgepjaa
