/-
  THE WALK over gimletlaw14.KleeneValues.
-/
import Derived.Test.YtmpmlccomgepjaaKlVal
namespace Go.Proofs.Ytmpmlccomgepjaa
open Go.RowKit Go.Lib Go.Sort
namespace Kl
theorem Ts.form {w : World} {v : Value} {l : List Int} (h : Ts w v l) : ∃ p c, v = .slice p l.length c := by
  obtain ⟨p, c, e, _⟩ := h
  exact ⟨p, c, e⟩
end Kl
end Go.Proofs.Ytmpmlccomgepjaa
