/-
  THE WALK over gimletref14.Is (gen_is.py).
-/
import Derived.Test.YtmpmlccomgepjaaKlSz
import Derived.Test.YtmpmlccomgepjaaKlChkB
import Derived.BigGuard
import Derived.BigQuiet
namespace Go.Proofs.Ytmpmlccomgepjaa
open Go.RowKit Go.Lib Go.Sort
namespace Kl
mutual
/-- is it a formula? -/
def isG : Fm → Bool
  | .mk o v n l => if o = 0 then isT v && (n == 0) && (l.length == 0) else if o = 1 then (v == 0) && decide (0 ≤ n) && decide (n < 65536) && (l.length == 0)
    else if o = 2 ∨ o = 3 then (v == 0) && (n == 0) && areG l else if o = 4 then (v == 0) && (n == 0) && (l.length == 1) && areG l else false
def areG : List Fm → Bool
  | [] => true
  | a :: l => isG a && areG l
end
mutual
theorem isF_isG : ∀ (f : Fm) (r : Nat), sz f ≤ r → isF f r = isG f
  | .mk o v n l, r, h => by
    rw [sz] at h
    rw [isF, isG, if_neg (by omega), areF_areG l (r - 1) (by omega)]
theorem areF_areG : ∀ (l : List Fm) (r : Nat), szs l ≤ r → areF l r = areG l
  | [], r, _ => by rw [areF, areG]
  | a :: l, r, h => by
    rw [szs] at h
    rw [areF, areG, isF_isG a r (by omega), areF_areG l r (by omega)]
end
theorem areG_step {l : List Fv} {i : Nat} {x : Fv} (hx : l[i]? = some x) : areG (cts (l.drop i)) = (isG (ct x) && areG (cts (l.drop (i + 1)))) := by
  rw [List.drop_eq_getElem_cons (List.getElem?_eq_some_iff.1 hx).1, (List.getElem?_eq_some_iff.1 hx).2]
  simp only [cts]
  rw [areG]
theorem areG_end {l : List Fv} {i : Nat} (h : l.length ≤ i) : areG (cts (l.drop i)) = true := by
  rw [List.drop_eq_nil_of_le h]
  simp [cts, areG]
end Kl
end Go.Proofs.Ytmpmlccomgepjaa
