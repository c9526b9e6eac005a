/-
  WALKS over gimletref14.Greatest and Holds.
-/
import Derived.Test.YtmpmlccomgepjaaKlSz
namespace Go.Proofs.Ytmpmlccomgepjaa
open Go.RowKit Go.Lib Go.Sort
namespace Kl
mutual
/-- the greatest variable in it -/
def gre : Fm → Int
  | .mk o _ n l => gres (if o = 1 then n else -1) l
def gres : Int → List Fm → Int
  | m, [] => m
  | m, a :: l => gres (max m (gre a)) l
end
mutual
/-- is the variable in it? -/
def hol (v : Int) : Fm → Bool
  | .mk o _ n l => (o == 1 && n == v) || hols v l
def hols (v : Int) : List Fm → Bool
  | [] => false
  | a :: l => hol v a || hols v l
end
theorem gres_step {l : List Fv} {i : Nat} {x : Fv} (hx : l[i]? = some x) (m : Int) : gres m (cts (l.drop i)) = gres (max m (gre (ct x))) (cts (l.drop (i + 1))) := by
  rw [List.drop_eq_getElem_cons (List.getElem?_eq_some_iff.1 hx).1, (List.getElem?_eq_some_iff.1 hx).2]
  simp only [cts]
  rw [gres]
theorem gres_end {l : List Fv} {i : Nat} (h : l.length ≤ i) (m : Int) : gres m (cts (l.drop i)) = m := by
  rw [List.drop_eq_nil_of_le h]
  simp [cts, gres]
theorem hols_step {l : List Fv} {i : Nat} {x : Fv} (hx : l[i]? = some x) (v : Int) : hols v (cts (l.drop i)) = (hol v (ct x) || hols v (cts (l.drop (i + 1)))) := by
  rw [List.drop_eq_getElem_cons (List.getElem?_eq_some_iff.1 hx).1, (List.getElem?_eq_some_iff.1 hx).2]
  simp only [cts]
  rw [hols]
theorem hols_end {l : List Fv} {i : Nat} (h : l.length ≤ i) (v : Int) : hols v (cts (l.drop i)) = false := by
  rw [List.drop_eq_nil_of_le h]
  simp [cts, hols]
end Kl
end Go.Proofs.Ytmpmlccomgepjaa
