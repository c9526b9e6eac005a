/-
  WALKS over kleene.size, Size, gimletref14.Size, rest, Great (gen_sz.py).
-/
import Derived.Test.YtmpmlccomgepjaaKlSprM
namespace Go.Proofs.Ytmpmlccomgepjaa
open Go.RowKit Go.Lib Go.Sort
namespace Kl
theorem szs_step {l : List Fv} {i : Nat} {x : Fv} (hx : l[i]? = some x) : szs (cts (l.drop i)) = sz (ct x) + szs (cts (l.drop (i + 1))) := by
  rw [List.drop_eq_getElem_cons (List.getElem?_eq_some_iff.1 hx).1, (List.getElem?_eq_some_iff.1 hx).2]
  simp only [cts]
  rw [szs]
theorem szs_end {l : List Fv} {i : Nat} (h : l.length ≤ i) : szs (cts (l.drop i)) = 0 := by
  rw [List.drop_eq_nil_of_le h]
  simp [cts, szs]
theorem sz_mk (o v n : Int) (p : Option Addr) (c : Nat) (l : List Fv) : sz (ct (.mk o v n p c l)) = 1 + szs (cts l) := by rw [ct, sz]
end Kl

end Go.Proofs.Ytmpmlccomgepjaa
