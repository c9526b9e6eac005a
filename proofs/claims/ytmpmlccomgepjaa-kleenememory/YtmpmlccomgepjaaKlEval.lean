/-
  THE WALK over kleene.worth and kleene.Eval.
-/
import Derived.Test.YtmpmlccomgepjaaKlVarM
import Derived.Test.YtmpmlccomgepjaaKlValLaw
namespace Go.Proofs.Ytmpmlccomgepjaa
open Go.RowKit Go.Lib Go.Sort
namespace Kl
mutual
/-- its value -/
def ev (vs : List Int) : Fm → Int
  | .mk o v n l => if o = 0 then v else if o = 1 then valL vs n else if o = 2 then andL (evs vs l) else if o = 3 then orL (evs vs l) else notT ((evs vs l).headD 0)
def evs (vs : List Int) : List Fm → List Int
  | [] => []
  | a :: l => ev vs a :: evs vs l
end
theorem evs_map (vs : List Int) : ∀ l : List Fm, evs vs l = l.map (ev vs)
  | [] => by simp [evs]
  | a :: l => by simp [evs, evs_map vs l]
theorem areG_mem {l : List Fv} (h : areG (cts l) = true) : ∀ x ∈ l, isG (ct x) = true := fun x hx => by
  induction l with
  | nil => cases hx
  | cons a l ih =>
    rw [cts] at h
    obtain ⟨h1, h2⟩ := areG_parts h
    rcases List.mem_cons.1 hx with e | e
    · rw [e]; exact h1
    · exact ih h2 e
theorem isG_four {v n : Int} {l : List Fm} (h : isG (.mk 4 v n l) = true) : l.length = 1 := by
  rw [isG] at h
  simp at h
  exact h.1.2
theorem isG_op {o v n : Int} {l : List Fm} (h : isG (.mk o v n l) = true) : o = 0 ∨ o = 1 ∨ o = 2 ∨ o = 3 ∨ o = 4 := by
  rw [isG] at h
  by_cases e0 : o = 0
  · exact .inl e0
  by_cases e1 : o = 1
  · exact .inr (.inl e1)
  by_cases e2 : o = 2
  · exact .inr (.inr (.inl e2))
  by_cases e3 : o = 3
  · exact .inr (.inr (.inr (.inl e3)))
  by_cases e4 : o = 4
  · exact .inr (.inr (.inr (.inr e4)))
  rw [if_neg e0, if_neg e1, if_neg (by omega), if_neg e4] at h
  cases h
theorem owns_bel {w w' : World} {base n k : Nat} {e : TypeId} {v : Value} {xs : List Value} (h : w.ownsRow base e k v n xs) (hg : Below w.heap.size w w') : w'.ownsRow base e k v n xs := by
  refine ⟨h.1, ?_⟩
  rcases h.2 with h0 | ⟨g, cap, cur, h1, h2, h3, h4⟩
  · exact .inl h0
  · refine .inr ⟨g, cap, cur, h1, h2, ?_, h4⟩
    have hlt : g < w.heap.size := (Array.getElem?_eq_some_iff.1 h3).1
    rw [hg.block g hlt]
    exact h3
end Kl
end Go.Proofs.Ytmpmlccomgepjaa
