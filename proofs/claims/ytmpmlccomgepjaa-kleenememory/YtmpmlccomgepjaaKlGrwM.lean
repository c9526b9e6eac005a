/-
  WHAT KleeneGrows asks of the lists of values.
-/
import Derived.Test.YtmpmlccomgepjaaKlMrg
import Derived.Test.YtmpmlccomgepjaaKlChkLaw
import Derived.Test.YtmpmlccomgepjaaKlSame
namespace Go.Proofs.Ytmpmlccomgepjaa
open Go.RowKit Go.Lib Go.Sort
namespace Kl
theorem valL_at1 (vs : List Int) (n : Int) : valL vs n = at1 vs n.toNat := by
  by_cases h : 0 ≤ n
  · exact valL_at h
  · unfold valL at1
    rw [if_pos (by omega)]
theorem kn_at {vs us : List Int} (h : ∀ j, at1 vs j ≠ 1 → at1 us j = at1 vs j) : Kn vs us := fun n hn => by
  rw [valL_at1] at hn ⊢
  rw [valL_at1]
  exact h _ hn
theorem kn_mrg (vs us : List Int) : Kn vs (mrg vs us) := kn_at fun j hj => by rw [at1_mrg, if_pos hj]
/-- what is Unknown is made True -/
def fil (L : List Int) : List Int := L.map fun x => if x = 1 then 2 else x
theorem fil_len (L : List Int) : (fil L).length = L.length := by simp [fil]
theorem fil_at {L : List Int} {j : Nat} (hj : j < L.length) : at1 (fil L) j = if at1 L j = 1 then 2 else at1 L j := by
  unfold at1 fil
  rw [List.getElem?_map, List.getElem?_eq_getElem hj]
  rfl
theorem fil_good {L : List Int} (h : goodL L = true) : goodL (fil L) = true := by
  unfold goodL fil at *
  rw [List.all_map, List.all_eq_true]
  intro x hx
  have := of_decide_eq_true (List.all_eq_true.1 h x hx)
  show isT _ = true
  unfold isT
  apply decide_eq_true
  show 0 ≤ (if x = 1 then (2 : Int) else x) ∧ (if x = 1 then (2 : Int) else x) ≤ 2
  split <;> omega
theorem at1_app {A B : List Int} {j : Nat} (h : j < A.length) : at1 (A ++ B) j = at1 A j := by
  unfold at1
  rw [List.getElem?_append_left h]
theorem kn_fil (vs us : List Int) (k : Nat) : Kn vs (fil (mrg vs us ++ List.replicate k 0)) := kn_at fun j hj => by
  have hj1 : j < vs.length := by
    apply Decidable.byContradiction
    intro c
    apply hj
    unfold at1
    rw [List.getElem?_eq_none (by omega)]
    rfl
  have hj2 : j < (mrg vs us).length := by rw [mrg_len]; omega
  have e : at1 (mrg vs us ++ List.replicate k 0) j = at1 vs j := by rw [at1_app hj2, at1_mrg, if_pos hj]
  rw [fil_at (by rw [List.length_append]; omega), e, if_neg hj]
theorem good_app {A : List Int} (h : goodL A = true) (k : Nat) : goodL (A ++ List.replicate k 0) = true := by
  unfold goodL at *
  rw [List.all_append, h]
  simp [isT]
theorem fil_known {L : List Int} {q : Int} (h0 : 0 ≤ q) (h1 : q < L.length) : valL (fil L) q ≠ 1 := by
  rw [valL_at1, fil_at (by omega)]
  split
  · decide
  · assumption
theorem ord_all {vs us : List Int} {f : Fm} {k : Nat} (hG : isG f = true) (hg : goodL (mrg vs us) = true) (hR : ∀ q ∈ vr f (gre f + 1).toNat, q < (mrg vs us ++ List.replicate k 0).length) :
    ord (lse (fil (mrg vs us ++ List.replicate k 0)) f) = cons (ev (fil (mrg vs us ++ List.replicate k 0)) f) := by
  rw [lse_cons (fil_good (good_app hg k)) f hG fun q hq => ?_, ord_cons]
  have h1 := gat_rng f hG q hq
  have h2 := gre_hol q f ((hol_gat q f hG).2 hq)
  exact fil_known h1.1 (hR q ((vr_mem _ _ _).2 ⟨⟨h1.1, by have := gre_rng f hG; omega⟩, (hol_gat q f hG).2 hq⟩))
theorem TsN.below {w w' : World} {v : Value} {l : List Int} (h : TsN w v l) (hb : Below w.heap.size w w') : TsN w' v l := ⟨h.1.below hb, h.2⟩
theorem owns_TsN {w : World} {base : Nat} {e : TypeId} {v : Value} {l : List Int} (h : w.ownsRow base e 1 v l.length (ic l)) : TsN w v l := ⟨owns_Ts h, fun n c e' => by
  rcases h.2 with ⟨e0, _⟩ | ⟨g, cap, cur, e1, _⟩
  · rw [e0] at e'; cases e'; rfl
  · rw [e1] at e'; cases e'⟩
end Kl
/-- truths, with the form of its answer -/
theorem lawTruthsF (v : Value) (l : List Int) (w : World) (h : Kl.TsN w v l) (hn : l.length ≤ 17592186044416) : Calls Try.prog 7 #[v] w fun r w' => ∃ p c, r = .returned (.slice p l.length c) ∧ Hid (Kl.Ts w' (.slice p l.length c) l) ∧ Hid (Below w.heap.size w w') := (lawTruths14 v l w h hn).mono fun r w' hr => by
  obtain ⟨v', e, h1, h2⟩ := hr
  obtain ⟨p, c, rfl⟩ := h1.out.form
  exact ⟨p, c, e, h1, h2⟩
end Go.Proofs.Ytmpmlccomgepjaa
