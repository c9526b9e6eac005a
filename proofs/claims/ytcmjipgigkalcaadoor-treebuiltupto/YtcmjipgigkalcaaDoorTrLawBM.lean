import Derived.Test.YtcmjipgigkalcaaDoorTrAlong
import Derived.Test.YtcmjipgigkalcaaDoorTrAwake
import Derived.Test.YtcmjipgigkalcaaDoorTrCopied
import Derived.Test.YtcmjipgigkalcaaDoorTrNodesM
/-
  THE WALK over gimletlaw09.TreeAxes.
-/
namespace Go.Proofs.YtcmjipgigkalcaaDoor
open Go.RowKit Go.Shelf Go.Lib
namespace Tr
theorem alF_1 {E : Nat → Ev Value} {n nd : Nat} {k : Int} (h0 : -1 ≤ k) (h1 : k < nd) : alF E n nd k 1 = (k + 1, bh E n nd k) := by
  unfold alF
  rw [if_neg (by omega), if_pos rfl]
theorem alF_2 {E : Nat → Ev Value} {n nd : Nat} {k : Int} (h0 : -1 ≤ k) (h1 : k < nd) : alF E n nd k 2 = (k, bh E n nd k) := by
  unfold alF
  rw [if_neg (by omega), if_neg (by decide), if_pos rfl]
theorem alF_3 {E : Nat → Ev Value} {n nd : Nat} {k : Int} (h0 : -1 ≤ k) (h1 : k < nd) : alF E n nd k 3 = (k, k + 1) := by
  unfold alF
  rw [if_neg (by omega), if_neg (by decide), if_neg (by decide), if_pos rfl]
theorem numL_one (k : Int) : numL k (k + 1) = [k] := by
  rw [numL_step (by omega), numL_nil (by omega)]
/-- the tree stands, and nothing old has changed -/
structure AX (w : World) (B D n : Nat) (E : Nat → Ev Value) (L q cap nd : Nat) (W : World) : Prop where
  bel : Below w.heap.size w W
  tr : TreeR W B D n E L q cap nd
theorem AX.go {w W W' : World} {B D n : Nat} {E : Nat → Ev Value} {L q cap nd : Nat} (h : AX w B D n E L q cap nd W) (hb : Below W.heap.size W W') : AX w B D n E L q cap nd W' :=
  ⟨h.bel.trans (hb.mono h.bel.size), h.tr.below hb⟩
theorem take_snoc {α : Type} (l : List α) (i : Nat) (c : α) (h : l[i]? = some c) : l.take (i + 1) = l.take i ++ [c] := by
  rw [List.take_add_one, h]
  rfl
/-- while the children are gone through -/
structure AS (wb : World) (v : Value) (ls : List Int) (W : World) : Prop where
  bel : Below wb.heap.size wb W
  io : IO W wb.heap.size v ls
/-- a child with what is in it -/
def fam (E : Nat → Ev Value) (n nd : Nat) (c : Int) : List Int := c :: numL (c + 1) (bh E n nd c)
theorem fam_take (E : Nat → Ev Value) (n nd : Nat) (l : List Int) (i : Nat) (c : Int) (h : l[i]? = some c) : (l.take (i + 1)).flatMap (fam E n nd) = (l.take i).flatMap (fam E n nd) ++ [c] ++ numL (c + 1) (bh E n nd c) := by
  rw [take_snoc l i c h, List.flatMap_append, List.append_assoc, List.flatMap_cons, List.flatMap_nil, List.append_nil]
  rfl
theorem fam_len (E : Nat → Ev Value) (n nd : Nat) (l : List Int) (i : Nat) : ((l.take i).flatMap (fam E n nd)).length ≤ (l.flatMap (fam E n nd)).length := by
  have h : ((l.take i ++ l.drop i).flatMap (fam E n nd)).length = (l.flatMap (fam E n nd)).length := by rw [List.take_append_drop]
  rw [List.flatMap_append, List.length_append] at h
  omega
theorem grown_below {wb w w' : World} {v : Value} {l : List Int} (hb : Below wb.heap.size wb w) (hi : IO w wb.heap.size v l) (o : Obj) (hg : (w.alloc o).grownBy w' v.ownBlock) : Below wb.heap.size wb w' :=
  (hb.alloc hb.size o).grown hg (by have := hb.size; simp; omega) (fun g e => (hi.lt g e).1)
theorem grown_below0 {wb w w' : World} {v : Value} {l : List Int} (hb : Below wb.heap.size wb w) (hi : IO w wb.heap.size v l) (hg : w.grownBy w' v.ownBlock) : Below wb.heap.size wb w' :=
  hb.grown hg hb.size (fun g e => (hi.lt g e).1)
end Tr
end Go.Proofs.YtcmjipgigkalcaaDoor
/-
  What the tree and the document's nodes say of one another (layer 9, TreeBuilt): mathematics, and Along of both.
-/
namespace Go.Proofs.YtcmjipgigkalcaaDoor
open Go.RowKit Go.Shelf Go.Lib
namespace Tr
/-- the first node's event is the first -/
theorem grun_fst {ok : Ev Value → Bool} {E : Nat → Ev Value} : ∀ (i : Nat) (s : Ds), drun ok E (i + 1) = some s → ((grun E (i + 1)).nth 0).fst = 0 ∧ 0 < (grun E (i + 1)).ns.length
  | 0, s, h => by
    have hk : (E 0).kind = 0 := by
      unfold drun drun dstep at h
      dsimp only at h
      simp at h
      exact h.1
    show ((gstep E ⟨[], -1⟩ 0).nth 0).fst = 0 ∧ 0 < (gstep E ⟨[], -1⟩ 0).ns.length
    unfold gstep
    rw [if_pos hk]
    exact ⟨rfl, by simp⟩
  | i + 1, s, h => by
    obtain ⟨s0, h0⟩ : ∃ s0, drun ok E (i + 1) = some s0 := by
      unfold drun at h
      split at h
      · cases h
      · next s0 h0 => exact ⟨s0, h0⟩
    obtain ⟨ih1, ih2⟩ := grun_fst i s0 h0
    show ((gstep E (grun E (i + 1)) (i + 1)).nth 0).fst = 0 ∧ 0 < (gstep E (grun E (i + 1)) (i + 1)).ns.length
    unfold gstep
    split
    · exact ⟨by rw [nth_app _ _ _ _ ih2]; exact ih1, by simp⟩
    · split
      · exact ⟨by rw [nth_app _ _ _ _ ih2]; exact ih1, by simp⟩
      · refine ⟨?_, by simpa using ih2⟩
        unfold Gs.nth
        dsimp only
        rw [List.getElem?_set]
        split
        · next e =>
          rw [e, if_pos ih2]
          exact ih1
        · exact ih1
/-- and is closed by the last one -/
theorem grun_fin {ok : Ev Value → Bool} {E : Nat → Ev Value} {n nd : Nat} (h : drun ok E (n + 1) = some ⟨[], nd⟩) : ((grun E (n + 1)).nth 0).fin = n + 1 := by
  unfold drun at h
  split at h
  · cases h
  next s0 h0 =>
  have hg := grun_inv n s0 h0
  unfold dstep at h
  split at h
  · cases h
  next hz =>
  split at h
  · split at h
    · injection h with h
      injection h with h _
      exact absurd h (by simp)
    · cases h
  next k0 =>
  split at h
  · split at h
    · next hc =>
      injection h with h
      injection h with h _
      exact absurd h hc.1
    · cases h
  next k1 =>
  split at h
  · next k2 =>
    split at h
    · cases h
    next o ho =>
    split at h
    · injection h with h
      injection h with h _
      have hl : s0.op.length = 1 := by
        have h1 : s0.op.dropLast.length = 0 := by rw [h]; rfl
        rw [List.length_dropLast] at h1
        have : s0.op ≠ [] := fun e => by rw [e] at ho; cases ho
        have := List.length_pos_iff.2 this
        omega
      rw [List.getLast?_eq_getElem?, hl] at ho
      obtain ⟨m, a1, a2, _, _, _, a3, _⟩ := hg.opn 0 o ho
      have hm : m = 0 := by
        by_cases c : 0 < m
        · have := (hg.one m a2).2 c
          omega
        · omega
      subst hm
      have hlast : (grun E n).last = 0 := by rw [hg.top, List.getLast?_eq_getElem?, hl, ho]; exact a1
      show ((gstep E (grun E n) n).nth 0).fin = _
      unfold gstep
      rw [if_neg k0, if_neg k1, hlast]
      unfold Gs.nth
      dsimp only
      rw [List.getElem?_set]
      have hlen := hg.len
      rw [Int.toNat_zero, if_pos rfl, if_pos (by omega)]
      rfl
    · cases h
  · cases h
theorem doc_root {E : Nat → Ev Value} {n : Nat} (h : doc okB E n = true) : ((grun E n).nth 0).fst = 0 ∧ ((grun E n).nth 0).fin = n := by
  obtain ⟨nd, h1, h2⟩ := doc_shape h
  cases n with
  | zero =>
    cases h1
    exact absurd h2.pos (by simp)
  | succ n => exact ⟨(grun_fst n _ h1).1, grun_fin h1⟩
theorem evB_alike {n : Nat} {E E' : Nat → Ev Value} (h : Alike n E E') {i : Nat} (hi : i < n) : evB (E' i) = evB (E i) := by
  rw [h i hi]
  rfl
theorem evsF_alike {n : Nat} {E E' : Nat → Ev Value} (h : Alike n E E') (a : Nat) : ∀ k, a + k ≤ n → evsF E' a k = evsF E a k
  | 0, _ => rfl
  | k + 1, hk => by
    show evsF E' a k ++ evB (E' (a + k)) = evsF E a k ++ evB (E (a + k))
    rw [evsF_alike h a k (by omega), evB_alike h (by omega)]
theorem evsF_len {E : Nat → Ev Value} {n : Nat} (hb : ∀ i, i < n → (evB (E i)).length ≤ 16777216) (a : Nat) : ∀ k, a + k ≤ n → (evsF E a k).length ≤ 16777216 * k
  | 0, _ => by show ([] : List UInt8).length ≤ _; simp
  | k + 1, hk => by
    have h1 := evsF_len hb a k (by omega)
    have h2 := hb (a + k) (by omega)
    show (evsF E a k ++ evB (E (a + k))).length ≤ _
    rw [List.length_append]
    omega
theorem evsF_zero (E : Nat → Ev Value) : ∀ k, evsF E 0 k = evsB E k
  | 0 => rfl
  | k + 1 => by
    show evsF E 0 k ++ evB (E (0 + k)) = evsB E k ++ evB (E k)
    rw [evsF_zero E k, Nat.zero_add]
/-- the texts of nodes, by numbers -/
theorem vtx_txs (E E' : Nat → Ev Value) (n : Nat) (f : Nat → Nat) (a : Nat) : ∀ k, (∀ x, a ≤ x → x < a + k → ((grun E' n).nth x).fst = f x ∧ (E' (f x)).tx = (E (f x)).tx) → vtx E' n (numL a ((a + k : Nat) : Int)) = txs E f a (a + k)
  | 0, _ => by
    rw [numL_nil (by omega)]
    unfold txs
    simp [vtx]
  | k + 1, h => by
    have ih := vtx_txs E E' n f a k fun x h1 h2 => h x h1 (by omega)
    rw [numL_app (a := (a : Int)) (b := ((a + k : Nat) : Int)) (by omega) (by omega), show ((a + (k + 1) : Nat) : Int) = ((a + k : Nat) : Int) + 1 by omega, numL_one]
    rw [show vtx E' n (numL a ((a + k : Nat) : Int) ++ [((a + k : Nat) : Int)]) = vtx E' n (numL a ((a + k : Nat) : Int)) ++ tx1 E' n ((a + k : Nat) : Int) from vtx_snoc _ _ _ _, ih]
    rw [show a + (k + 1) = a + k + 1 by omega, txs_more E f (by omega)]
    congr 1
    unfold tx1
    rw [if_pos (by omega), Int.toNat_natCast]
    obtain ⟨h1, h2⟩ := h (a + k) (by omega) (by omega)
    rw [h1, Int.toNat_natCast, h2]
/-- what an axis leads to -/
def alL (E : Nat → Ev Value) (n nd : Nat) (k ax : Int) : List Int :=
  if k < -1 ∨ (nd : Int) ≤ k then [] else if ax = 0 then chL E n nd k else if ax = 1 then numL (k + 1) (bh E n nd k) else if ax = 2 then numL k (bh E n nd k) else if ax = 3 then [k] else []
theorem raP_1 (L : Nat → RN) (k : Int) (l : List Int) : l.filter (raP L k 1) = l := List.filter_eq_self.2 fun x _ => by unfold raP; simp
theorem raP_2 (L : Nat → RN) (k : Int) (l : List Int) : l.filter (raP L k 2) = l := List.filter_eq_self.2 fun x _ => by unfold raP; simp
theorem raP_no (L : Nat → RN) (k ax : Int) (l : List Int) (h : ax < 0 ∨ 3 ≤ ax) : l.filter (raP L k ax) = [] := by
  rw [List.filter_eq_nil_iff]
  intro x _
  unfold raP
  simp
  omega
theorem raP_0 {E : Nat → Ev Value} {n nd : Nat} (h : Shape E (grun E n) nd n) (L : Nat → RN) (hp : ∀ m, m < nd → (L m).par = ((grun E n).nth m).par) {k : Int} (h0 : -1 ≤ k) (hk : k < nd) : (numL (k + 1) (bh E n nd k)).filter (raP L k 0) = chL E n nd k := by
  rw [← chL_filter h h0 hk]
  refine List.filter_congr fun x hx => ?_
  obtain ⟨a1, a2⟩ := numL_mem.1 hx
  have := (bh_up h h0 hk).2
  unfold raP
  rw [hp x.toNat (by omega)]
  simp
end Tr
theorem trAlongAll (w : World) (B D n : Nat) (E : Nat → Tr.Ev Value) (L q cap nd : Nat) (h : Tr.TreeR w B D n E L q cap nd) (hn : nd ≤ 900) (k ax : Int) :
    Calls Tryd.prog 20 #[.pointer (some ⟨D, 0, none⟩), .int .i64 k, .int .i64 ax] w fun e w' => Tr.AlE w (Tr.alL E n nd k ax) e w' := by
  unfold Tr.alL
  by_cases hk : k < -1 ∨ (nd : Int) ≤ k
  · rw [if_pos hk]
    exact trAlongXL w B D n E L q cap nd h k ax hk
  · rw [if_neg hk]
    by_cases a0 : ax = 0
    · rw [if_pos a0, a0]
      exact trAlongCL w B D n E L q cap nd h hn k (by omega) (by omega)
    · rw [if_neg a0]
      have c := trAlongL w B D n E L q cap nd h hn k ax a0
      unfold Tr.alF at c
      rw [if_neg hk] at c
      by_cases a1 : ax = 1
      · rw [if_pos a1] at c ⊢
        exact c
      · rw [if_neg a1] at c ⊢
        by_cases a2 : ax = 2
        · rw [if_pos a2] at c ⊢
          exact c
        · rw [if_neg a2] at c ⊢
          by_cases a3 : ax = 3
          · rw [if_pos a3] at c ⊢
            rw [Tr.numL_one] at c
            exact c
          · rw [if_neg a3] at c ⊢
            rw [Tr.numL_nil (by dsimp only; omega)] at c
            exact c
theorem refAlongAll (v : Value) (nd n : Nat) (E : Nat → Tr.Ev Value) (L : Nat → Tr.RN) (w : World) (h : Tr.NRow w v nd L) (hs : Tr.Shape E (Tr.grun E n) nd n) (hn : nd ≤ 900) (hp : ∀ m, m < nd → (L m).par = ((Tr.grun E n).nth m).par) (hl : ∀ m, m < nd → (L m).last = ((Tr.grun E n).nth m).beh - 1) (k ax : Int) :
    Calls Tryd.prog 21 #[v, .int .i64 k, .int .i64 ax] w fun r w' => ∃ u, r = .returned u ∧ Tr.IO w' w.heap.size u (Tr.alL E n nd k ax) ∧ Below w.heap.size w w' := by
  have hpos := hs.pos
  unfold Tr.alL
  by_cases hk : k < -1 ∨ (nd : Int) ≤ k
  · rw [if_pos hk]
    refine (refAlOut v nd L w k ax h hk).mono ?_
    rintro r w' ⟨rfl, hb⟩
    exact ⟨_, rfl, Tr.io_nil _ _, hb⟩
  · rw [if_neg hk]
    by_cases kr : k = -1
    · subst kr
      have hb : Tr.bh E n nd (-1) = nd := by unfold Tr.bh; rw [if_pos (by decide)]
      have e1 : ((nd : Int) - 1) + 1 = nd := by omega
      by_cases a0 : ax = 0
      · subst a0
        rw [if_pos rfl]
        have c := refAlR0 v nd L w h (by omega) hpos
        rw [e1, ← hb, Tr.raP_0 hs L hp (by omega) (by omega)] at c
        exact c
      · rw [if_neg a0]
        by_cases a1 : ax = 1
        · subst a1
          rw [if_pos rfl]
          have c := refAlR1 v nd L w h (by omega) hpos
          rw [e1, Tr.raP_1, ← hb] at c
          exact c
        · rw [if_neg a1]
          by_cases a2 : ax = 2
          · subst a2
            rw [if_pos rfl]
            have c := refAlR2 v nd L w h (by omega) hpos
            rw [e1, Tr.raP_2, ← hb] at c
            rw [Tr.numL_step (by rw [hb]; omega)]
            exact c
          · rw [if_neg a2]
            by_cases a3 : ax = 3
            · subst a3
              rw [if_pos rfl]
              have c := refAlR3 v nd L w h (by omega) hpos
              rw [Tr.raP_no _ _ _ _ (by omega)] at c
              exact c
            · rw [if_neg a3]
              have c := refAlRX v nd L w ax h (by omega) hpos (by omega)
              rw [Tr.raP_no _ _ _ _ (by omega)] at c
              exact c
    · obtain ⟨j, rfl⟩ : ∃ j : Nat, k = j := ⟨k.toNat, by omega⟩
      have hj : j < nd := by omega
      have hb : Tr.bh E n nd (j : Int) = ((Tr.grun E n).nth j).beh := by unfold Tr.bh; rw [if_neg (by omega), Int.toNat_natCast]
      have hu := Tr.bh_up hs (x := (j : Int)) (by omega) (by omega)
      have hlj := hl j hj
      rw [← hb] at hlj
      by_cases a0 : ax = 0
      · subst a0
        rw [if_pos rfl]
        have c := refAlN0 v nd L w j _ h (by omega) hj hlj (by omega) (by omega)
        rw [show Tr.bh E n nd (j : Int) - 1 + 1 = Tr.bh E n nd (j : Int) by omega, Tr.raP_0 hs L hp (by omega) (by omega)] at c
        exact c
      · rw [if_neg a0]
        by_cases a1 : ax = 1
        · subst a1
          rw [if_pos rfl]
          have c := refAlN1 v nd L w j _ h (by omega) hj hlj (by omega) (by omega)
          rw [show Tr.bh E n nd (j : Int) - 1 + 1 = Tr.bh E n nd (j : Int) by omega, Tr.raP_1] at c
          exact c
        · rw [if_neg a1]
          by_cases a2 : ax = 2
          · subst a2
            rw [if_pos rfl]
            have c := refAlN2 v nd L w j _ h (by omega) hj hlj (by omega) (by omega)
            rw [show Tr.bh E n nd (j : Int) - 1 + 1 = Tr.bh E n nd (j : Int) by omega, Tr.raP_2] at c
            rw [Tr.numL_step (by omega)]
            exact c
          · rw [if_neg a2]
            by_cases a3 : ax = 3
            · subst a3
              rw [if_pos rfl]
              have c := refAlN3 v nd L w j _ h (by omega) hj hlj (by omega) (by omega)
              rw [Tr.raP_no _ _ _ _ (by omega)] at c
              exact c
            · rw [if_neg a3]
              have c := refAlNX v nd L w j ax _ h (by omega) hj hlj (by omega) (by omega) (by omega)
              rw [Tr.raP_no _ _ _ _ (by omega)] at c
              exact c
end Go.Proofs.YtcmjipgigkalcaaDoor
