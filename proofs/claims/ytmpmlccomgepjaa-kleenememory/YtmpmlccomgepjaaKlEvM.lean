/-
  THE MATHEMATICS of a formula's value: what is known stays when more becomes known; with all known the simple formula is a constant.
-/
import Derived.Test.YtmpmlccomgepjaaKlEvalO
namespace Go.Proofs.Ytmpmlccomgepjaa
open Go.RowKit Go.Lib Go.Sort
namespace Kl
def g3 (x : Int) : Prop := x = 0 ∨ x = 1 ∨ x = 2
theorem of3_g3 {x : Int} (h : g3 x) : of3 x = x := by
  unfold of3
  rcases h with rfl | rfl | rfl <;> decide
theorem fold_and : ∀ (l : List Int) (a : Int), g3 a → (∀ x ∈ l, g3 x) → l.foldl (fun a x => min a (of3 x)) a = if a = 0 ∨ 0 ∈ l then 0 else if a = 1 ∨ 1 ∈ l then 1 else 2
  | [], a, ha, _ => by
    rcases ha with rfl | rfl | rfl <;> simp
  | x :: l, a, ha, hl => by
    have hx := hl x (by simp)
    rw [List.foldl_cons, of3_g3 hx]
    have hm : g3 (min a x) := by
      rcases ha with rfl | rfl | rfl <;> rcases hx with rfl | rfl | rfl <;> (unfold g3; decide)
    rw [fold_and l _ hm fun y hy => hl y (by simp [hy])]
    rcases ha with rfl | rfl | rfl <;> rcases hx with rfl | rfl | rfl <;> simp [show min (0 : Int) 1 = 0 from rfl, show min (0 : Int) 2 = 0 from rfl, show min (1 : Int) 0 = 0 from rfl, show min (1 : Int) 2 = 1 from rfl, show min (2 : Int) 0 = 0 from rfl, show min (2 : Int) 1 = 1 from rfl]
theorem fold_or : ∀ (l : List Int) (a : Int), g3 a → (∀ x ∈ l, g3 x) → l.foldl (fun a x => max a (of3 x)) a = if a = 2 ∨ 2 ∈ l then 2 else if a = 1 ∨ 1 ∈ l then 1 else 0
  | [], a, ha, _ => by
    rcases ha with rfl | rfl | rfl <;> simp
  | x :: l, a, ha, hl => by
    have hx := hl x (by simp)
    rw [List.foldl_cons, of3_g3 hx]
    have hm : g3 (max a x) := by
      rcases ha with rfl | rfl | rfl <;> rcases hx with rfl | rfl | rfl <;> (unfold g3; decide)
    rw [fold_or l _ hm fun y hy => hl y (by simp [hy])]
    rcases ha with rfl | rfl | rfl <;> rcases hx with rfl | rfl | rfl <;> simp [show max (0 : Int) 1 = 1 from rfl, show max (0 : Int) 2 = 2 from rfl, show max (1 : Int) 0 = 1 from rfl, show max (1 : Int) 2 = 2 from rfl, show max (2 : Int) 0 = 2 from rfl, show max (2 : Int) 1 = 2 from rfl]
theorem andL_eq {l : List Int} (h : ∀ x ∈ l, g3 x) : andL l = if 0 ∈ l then 0 else if 1 ∈ l then 1 else 2 := by
  unfold andL
  rw [fold_and l 2 (.inr (.inr rfl)) h]
  simp
theorem orL_eq {l : List Int} (h : ∀ x ∈ l, g3 x) : orL l = if 2 ∈ l then 2 else if 1 ∈ l then 1 else 0 := by
  unfold orL
  rw [fold_or l 0 (.inl rfl) h]
  simp
theorem notT_g3 (x : Int) : g3 (notT x) := by unfold notT g3; split <;> (try split) <;> simp
theorem valL_g3 {vs : List Int} (h : goodL vs = true) (n : Int) : g3 (valL vs n) := by
  unfold valL
  split
  · cases e : vs[n.toNat]? with
    | none => exact .inr (.inl rfl)
    | some x =>
      have := List.all_eq_true.1 h x (List.mem_of_getElem? e)
      have := of_decide_eq_true this
      show g3 x
      unfold g3
      omega
  · exact .inr (.inl rfl)
theorem isG_zero {v n : Int} {l : List Fm} (h : isG (.mk 0 v n l) = true) : g3 v := by
  rw [isG] at h
  simp at h
  have := h.1.1
  unfold isT at this
  have := of_decide_eq_true this
  unfold g3
  omega
mutual
theorem ev_g3 {vs : List Int} (hg : goodL vs = true) : ∀ f : Fm, isG f = true → g3 (ev vs f)
  | .mk o v n l, h => by
    have hl := evs_g3 hg l (isG_parts h).2
    rw [ev]
    by_cases e0 : o = 0
    · subst e0; rw [if_pos rfl]; exact isG_zero h
    · rw [if_neg e0]
      split
      · exact valL_g3 hg n
      · split
        · rw [andL_eq hl]; unfold g3; split <;> (try split) <;> simp
        · split
          · rw [orL_eq hl]; unfold g3; split <;> (try split) <;> simp
          · exact notT_g3 _
theorem evs_g3 {vs : List Int} (hg : goodL vs = true) : ∀ l : List Fm, areG l = true → ∀ x ∈ evs vs l, g3 x
  | [], _, x, hx => by simp [evs] at hx
  | a :: l, h, x, hx => by
    obtain ⟨h1, h2⟩ := areG_parts h
    rw [evs] at hx
    rcases List.mem_cons.1 hx with e | e
    · rw [e]; exact ev_g3 hg a h1
    · exact evs_g3 hg l h2 x e
end
/-- what vs knows, us knows too -/
def Kn (vs us : List Int) : Prop := ∀ n, valL vs n ≠ 1 → valL us n = valL vs n
theorem mono_mem {vs us : List Int} : ∀ {l : List Fm}, (∀ a ∈ l, ev vs a ≠ 1 → ev us a = ev vs a) → (∀ x, x ≠ 1 → x ∈ evs vs l → x ∈ evs us l) ∧ ((∀ x ∈ evs vs l, x ≠ 1) → evs us l = evs vs l)
  | [], _ => by simp [evs]
  | a :: l, h => by
    obtain ⟨i1, i2⟩ := mono_mem (l := l) fun b hb => h b (by simp [hb])
    have ha := h a (by simp)
    rw [evs, evs]
    refine ⟨fun x hx hm => ?_, fun hm => ?_⟩
    · rcases List.mem_cons.1 hm with e | e
      · subst e; rw [← ha hx]; simp
      · exact List.mem_cons_of_mem _ (i1 x hx e)
    · rw [ha (hm _ (by simp)), i2 fun x hx => hm x (by simp [hx])]
mutual
theorem ev_mono {vs us : List Int} (hg : goodL vs = true) (hu : goodL us = true) (hk : Kn vs us) : ∀ f : Fm, isG f = true → ev vs f ≠ 1 → ev us f = ev vs f
  | .mk o v n l, h, hn => by
    have ih := evs_mono hg hu hk l (isG_parts h).2
    obtain ⟨m1, m2⟩ := mono_mem ih
    have gv := evs_g3 hg l (isG_parts h).2
    have gu := evs_g3 hu l (isG_parts h).2
    rw [ev] at hn ⊢
    rw [ev]
    by_cases e0 : o = 0
    · rw [if_pos e0, if_pos e0]
    rw [if_neg e0] at hn ⊢
    rw [if_neg e0]
    by_cases e1 : o = 1
    · rw [if_pos e1] at hn ⊢
      rw [if_pos e1]
      exact hk n hn
    rw [if_neg e1] at hn ⊢
    rw [if_neg e1]
    by_cases e2 : o = 2
    · rw [if_pos e2] at hn ⊢
      rw [if_pos e2]
      rw [andL_eq gv] at hn ⊢
      by_cases c : 0 ∈ evs vs l
      · rw [andL_eq gu, if_pos c, if_pos (m1 0 (by omega) c)]
      · rw [if_neg c] at hn
        by_cases c1 : 1 ∈ evs vs l
        · rw [if_pos c1] at hn; omega
        · rw [m2 fun x hx e => c1 (e ▸ hx), andL_eq gv]
    rw [if_neg e2] at hn ⊢
    rw [if_neg e2]
    by_cases e3 : o = 3
    · rw [if_pos e3] at hn ⊢
      rw [if_pos e3]
      rw [orL_eq gv] at hn ⊢
      by_cases c : 2 ∈ evs vs l
      · rw [orL_eq gu, if_pos c, if_pos (m1 2 (by omega) c)]
      · rw [if_neg c] at hn
        by_cases c1 : 1 ∈ evs vs l
        · rw [if_pos c1] at hn; omega
        · rw [m2 fun x hx e => c1 (e ▸ hx), orL_eq gv]
    rw [if_neg e3] at hn ⊢
    rw [if_neg e3]
    obtain rfl : o = 4 := by have := isG_op h; omega
    have h1 := isG_four h
    match l, h1 with
    | [a], _ =>
      simp only [evs, List.headD_cons] at hn ⊢
      have : ev vs a ≠ 1 := fun c => by rw [c] at hn; unfold notT at hn; simp at hn
      rw [ih a (by simp) this]
theorem evs_mono {vs us : List Int} (hg : goodL vs = true) (hu : goodL us = true) (hk : Kn vs us) : ∀ l : List Fm, areG l = true → ∀ a ∈ l, ev vs a ≠ 1 → ev us a = ev vs a
  | [], _, a, ha, _ => by cases ha
  | b :: l, h, a, ha, hn => by
    obtain ⟨h1, h2⟩ := areG_parts h
    rcases List.mem_cons.1 ha with e | e
    · rw [e] at hn ⊢; exact ev_mono hg hu hk b h1 hn
    · exact evs_mono hg hu hk l h2 a e hn
end
theorem isC_cons (v x : Int) : isC v (cons x) = (x == v) := by simp [isC, cons, Fm.op, Fm.va]
theorem spread_cons {op : Int} (hop : op ≠ 0) : ∀ (ps a : List Fm), (∀ p ∈ ps, p = cons 1) → (∀ x ∈ a, x = cons 1) → (∀ x ∈ ps.foldl (sprd op) a, x = cons 1) ∧ (a ≠ [] ∨ ps ≠ [] → ps.foldl (sprd op) a ≠ [])
  | [], a, _, ha => ⟨ha, fun h => h.elim id fun h => absurd rfl h⟩
  | p :: ps, a, hp, ha => by
    have e := hp p (by simp)
    have hs : sprd op a p = a ++ [cons 1] := by
      rw [e]
      unfold sprd
      rw [if_pos (by show (0 : Int) ≠ op; exact Ne.symm hop)]
      simp [ord, ord1, cons, Fm.op]
    rw [List.foldl_cons, hs]
    obtain ⟨i1, i2⟩ := spread_cons hop ps (a ++ [cons 1]) (fun q hq => hp q (by simp [hq])) fun x hx => by
      rcases List.mem_append.1 hx with h | h
      · exact ha x h
      · simpa using h
    exact ⟨i1, fun _ => i2 (.inl (by simp))⟩
theorem jnd_cons {op : Int} (hop : op ≠ 0) {ps : List Fm} (h : ∀ p ∈ ps, p = cons 1) (hn : ps ≠ []) : jnd op ps = cons 1 := by
  obtain ⟨h1, h2⟩ := spread_cons hop ps [] h (by simp)
  have h3 := h2 (.inr hn)
  unfold jnd
  have e1 : ps.any (fun p => p.op == op) = false := by
    rw [List.any_eq_false]
    intro p hp
    rw [h p hp]
    simp [cons, Fm.op]
    omega
  change (∀ x ∈ spread op ps, x = cons 1) at h1
  change spread op ps ≠ [] at h3
  obtain ⟨x, l, hx⟩ : ∃ x l, spread op ps = x :: l := by
    cases e : spread op ps with
    | nil => exact absurd e h3
    | cons x l => exact ⟨x, l, rfl⟩
  rw [hx] at h1 ⊢
  have e2 : dif (x :: l) = false := by
    unfold dif
    rw [List.any_eq_false]
    intro a ha
    have q1 := h1 a (by simp at ha; simp [ha])
    have q2 := h1 x (by simp)
    rw [List.headD_cons, q1, q2]
    decide
  rw [e1, e2]
  simpa using h1 x (by simp)
theorem rst_cons {op id : Int} (hop : op ≠ 0) : ∀ {ps : List Fm}, (∀ p ∈ ps, p = cons 1) → ps ≠ [] → rst op id ps = cons 1
  | [], _, h => absurd rfl h
  | [p], h, _ => by rw [rst]; exact h p (by simp)
  | p :: q :: l, h, _ => by rw [rst]; exact jnd_cons hop h (by simp)
/-- of constants, of makes a constant -/
theorem ofM_cons {op id st : Int} (hop : op ≠ 0) (h1 : id ≠ 1) (h2 : st ≠ 1) (h3 : id ≠ st) {E : List Int} (h : ∀ x ∈ E, x = id ∨ x = 1 ∨ x = st) : ofM op id st (E.map cons) = cons (if st ∈ E then st else if 1 ∈ E then 1 else id) := by
  by_cases c : st ∈ E
  · have hany : (E.map cons).any (isC st) = true := List.any_eq_true.2 ⟨cons st, List.mem_map.2 ⟨st, c, rfl⟩, by rw [isC_cons]; simp⟩
    unfold ofM
    rw [if_pos hany, if_pos c]
    obtain ⟨q, hq⟩ : ∃ q, (E.map cons).find? (isC st) = some q := by
      cases e : (E.map cons).find? (isC st) with
      | some q => exact ⟨q, rfl⟩
      | none =>
        have := List.find?_eq_none.1 e (cons st) (List.mem_map.2 ⟨st, c, rfl⟩)
        rw [isC_cons] at this
        exact absurd (by simp) this
    rw [hq]
    have h1 := List.find?_some hq
    obtain ⟨x, _, rfl⟩ := List.mem_map.1 (List.mem_of_find?_eq_some hq)
    rw [isC_cons] at h1
    have : x = st := by simpa using h1
    rw [this]
    rfl
  · have hany : (E.map cons).any (isC st) = false := by
      rw [List.any_eq_false]
      intro p hp
      obtain ⟨x, hx, rfl⟩ := List.mem_map.1 hp
      rw [isC_cons]
      simp
      exact fun e => c (e ▸ hx)
    rw [if_neg c]
    unfold ofM
    rw [hany]
    have hl : ∀ p ∈ lft id (E.map cons), p = cons 1 := fun p hp => by
      unfold lft at hp
      rw [List.mem_filter] at hp
      obtain ⟨x, hx, rfl⟩ := List.mem_map.1 hp.1
      have hne := hp.2
      rw [isC_cons] at hne
      simp at hne
      rcases h x hx with e | e | e
      · exact absurd e hne
      · rw [e]
      · exact absurd (e ▸ hx) c
    by_cases c1 : 1 ∈ E
    · rw [if_pos c1]
      exact rst_cons hop hl (List.ne_nil_of_mem (a := cons 1) (by
        unfold lft
        rw [List.mem_filter]
        refine ⟨List.mem_map.2 ⟨1, c1, rfl⟩, ?_⟩
        rw [isC_cons]
        simp
        omega))
    · rw [if_neg c1]
      have : lft id (E.map cons) = [] := by
        unfold lft
        rw [List.filter_eq_nil_iff]
        intro p hp
        obtain ⟨x, hx, rfl⟩ := List.mem_map.1 hp
        rw [isC_cons]
        rcases h x hx with e | e | e
        · simp [e]
        · exact absurd (e ▸ hx) c1
        · exact absurd (e ▸ hx) c
      rw [this]
      rfl
mutual
/-- with all of its variables known, loose makes a constant -/
theorem lse_cons {vs : List Int} (hg : goodL vs = true) : ∀ f : Fm, isG f = true → (∀ q ∈ gat f, valL vs q ≠ 1) → lse vs f = cons (ev vs f)
  | .mk o v n l, h, hk => by
    have gl := (isG_parts h).2
    have gv := evs_g3 hg l gl
    rw [gat] at hk
    rw [lse, ev]
    by_cases e0 : o = 0
    · rw [if_pos e0, if_pos e0]
    rw [if_neg e0, if_neg e0]
    by_cases e1 : o = 1
    · rw [if_pos e1, if_pos e1]
      rw [if_pos e1] at hk
      unfold varF
      rw [if_neg (hk n (by simp))]
    rw [if_neg e1, if_neg e1]
    rw [if_neg e1] at hk
    have hl := lses_cons hg l gl hk
    rw [hl]
    by_cases e2 : o = 2
    · rw [if_neg (by omega), if_pos e2, if_pos e2, andL_eq gv]
      exact ofM_cons (by decide) (by decide) (by decide) (by decide) fun x hx => by rcases gv x hx with e | e | e <;> simp [e]
    by_cases e3 : o = 3
    · rw [if_neg (by omega), if_neg e2, if_neg e2, if_pos e3, orL_eq gv]
      exact ofM_cons (by decide) (by decide) (by decide) (by decide) fun x hx => by rcases gv x hx with e | e | e <;> simp [e]
    obtain rfl : o = 4 := by have := isG_op h; omega
    rw [if_pos rfl, if_neg e2, if_neg e3]
    have h1 := isG_four h
    match l, h1 with
    | [a], _ =>
      simp only [evs, List.map_cons, List.map_nil, List.headD_cons]
      simp [den, cons, Fm.op, Fm.va]
theorem lses_cons {vs : List Int} (hg : goodL vs = true) : ∀ l : List Fm, areG l = true → (∀ q ∈ gats l, valL vs q ≠ 1) → lses vs l = (evs vs l).map cons
  | [], _, _ => by simp [lses, evs]
  | a :: l, h, hk => by
    obtain ⟨h1, h2⟩ := areG_parts h
    rw [gats] at hk
    rw [lses, evs, lse_cons hg a h1 (fun q hq => hk q (List.mem_append_left _ hq)), lses_cons hg l h2 fun q hq => hk q (List.mem_append_right _ hq)]
    rfl
end
theorem ord_cons (v : Int) : ord (cons v) = cons v := by simp [ord, ord1, cons, Fm.op]
end Kl
end Go.Proofs.Ytmpmlccomgepjaa
