/-
  MATHEMATICS: what the document's Simplify says, and that it is the loose form put in order.
-/
import Derived.Test.YtipnhfnjoaoceaaKlEvM
namespace Go.Proofs.Ytipnhfnjoaoceaa
open Go.RowKit Go.Lib Go.Sort
namespace Kl
/-- an argument's parts -/
def flt (op : Int) (r : Fm) : List Fm := if r.op = op then r.ar else [r]
def fin1 (op id : Int) : List Fm → Fm
  | [] => cons id
  | [x] => x
  | x :: y :: l => .mk op 0 0 (x :: y :: l)
/-- what joined makes of simplified arguments -/
def jnM (op id st : Int) (rs : List Fm) : Fm := if (rs.flatMap (flt op)).any (isC st) then cons st else fin1 op id (sr (lft id (rs.flatMap (flt op))))
mutual
/-- the document's simple formula -/
def rs (vs : List Int) : Fm → Fm
  | .mk o v n l => if o = 0 then cons v else if o = 1 then varF n (valL vs n) else if o = 4 then den ((rss vs l).headD default) else if o = 2 then jnM 2 2 0 (rss vs l) else jnM 3 0 2 (rss vs l)
def rss (vs : List Int) : List Fm → List Fm
  | [] => []
  | a :: l => rs vs a :: rss vs l
end
theorem rss_map (vs : List Int) : ∀ l : List Fm, rss vs l = l.map (rs vs)
  | [] => by simp [rss]
  | a :: l => by simp [rss, rss_map vs l]
theorem dif_iff (A : List Fm) : dif A = true ↔ ∃ x, x ∈ A ∧ ∃ y, y ∈ A ∧ x ≠ y := by
  unfold dif
  rw [List.any_eq_true]
  constructor
  · rintro ⟨a, ha, h⟩
    have h := of_decide_eq_true h
    cases A with
    | nil => simp at ha
    | cons b l =>
      simp only [List.tail_cons, List.headD_cons] at ha h
      exact ⟨a, List.mem_cons_of_mem _ ha, b, by simp, fun e => h (by rw [e]; exact cmpF_self b)⟩
  · rintro ⟨x, hx, y, hy, hne⟩
    cases A with
    | nil => cases hx
    | cons b l =>
      simp only [List.tail_cons, List.headD_cons]
      by_cases c : x = b
      · have hyl : y ∈ l := by
          rcases List.mem_cons.1 hy with e | e
          · exact absurd (c.trans e.symm) hne
          · exact e
        exact ⟨y, hyl, decide_eq_true fun e => hne (c.trans (cmpF_eq e).symm)⟩
      · have hxl : x ∈ l := by
          rcases List.mem_cons.1 hx with e | e
          · exact absurd e c
          · exact e
        exact ⟨x, hxl, decide_eq_true fun e => c (cmpF_eq e)⟩
theorem sr_idem {l : List Fm} (h : Rise l) : sr l = l := (sr_only h fun _ => Iff.rfl).symm
theorem sr_one (x : Fm) : sr [x] = [x] := sr_idem (List.pairwise_singleton _ _)
theorem sr_same {l m : List Fm} (h : ∀ x, x ∈ l ↔ x ∈ m) : sr l = sr m := sr_only (sr_rise l) fun x => (sr_mem l x).trans (h x)
theorem fin1_two {op id : Int} {l : List Fm} {x y : Fm} (hx : x ∈ l) (hy : y ∈ l) (hne : x ≠ y) : fin1 op id l = .mk op 0 0 l := by
  match l, hx, hy with
  | [z], hx, hy => simp at hx hy; exact absurd (hx.trans hy.symm) hne
  | _ :: _ :: _, _, _ => rfl
theorem list_one {l : List Fm} {x : Fm} (h : Rise l) (ha : ∀ y ∈ l, y = x) (hn : l ≠ []) : l = [x] := by
  match l, hn with
  | [y], _ => rw [ha y (by simp)]
  | y :: z :: m, _ =>
    have h1 := ha y (by simp)
    have h2 := ha z (by simp)
    have := (List.pairwise_cons.1 h).1 z (by simp)
    rw [h1, h2, cmpF_self] at this
    omega
/-- none of them is of this kind, or known -/
def Els (op : Int) (l : List Fm) : Prop := ∀ x ∈ l, x.op ≠ op ∧ isC 0 x = false ∧ isC 2 x = false
def Lz1 (p : Fm) : Prop := (p.op = 2 ∨ p.op = 3) → p.va = 0 ∧ p.vr = 0 ∧ dif p.ar = true ∧ Els p.op p.ar
/-- a loose formula -/
structure Lz (p : Fm) : Prop where
  nt : p.op = 4 → ∃ x, p = .mk 4 0 0 [x] ∧ x.op ≠ 0 ∧ x.op ≠ 4 ∧ Lz1 x
  jn : Lz1 p
  lf : p.op = 0 → p = cons p.va
theorem ord1_op (p : Fm) : (ord1 p).op = p.op := by unfold ord1; split <;> rfl
theorem ord_op (p : Fm) : (ord p).op = p.op := by unfold ord; split <;> first | rfl | exact ord1_op p
theorem ord1_va (p : Fm) : (ord1 p).va = p.va := by unfold ord1; split <;> rfl
theorem ord_va (p : Fm) : (ord p).va = p.va := by unfold ord; split <;> first | rfl | exact ord1_va p
theorem ord_isC (v : Int) (p : Fm) : isC v (ord p) = isC v p := by unfold isC; rw [ord_op, ord_va]
theorem ord_of {p : Fm} (h : p.op ≠ 4) : ord p = ord1 p := by unfold ord; rw [if_neg h]
theorem ord1_jn {p : Fm} (h : p.op = 2 ∨ p.op = 3) : ord1 p = .mk p.op p.va p.vr (sr p.ar) := by unfold ord1; rw [if_pos h]
theorem ord1_no {p : Fm} (h : ¬ (p.op = 2 ∨ p.op = 3)) : ord1 p = p := by unfold ord1; rw [if_neg h]
theorem ord1_idem (p : Fm) : ord1 (ord1 p) = ord1 p := by
  by_cases h : p.op = 2 ∨ p.op = 3
  · rw [ord1_jn h, ord1_jn (show (Fm.mk p.op p.va p.vr (sr p.ar)).op = 2 ∨ _ from h)]
    simp only [Fm.op, Fm.va, Fm.vr, Fm.ar]
    rw [sr_idem (sr_rise _)]
  · rw [ord1_no h, ord1_no h]
theorem ord_idem (p : Fm) : ord (ord p) = ord p := by
  by_cases h : p.op = 4
  · unfold ord
    rw [if_pos h]
    rw [if_pos (show (Fm.mk p.op p.va p.vr (p.ar.map ord1)).op = 4 from h)]
    simp only [Fm.op, Fm.va, Fm.vr, Fm.ar, List.map_map]
    congr 1
    apply List.map_congr_left
    intro a _
    exact ord1_idem a
  · rw [ord_of h, ord_of (by rw [ord1_op]; exact h), ord1_idem]
theorem lz1_ord1 {p : Fm} (h : Lz1 p) : Lz1 (ord1 p) := by
  intro ho
  rw [ord1_op] at ho
  obtain ⟨h1, h2, h3, h4⟩ := h ho
  rw [ord1_jn ho]
  refine ⟨h1, h2, (dif_iff _).2 ?_, fun x hx => h4 x ((sr_mem _ _).1 hx)⟩
  obtain ⟨x, hx, y, hy, hne⟩ := (dif_iff _).1 h3
  exact ⟨x, (sr_mem _ _).2 hx, y, (sr_mem _ _).2 hy, hne⟩
theorem Lz.ord {p : Fm} (h : Lz p) : Lz (ord p) := by
  by_cases c : p.op = 4
  · obtain ⟨x, rfl, h1, h2, h3⟩ := h.nt c
    have e : Kl.ord (.mk 4 0 0 [x]) = .mk 4 0 0 [ord1 x] := by unfold Kl.ord; rw [if_pos c]; rfl
    rw [e]
    exact ⟨fun _ => ⟨_, rfl, by rw [ord1_op]; exact h1, by rw [ord1_op]; exact h2, lz1_ord1 h3⟩, fun ho => by rcases ho with ho | ho <;> exact absurd ho (by show (4 : Int) ≠ _; decide), fun ho => absurd ho (by show (4 : Int) ≠ 0; decide)⟩
  · rw [ord_of c]
    refine ⟨fun ho => absurd (by rw [ord1_op] at ho; exact ho) c, lz1_ord1 h.jn, fun ho => ?_⟩
    rw [ord1_op] at ho
    have := h.lf ho
    rw [ord1_no (by omega)]
    exact this
theorem lz_cons (v : Int) : Lz (cons v) := ⟨fun h => absurd h (by show (0 : Int) ≠ 4; decide), fun h => by rcases h with h | h <;> exact absurd h (by show (0 : Int) ≠ _; decide), fun _ => rfl⟩
theorem lz_var (n t : Int) : Lz (varF n t) := by
  unfold varF
  split
  · exact ⟨fun h => absurd h (by show (1 : Int) ≠ 4; decide), fun h => by rcases h with h | h <;> exact absurd h (by show (1 : Int) ≠ _; decide), fun h => absurd h (by show (1 : Int) ≠ 0; decide)⟩
  · exact lz_cons t
theorem ord_var (n t : Int) : ord (varF n t) = varF n t := by
  unfold varF
  split
  · simp [ord, ord1, Fm.op]
  · exact ord_cons t
theorem den_ord {p : Fm} (h : Lz p) : ord (den p) = den (ord p) ∧ Lz (den p) := by
  by_cases c0 : p.op = 0
  · have e : den p = cons (notT p.va) := by unfold den; rw [if_pos c0]
    have e2 : den (ord p) = cons (notT p.va) := by unfold den; rw [ord_op, if_pos c0, ord_va]
    rw [e, e2]
    exact ⟨ord_cons _, lz_cons _⟩
  by_cases c4 : p.op = 4
  · obtain ⟨x, rfl, h1, h2, h3⟩ := h.nt c4
    have e : Kl.ord (.mk 4 0 0 [x]) = .mk 4 0 0 [ord1 x] := by unfold Kl.ord; rw [if_pos c4]; rfl
    have d : ∀ y : Fm, den (.mk 4 0 0 [y]) = y := fun y => by unfold den; rfl
    rw [e, d, d]
    exact ⟨ord_of h2, fun h => absurd h h2, h3, fun h => absurd h h1⟩
  · have e : den p = .mk 4 0 0 [p] := by unfold den; rw [if_neg c0, if_neg c4]
    have e2 : den (ord p) = .mk 4 0 0 [ord p] := by unfold den; rw [ord_op, if_neg c0, if_neg c4]
    rw [e, e2, ord_of c4]
    refine ⟨by unfold Kl.ord; rw [if_pos (show (Fm.mk 4 0 0 [p]).op = 4 from rfl)]; rfl, fun _ => ⟨p, rfl, c0, c4, h.jn⟩, fun h => by rcases h with h | h <;> exact absurd h (by show (4 : Int) ≠ _; decide), fun h => absurd h (by show (4 : Int) ≠ 0; decide)⟩
/-- what spread puts together -/
theorem spread_mem (op : Int) (ps : List Fm) (x : Fm) : x ∈ spread op ps ↔ ∃ p ∈ ps, x ∈ (if p.op ≠ op then [ord p] else p.ar) := by
  have : ∀ a : List Fm, x ∈ ps.foldl (sprd op) a ↔ x ∈ a ∨ ∃ p ∈ ps, x ∈ (if p.op ≠ op then [ord p] else p.ar) := by
    induction ps with
    | nil => intro a; simp
    | cons p ps ih =>
      intro a
      rw [List.foldl_cons, ih]
      have hs : x ∈ sprd op a p ↔ x ∈ a ∨ x ∈ (if p.op ≠ op then [ord p] else p.ar) := by
        unfold sprd
        by_cases c : p.op ≠ op
        · rw [if_pos c, if_pos c, List.mem_append]
        · rw [if_neg c, if_neg c]
          split
          · rw [List.mem_append]; exact Or.comm
          · rw [List.mem_append]
      rw [hs]
      constructor
      · rintro ((h | h) | ⟨q, hq, h⟩)
        · exact .inl h
        · exact .inr ⟨p, by simp, h⟩
        · exact .inr ⟨q, by simp [hq], h⟩
      · rintro (h | ⟨q, hq, h⟩)
        · exact .inl (.inl h)
        · rcases List.mem_cons.1 hq with e | e
          · subst e; exact .inl (.inr h)
          · exact .inr ⟨q, e, h⟩
  have h := this []
  simpa [spread] using h
theorem flt_mem {op : Int} (ho : op = 2 ∨ op = 3) (p x : Fm) : x ∈ flt op (ord p) ↔ x ∈ (if p.op ≠ op then [ord p] else p.ar) := by
  unfold flt
  rw [ord_op]
  by_cases c : p.op = op
  · rw [if_pos c, if_neg (by simpa using c), ord_of (by omega), ord1_jn (by omega)]
    exact sr_mem _ _
  · rw [if_neg c, if_pos c]
theorem flat_mem {op : Int} (ho : op = 2 ∨ op = 3) (ps : List Fm) (x : Fm) : x ∈ (ps.map ord).flatMap (flt op) ↔ x ∈ spread op ps := by
  rw [spread_mem, List.mem_flatMap]
  constructor
  · rintro ⟨r, hr, hx⟩
    obtain ⟨p, hp, rfl⟩ := List.mem_map.1 hr
    exact ⟨p, hp, (flt_mem ho p x).1 hx⟩
  · rintro ⟨p, hp, hx⟩
    exact ⟨_, List.mem_map.2 ⟨p, hp, rfl⟩, (flt_mem ho p x).2 hx⟩
theorem els_isC {op id st : Int} (hk : (op = 2 ∧ id = 2 ∧ st = 0) ∨ (op = 3 ∧ id = 0 ∧ st = 2)) {v : Int} (hv : v = id ∨ v = st) {l : List Fm} (h : Els op l) : ∀ x ∈ l, isC v x = false := fun x hx => by
  obtain ⟨_, h1, h2⟩ := h x hx
  rcases hk with ⟨_, rfl, rfl⟩ | ⟨_, rfl, rfl⟩ <;> rcases hv with rfl | rfl <;> assumption
theorem isC_op {v : Int} {p : Fm} (h : p.op ≠ 0) : isC v p = false := by unfold isC; simp [h]
/-- of loose parts, of's answer in order is joined's of the parts in order -/
theorem ofM_ord {op id st : Int} (hk : (op = 2 ∧ id = 2 ∧ st = 0) ∨ (op = 3 ∧ id = 0 ∧ st = 2)) {ps : List Fm} (hp : ∀ p ∈ ps, Lz p) : ord (ofM op id st ps) = jnM op id st (ps.map ord) ∧ Lz (ofM op id st ps) := by
  have ho : op = 2 ∨ op = 3 := by rcases hk with ⟨h, _⟩ | ⟨h, _⟩ <;> simp [h]
  -- one part
  have part : ∀ p ∈ ps, ∀ v, (v = id ∨ v = st) → ∀ x ∈ flt op (ord p), isC v x = isC v p := fun p hpp v hv x hx => by
    rw [flt_mem ho] at hx
    by_cases c : p.op = op
    · rw [if_neg (by simpa using c)] at hx
      have hj := ((hp p hpp).jn (by omega)).2.2.2
      rw [c] at hj
      rw [els_isC hk hv hj x hx, isC_op (by omega)]
    · rw [if_pos c] at hx
      simp at hx
      rw [hx, ord_isC]
  have ne : ∀ p ∈ ps, flt op (ord p) ≠ [] := fun p hpp => by
    unfold flt
    rw [ord_op]
    by_cases c : p.op = op
    · rw [if_pos c, ord_of (by omega), ord1_jn (by omega)]
      have hj := ((hp p hpp).jn (by omega)).2.2.1
      obtain ⟨x, hx, _⟩ := (dif_iff _).1 hj
      exact List.ne_nil_of_mem ((sr_mem _ _).2 hx)
    · rw [if_neg c]; simp
  have any_eq : ((ps.map ord).flatMap (flt op)).any (isC st) = ps.any (isC st) := by
    rw [Bool.eq_iff_iff, List.any_eq_true, List.any_eq_true]
    constructor
    · rintro ⟨x, hx, hc⟩
      obtain ⟨r, hr, hx⟩ := List.mem_flatMap.1 hx
      obtain ⟨p, hpp, rfl⟩ := List.mem_map.1 hr
      exact ⟨p, hpp, by rw [← part p hpp st (.inr rfl) x hx]; exact hc⟩
    · rintro ⟨p, hpp, hc⟩
      obtain ⟨x, l, e⟩ : ∃ x l, flt op (ord p) = x :: l := by
        cases e : flt op (ord p) with
        | nil => exact absurd e (ne p hpp)
        | cons x l => exact ⟨x, l, rfl⟩
      have hx : x ∈ flt op (ord p) := by rw [e]; simp
      exact ⟨x, List.mem_flatMap.2 ⟨_, List.mem_map.2 ⟨p, hpp, rfl⟩, hx⟩, by rw [part p hpp st (.inr rfl) x hx]; exact hc⟩
  unfold jnM ofM
  rw [any_eq]
  by_cases ca : ps.any (isC st) = true
  · rw [if_pos ca, if_pos ca]
    obtain ⟨p, hpp, hc⟩ := List.any_eq_true.1 ca
    obtain ⟨q, hq⟩ : ∃ q, ps.find? (isC st) = some q := by
      cases e : ps.find? (isC st) with
      | none => exact absurd hc (by simpa using List.find?_eq_none.1 e p hpp)
      | some q => exact ⟨q, rfl⟩
    have h1 := List.find?_some hq
    have h2 := List.mem_of_find?_eq_some hq
    rw [hq]
    unfold isC at h1
    simp at h1
    have h3 := (hp q h2).lf h1.1
    rw [h1.2] at h3
    rw [Option.getD_some, h3]
    exact ⟨ord_cons st, lz_cons st⟩
  · rw [if_neg ca, if_neg ca]
    have lf_eq : ∀ qs : List Fm, (∀ p ∈ qs, p ∈ ps) → lft id ((qs.map ord).flatMap (flt op)) = ((lft id qs).map ord).flatMap (flt op) := by
      intro qs
      induction qs with
      | nil => intro _; rfl
      | cons q qs ih =>
        intro hq
        have ih := ih fun p h => hq p (by simp [h])
        have hqp := part q (hq q (by simp)) id (.inl rfl)
        unfold lft at ih ⊢
        rw [List.map_cons, List.flatMap_cons, List.filter_append, ih, List.filter_cons]
        by_cases c : isC id q = true
        · rw [if_neg (by simp [c])]
          rw [show List.filter (fun p => !isC id p) (flt op (ord q)) = [] from by
            rw [List.filter_eq_nil_iff]
            intro x hx
            rw [hqp x hx, c]
            simp]
          rfl
        · rw [if_pos (by simpa using c), List.map_cons, List.flatMap_cons]
          rw [show List.filter (fun p => !isC id p) (flt op (ord q)) = flt op (ord q) from by
            rw [List.filter_eq_self]
            intro x hx
            rw [hqp x hx]
            simpa using c]
    rw [lf_eq ps fun p h => h]
    have hq : ∀ p ∈ lft id ps, p ∈ ps ∧ isC id p = false ∧ isC st p = false := fun p h => by
      unfold lft at h
      rw [List.mem_filter] at h
      refine ⟨h.1, by simpa using h.2, ?_⟩
      have ca : ps.any (isC st) = false := by simpa using ca
      have := List.any_eq_false.1 ca p h.1
      simpa using this
    generalize lft id ps = qs at hq
    have hz : ∀ p ∈ qs, Lz p := fun p h => hp p (hq p h).1
    match qs, hq, hz with
    | [], _, _ => exact ⟨ord_cons id, lz_cons id⟩
    | [p], hq, hz =>
      have hl := hz p (by simp)
      refine ⟨?_, hl⟩
      show ord p = fin1 op id (sr (flt op (ord p) ++ []))
      rw [List.append_nil]
      by_cases c : p.op = op
      · have hj := hl.jn (by omega)
        have e : ord p = .mk op 0 0 (sr p.ar) := by rw [ord_of (by omega), ord1_jn (by omega), c, hj.1, hj.2.1]
        obtain ⟨x, hx, y, hy, hne⟩ := (dif_iff _).1 hj.2.2.1
        rw [e]
        unfold flt
        rw [if_pos (show (Fm.mk op 0 0 (sr p.ar)).op = op from rfl)]
        show _ = fin1 op id (sr (sr p.ar))
        rw [sr_idem (sr_rise _), fin1_two ((sr_mem _ _).2 hx) ((sr_mem _ _).2 hy) hne]
      · have : flt op (ord p) = [ord p] := by unfold flt; rw [ord_op, if_neg c]
        rw [this, sr_one]
        rfl
    | p :: q :: l, hq, hz =>
      obtain ⟨qs, hqs⟩ : ∃ qs, p :: q :: l = qs := ⟨_, rfl⟩
      have hne : qs ≠ [] := by rw [← hqs]; simp
      show ord (jnd op (p :: q :: l)) = _ ∧ Lz (jnd op (p :: q :: l))
      rw [hqs] at hq hz ⊢
      have hsr : sr ((qs.map ord).flatMap (flt op)) = sr (spread op qs) := sr_same (flat_mem ho qs)
      rw [hsr]
      have hels : Els op (spread op qs) := fun x hx => by
        obtain ⟨p, hpp, hx⟩ := (spread_mem op qs x).1 hx
        by_cases c : p.op = op
        · rw [if_neg (by simpa using c)] at hx
          have hj := ((hz p hpp).jn (by omega)).2.2.2 x hx
          rw [c] at hj
          exact hj
        · rw [if_pos c] at hx
          simp at hx
          obtain ⟨_, h1, h2⟩ := hq p hpp
          rw [hx, ord_op, ord_isC, ord_isC]
          refine ⟨c, ?_, ?_⟩
          · rcases hk with ⟨_, rfl, rfl⟩ | ⟨_, rfl, rfl⟩ <;> assumption
          · rcases hk with ⟨_, rfl, rfl⟩ | ⟨_, rfl, rfl⟩ <;> assumption
      by_cases cd : dif (spread op qs) = true
      · have e : jnd op qs = .mk op 0 0 (spread op qs) := by unfold jnd; rw [cd, Bool.or_true, if_pos rfl]
        rw [e]
        have hz1 : Lz1 (.mk op 0 0 (spread op qs)) := fun _ => ⟨rfl, rfl, cd, hels⟩
        obtain ⟨x, hx, y, hy, hxy⟩ := (dif_iff _).1 cd
        refine ⟨?_, fun h => absurd h (by show op ≠ 4; omega), hz1, fun h => absurd h (by show op ≠ 0; omega)⟩
        rw [ord_of (show (Fm.mk op 0 0 (spread op qs)).op ≠ 4 from fun (h : op = 4) => by omega), ord1_jn (show (Fm.mk op 0 0 (spread op qs)).op = 2 ∨ (Fm.mk op 0 0 (spread op qs)).op = 3 from ho), fin1_two ((sr_mem _ _).2 hx) ((sr_mem _ _).2 hy) hxy]
        rfl
      · have cany : qs.any (fun p => p.op == op) = false := by
          rw [List.any_eq_false]
          intro p hpp hc
          have hc : p.op = op := by simpa using hc
          have hj := ((hz p hpp).jn (by omega)).2.2.1
          obtain ⟨x, hx, y, hy, hxy⟩ := (dif_iff _).1 hj
          exact cd ((dif_iff _).2 ⟨x, (spread_mem op qs x).2 ⟨p, hpp, by rw [if_neg (by simpa using hc)]; exact hx⟩, y, (spread_mem op qs y).2 ⟨p, hpp, by rw [if_neg (by simpa using hc)]; exact hy⟩, hxy⟩)
        have cd' : dif (spread op qs) = false := by simpa using cd
        have e : jnd op qs = (spread op qs).headD default := by unfold jnd; rw [cany, cd']; rfl
        obtain ⟨p0, hp0⟩ := List.exists_mem_of_ne_nil qs hne
        have hp1 : p0.op ≠ op := fun c => by have := List.any_eq_false.1 cany p0 hp0; simp [c] at this
        have hin : ord p0 ∈ spread op qs := (spread_mem op qs _).2 ⟨p0, hp0, by rw [if_pos hp1]; simp⟩
        have hall : ∀ y ∈ spread op qs, y = ord p0 := fun y hy => Classical.byContradiction fun h => cd ((dif_iff _).2 ⟨y, hy, ord p0, hin, h⟩)
        have hh : (spread op qs).headD default = ord p0 := by
          cases e2 : spread op qs with
          | nil => rw [e2] at hin; cases hin
          | cons y m => rw [List.headD_cons]; exact hall y (by rw [e2]; simp)
        rw [e, hh, ord_idem]
        refine ⟨?_, (hz p0 hp0).ord⟩
        have : sr (spread op qs) = [ord p0] := list_one (sr_rise _) (fun y hy => hall y ((sr_mem _ _).1 hy)) (List.ne_nil_of_mem ((sr_mem _ _).2 hin))
        rw [this]
        rfl
mutual
theorem lse_rs (vs : List Int) : ∀ f : Fm, isG f = true → ord (lse vs f) = rs vs f ∧ Lz (lse vs f)
  | .mk o v n l, h => by
    have hl := lses_rs vs l (isG_parts h).2
    rw [lse, rs]
    by_cases e0 : o = 0
    · rw [if_pos e0, if_pos e0]; exact ⟨ord_cons v, lz_cons v⟩
    rw [if_neg e0, if_neg e0]
    by_cases e1 : o = 1
    · rw [if_pos e1, if_pos e1]; exact ⟨ord_var _ _, lz_var _ _⟩
    rw [if_neg e1, if_neg e1]
    by_cases e4 : o = 4
    · rw [if_pos e4, if_pos e4]
      subst e4
      have h1 := isG_four h
      match l, h1, hl with
      | [a], _, hl =>
        simp only [lses, rss, List.headD_cons]
        have h2 := hl.2 (lse vs a) (by simp [lses])
        have h3 : ord (lse vs a) = rs vs a := by have := hl.1; simp only [lses, rss, List.map_cons, List.map_nil, List.cons.injEq, and_true] at this; exact this
        rw [← h3]
        exact den_ord h2
    rw [if_neg e4, if_neg e4]
    by_cases e2 : o = 2
    · rw [if_pos e2, if_pos e2, ← hl.1]
      exact ofM_ord (.inl ⟨rfl, rfl, rfl⟩) hl.2
    · rw [if_neg e2, if_neg e2, ← hl.1]
      exact ofM_ord (.inr ⟨rfl, rfl, rfl⟩) hl.2
theorem lses_rs (vs : List Int) : ∀ l : List Fm, areG l = true → (lses vs l).map ord = rss vs l ∧ ∀ p ∈ lses vs l, Lz p
  | [], _ => by simp [lses, rss]
  | a :: l, h => by
    obtain ⟨h1, h2⟩ := areG_parts h
    obtain ⟨a1, a2⟩ := lse_rs vs a h1
    obtain ⟨l1, l2⟩ := lses_rs vs l h2
    rw [lses, rss, List.map_cons, a1, l1]
    refine ⟨rfl, fun p hp => ?_⟩
    rcases List.mem_cons.1 hp with e | e
    · rw [e]; exact a2
    · exact l2 p e
end
end Kl
end Go.Proofs.Ytipnhfnjoaoceaa
