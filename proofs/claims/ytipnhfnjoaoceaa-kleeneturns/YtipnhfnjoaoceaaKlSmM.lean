/-
  MATHEMATICS of simple formulas: once is enough; the value with what is known later; variables; grouping.
-/
import Derived.Test.YtipnhfnjoaoceaaKlRsM
import Derived.Test.YtipnhfnjoaoceaaKlMrg
namespace Go.Proofs.Ytipnhfnjoaoceaa
open Go.RowKit Go.Lib Go.Sort
namespace Kl
/-- a simple formula -/
inductive Sm : Fm → Prop
  | con (v : Int) : Sm (cons v)
  | var (n : Int) : Sm (.mk 1 0 n [])
  | jn (op : Int) (l : List Fm) : (op = 2 ∨ op = 3) → Rise l → dif l = true → Els op l → (∀ x, x ∈ l → Sm x) → Sm (.mk op 0 0 l)
  | nt (x : Fm) : Sm x → x.op ≠ 0 → x.op ≠ 4 → Sm (.mk 4 0 0 [x])
theorem Sm.inv {r : Fm} (h : Sm r) (ho : r.op = 2 ∨ r.op = 3) : r = .mk r.op 0 0 r.ar ∧ Rise r.ar ∧ dif r.ar = true ∧ Els r.op r.ar ∧ ∀ x ∈ r.ar, Sm x := by
  cases h with
  | con v => rcases ho with h | h <;> exact absurd h (by show (0 : Int) ≠ _; decide)
  | var n => rcases ho with h | h <;> exact absurd h (by show (1 : Int) ≠ _; decide)
  | jn op l h1 h2 h3 h4 h5 => exact ⟨rfl, h2, h3, h4, h5⟩
  | nt x h1 h2 h3 => rcases ho with h | h <;> exact absurd h (by show (4 : Int) ≠ _; decide)
theorem Sm.inv4 {r : Fm} (h : Sm r) (ho : r.op = 4) : ∃ x, r = .mk 4 0 0 [x] ∧ Sm x ∧ x.op ≠ 0 ∧ x.op ≠ 4 := by
  cases h with
  | con v => exact absurd ho (by show (0 : Int) ≠ _; decide)
  | var n => exact absurd ho (by show (1 : Int) ≠ _; decide)
  | jn op l h1 h2 h3 h4 h5 => exact absurd ho (fun (h : op = 4) => by omega)
  | nt x h1 h2 h3 => exact ⟨x, rfl, h1, h2, h3⟩
theorem Sm.inv0 {r : Fm} (h : Sm r) (ho : r.op = 0) : r = cons r.va := by
  cases h with
  | con v => rfl
  | var n => exact absurd ho (by show (1 : Int) ≠ _; decide)
  | jn op l h1 h2 h3 h4 h5 => exact absurd ho (fun (h : op = 0) => by omega)
  | nt x h1 h2 h3 => exact absurd ho (by show (4 : Int) ≠ _; decide)
theorem flt_sm {op : Int} (ho : op = 2 ∨ op = 3) {r : Fm} (h : Sm r) : ∀ x ∈ flt op r, x.op ≠ op ∧ Sm x := fun x hx => by
  unfold flt at hx
  by_cases c : r.op = op
  · rw [if_pos c] at hx
    obtain ⟨_, _, _, h4, h5⟩ := h.inv (by omega)
    have := (h4 x hx).1
    rw [c] at this
    exact ⟨this, h5 x hx⟩
  · rw [if_neg c] at hx
    simp at hx
    subst hx
    exact ⟨c, h⟩
theorem rise_dif {x y : Fm} {l : List Fm} (h : Rise (x :: y :: l)) : dif (x :: y :: l) = true := (dif_iff _).2 ⟨x, by simp, y, by simp, fun e => by
  have := (List.pairwise_cons.1 h).1 y (by simp)
  rw [e, cmpF_self] at this
  omega⟩
theorem fin1_sm {op id : Int} (ho : op = 2 ∨ op = 3) {L : List Fm} (h1 : Rise L) (h2 : Els op L) (h3 : ∀ x ∈ L, Sm x) : Sm (fin1 op id L) := by
  match L, h1, h2, h3 with
  | [], _, _, _ => exact .con id
  | [x], _, _, h3 => exact h3 x (by simp)
  | x :: y :: l, h1, h2, h3 => exact .jn op _ ho h1 (rise_dif h1) h2 h3
/-- what is left of simple arguments -/
theorem left_of {op id st : Int} (hk : (op = 2 ∧ id = 2 ∧ st = 0) ∨ (op = 3 ∧ id = 0 ∧ st = 2)) {R : List Fm} (h : ∀ r ∈ R, Sm r) (hn : (R.flatMap (flt op)).any (isC st) = false) :
    Els op (lft id (R.flatMap (flt op))) ∧ ∀ x ∈ lft id (R.flatMap (flt op)), Sm x := by
  have ho : op = 2 ∨ op = 3 := by rcases hk with ⟨h, _⟩ | ⟨h, _⟩ <;> simp [h]
  have key : ∀ x ∈ lft id (R.flatMap (flt op)), (x.op ≠ op ∧ Sm x) ∧ isC id x = false ∧ isC st x = false := fun x hx => by
    unfold lft at hx
    rw [List.mem_filter] at hx
    obtain ⟨r, hr, hxr⟩ := List.mem_flatMap.1 hx.1
    have := List.any_eq_false.1 hn x hx.1
    exact ⟨flt_sm ho (h r hr) x hxr, by simpa using hx.2, by simpa using this⟩
  refine ⟨fun x hx => ⟨(key x hx).1.1, ?_⟩, fun x hx => (key x hx).1.2⟩
  obtain ⟨_, h1, h2⟩ := key x hx
  rcases hk with ⟨_, rfl, rfl⟩ | ⟨_, rfl, rfl⟩
  · exact ⟨h2, h1⟩
  · exact ⟨h1, h2⟩
theorem jnM_sm {op id st : Int} (hk : (op = 2 ∧ id = 2 ∧ st = 0) ∨ (op = 3 ∧ id = 0 ∧ st = 2)) {R : List Fm} (h : ∀ r ∈ R, Sm r) : Sm (jnM op id st R) := by
  have ho : op = 2 ∨ op = 3 := by rcases hk with ⟨h, _⟩ | ⟨h, _⟩ <;> simp [h]
  unfold jnM
  by_cases c : (R.flatMap (flt op)).any (isC st) = true
  · rw [if_pos c]; exact .con st
  · rw [if_neg c]
    obtain ⟨h1, h2⟩ := left_of hk h (by simpa using c)
    exact fin1_sm ho (sr_rise _) (fun x hx => h1 x ((sr_mem _ _).1 hx)) fun x hx => h2 x ((sr_mem _ _).1 hx)
theorem den_sm {r : Fm} (h : Sm r) : Sm (den r) := by
  unfold den
  by_cases c0 : r.op = 0
  · rw [if_pos c0]; exact .con _
  · rw [if_neg c0]
    by_cases c4 : r.op = 4
    · rw [if_pos c4]
      obtain ⟨x, rfl, hx, _⟩ := h.inv4 c4
      exact hx
    · rw [if_neg c4]; exact .nt r h c0 c4
theorem sm_var (n t : Int) : Sm (varF n t) := by
  unfold varF
  split
  · exact .var n
  · exact .con t
mutual
theorem rs_sm (vs : List Int) : ∀ f : Fm, isG f = true → Sm (rs vs f)
  | .mk o v n l, h => by
    have hl := rss_sm vs l (isG_parts h).2
    rw [rs]
    by_cases e0 : o = 0
    · rw [if_pos e0]; exact .con v
    rw [if_neg e0]
    by_cases e1 : o = 1
    · rw [if_pos e1]; exact sm_var _ _
    rw [if_neg e1]
    by_cases e4 : o = 4
    · rw [if_pos e4]
      subst e4
      have h1 := isG_four h
      match l, h1, hl with
      | [a], _, hl => exact den_sm (hl _ (by simp [rss]))
    rw [if_neg e4]
    by_cases e2 : o = 2
    · rw [if_pos e2]; exact jnM_sm (.inl ⟨rfl, rfl, rfl⟩) hl
    · rw [if_neg e2]; exact jnM_sm (.inr ⟨rfl, rfl, rfl⟩) hl
theorem rss_sm (vs : List Int) : ∀ l : List Fm, areG l = true → ∀ r ∈ rss vs l, Sm r
  | [], _, r, hr => by simp [rss] at hr
  | a :: l, h, r, hr => by
    obtain ⟨h1, h2⟩ := areG_parts h
    rw [rss] at hr
    rcases List.mem_cons.1 hr with e | e
    · rw [e]; exact rs_sm vs a h1
    · exact rss_sm vs l h2 r e
end
theorem flt_self {op : Int} : ∀ {l : List Fm}, (∀ x ∈ l, x.op ≠ op) → l.flatMap (flt op) = l
  | [], _ => rfl
  | x :: l, h => by
    rw [List.flatMap_cons, flt_self fun y hy => h y (by simp [hy])]
    unfold flt
    rw [if_neg (h x (by simp))]
    rfl
/-- a simple formula stays -/
theorem sm_rs {g : Fm} (h : Sm g) : rs [] g = g := by
  induction h with
  | con v => rw [cons, rs, if_pos rfl]; rfl
  | var n =>
    have : valL [] n = 1 := by unfold valL; split <;> simp
    rw [rs, if_neg (by decide), if_pos rfl, this]
    rfl
  | jn op l ho h2 h3 h4 h5 ih =>
    have e : rss [] l = l := by
      rw [rss_map]
      conv => rhs; rw [← List.map_id l]
      exact List.map_congr_left fun a ha => ih a ha
    have main : ∀ id st : Int, ((op = 2 ∧ id = 2 ∧ st = 0) ∨ (op = 3 ∧ id = 0 ∧ st = 2)) → jnM op id st l = .mk op 0 0 l := fun id st hk => by
      have hf : l.flatMap (flt op) = l := flt_self fun x hx => (h4 x hx).1
      unfold jnM
      rw [hf]
      have c : l.any (isC st) = false := by
        rw [List.any_eq_false]
        intro x hx
        rw [els_isC hk (.inr rfl) h4 x hx]
        simp
      have hl : lft id l = l := by
        unfold lft
        rw [List.filter_eq_self]
        intro x hx
        rw [els_isC hk (.inl rfl) h4 x hx]
        rfl
      obtain ⟨x, hx, y, hy, hxy⟩ := (dif_iff _).1 h3
      rw [c, hl, sr_idem h2, fin1_two hx hy hxy]
      rfl
    rw [rs, if_neg (by omega), if_neg (by omega), if_neg (by omega), e]
    rcases ho with rfl | rfl
    · rw [if_pos rfl]; exact main 2 0 (.inl ⟨rfl, rfl, rfl⟩)
    · rw [if_neg (by decide)]; exact main 0 2 (.inr ⟨rfl, rfl, rfl⟩)
  | nt x h1 h2 h3 ih =>
    rw [rs, if_neg (by decide), if_neg (by decide), if_pos rfl]
    simp only [rss, List.headD_cons, ih]
    unfold den
    rw [if_neg h2, if_neg h3]
/-- a formula with variables of some kind alone -/
def Pd (S : Int → Prop) (r : Fm) : Prop := isG r = true ∧ ∀ q ∈ gat r, S q
theorem areG_all {l : List Fm} : areG l = true ↔ ∀ x ∈ l, isG x = true := by
  induction l with
  | nil => simp [areG]
  | cons a l ih => rw [areG, Bool.and_eq_true, ih]; simp
theorem gats_mem {l : List Fm} {q : Int} : q ∈ gats l ↔ ∃ x ∈ l, q ∈ gat x := by
  induction l with
  | nil => simp [gats]
  | cons a l ih => rw [gats, List.mem_append, ih]; simp
theorem pd_cons {S : Int → Prop} {v : Int} (h : g3 v) : Pd S (cons v) := ⟨by unfold cons; rw [isG, if_pos rfl]; rcases h with rfl | rfl | rfl <;> rfl, fun q hq => by unfold cons at hq; rw [gat, if_neg (by decide)] at hq; simp [gats] at hq⟩
theorem pd_jn {S : Int → Prop} {op : Int} (ho : op = 2 ∨ op = 3) {l : List Fm} (h : ∀ x ∈ l, Pd S x) : Pd S (.mk op 0 0 l) := by
  refine ⟨?_, fun q hq => ?_⟩
  · rw [isG, if_neg (by omega), if_neg (by omega), if_pos ho, areG_all.2 fun x hx => (h x hx).1]
    rfl
  · rw [gat, if_neg (by omega)] at hq
    obtain ⟨x, hx, hq⟩ := gats_mem.1 hq
    exact (h x hx).2 q hq
theorem pd_nt {S : Int → Prop} {x : Fm} (h : Pd S x) : Pd S (.mk 4 0 0 [x]) := by
  refine ⟨?_, fun q hq => ?_⟩
  · rw [isG, if_neg (by decide), if_neg (by decide), if_neg (by decide), if_pos rfl, areG, areG, h.1]
    rfl
  · rw [gat, if_neg (by decide)] at hq
    obtain ⟨y, hy, hq2⟩ := gats_mem.1 hq
    have hy : y = x := by simpa using hy
    rw [hy] at hq2
    exact h.2 q hq2
theorem pd_ar {S : Int → Prop} {r : Fm} (h : Pd S r) : ∀ x ∈ r.ar, Pd S x := fun x hx => by
  obtain ⟨o, v, n, l⟩ := r
  obtain ⟨h1, h2⟩ := isG_parts h.1
  refine ⟨areG_all.1 h2 x hx, fun q hq => h.2 q ?_⟩
  by_cases e : o = 1
  · have := (h1 e).1
    subst this
    cases hx
  · rw [gat, if_neg e]
    exact gats_mem.2 ⟨x, hx, hq⟩
theorem Pd.imp {S T : Int → Prop} {r : Fm} (h : Pd S r) (k : ∀ q, S q → T q) : Pd T r := ⟨h.1, fun q hq => k q (h.2 q hq)⟩
theorem pd_flt {S : Int → Prop} {op : Int} {R : List Fm} (h : ∀ r ∈ R, Pd S r) : ∀ x ∈ R.flatMap (flt op), Pd S x := fun x hx => by
  obtain ⟨r, hr, hx⟩ := List.mem_flatMap.1 hx
  unfold flt at hx
  split at hx
  · exact pd_ar (h r hr) x hx
  · simp at hx; subst hx; exact h x hr
theorem pd_fin {S : Int → Prop} {op id : Int} (ho : op = 2 ∨ op = 3) (hi : g3 id) {L : List Fm} (h : ∀ x ∈ L, Pd S x) : Pd S (fin1 op id L) := by
  match L, h with
  | [], _ => exact pd_cons hi
  | [x], h => exact h x (by simp)
  | x :: y :: l, h => exact pd_jn ho h
theorem pd_jnM {S : Int → Prop} {op id st : Int} (hk : (op = 2 ∧ id = 2 ∧ st = 0) ∨ (op = 3 ∧ id = 0 ∧ st = 2)) {R : List Fm} (h : ∀ r ∈ R, Pd S r) : Pd S (jnM op id st R) := by
  have ho : op = 2 ∨ op = 3 := by rcases hk with ⟨h, _⟩ | ⟨h, _⟩ <;> simp [h]
  unfold jnM
  split
  · exact pd_cons (by rcases hk with ⟨_, _, rfl⟩ | ⟨_, _, rfl⟩ <;> (unfold g3; decide))
  · refine pd_fin ho (by rcases hk with ⟨_, rfl, _⟩ | ⟨_, rfl, _⟩ <;> (unfold g3; decide)) fun x hx => ?_
    have := (sr_mem _ _).1 hx
    unfold lft at this
    rw [List.mem_filter] at this
    exact pd_flt h x this.1
theorem pd_den {S : Int → Prop} {r : Fm} (h : Pd S r) : Pd S (den r) := by
  unfold den
  split
  · exact pd_cons (notT_g3 _)
  · split
    · rename_i c
      obtain ⟨o, v, n, l⟩ := r
      obtain rfl : o = 4 := c
      have h1 := isG_four h.1
      match l, h1, h with
      | [a], _, h => exact pd_ar h a (by simp [Fm.ar])
    · exact pd_nt h
mutual
theorem rs_pd {vs : List Int} (hg : goodL vs = true) : ∀ f : Fm, isG f = true → Pd (fun q => q ∈ gat f ∧ valL vs q = 1) (rs vs f)
  | .mk o v n l, h => by
    have hl := rss_pd hg l (isG_parts h).2
    rw [rs]
    by_cases e0 : o = 0
    · rw [if_pos e0]; subst e0; exact pd_cons (isG_zero h)
    rw [if_neg e0]
    by_cases e1 : o = 1
    · rw [if_pos e1]
      subst e1
      unfold varF
      by_cases c : valL vs n = 1
      · rw [if_pos c]
        have hb := (isG_parts h).1 rfl
        refine ⟨?_, fun q hq => ?_⟩
        · rw [isG, if_neg (by decide), if_pos rfl, decide_eq_true hb.2.1, decide_eq_true hb.2.2]
          rfl
        · rw [gat, if_pos rfl] at hq
          simp at hq
          subst hq
          exact ⟨by rw [gat, if_pos rfl]; simp, c⟩
      · rw [if_neg c]; exact pd_cons (valL_g3 hg n)
    rw [if_neg e1]
    have hl : ∀ r ∈ rss vs l, Pd (fun q => q ∈ gat (.mk o v n l) ∧ valL vs q = 1) r := fun r hr => (hl r hr).imp fun q hq => ⟨by rw [gat, if_neg e1]; exact hq.1, hq.2⟩
    by_cases e4 : o = 4
    · rw [if_pos e4]
      subst e4
      have h1 := isG_four h
      match l, h1, hl with
      | [a], _, hl => exact pd_den (hl _ (by simp [rss]))
    rw [if_neg e4]
    by_cases e2 : o = 2
    · rw [if_pos e2]; exact pd_jnM (.inl ⟨rfl, rfl, rfl⟩) hl
    · rw [if_neg e2]; exact pd_jnM (.inr ⟨rfl, rfl, rfl⟩) hl
theorem rss_pd {vs : List Int} (hg : goodL vs = true) : ∀ l : List Fm, areG l = true → ∀ r ∈ rss vs l, Pd (fun q => q ∈ gats l ∧ valL vs q = 1) r
  | [], _, r, hr => by simp [rss] at hr
  | a :: l, h, r, hr => by
    obtain ⟨h1, h2⟩ := areG_parts h
    rw [rss] at hr
    rcases List.mem_cons.1 hr with e | e
    · rw [e]; exact (rs_pd hg a h1).imp fun q hq => ⟨by rw [gats]; exact List.mem_append_left _ hq.1, hq.2⟩
    · exact (rss_pd hg l h2 r e).imp fun q hq => ⟨by rw [gats]; exact List.mem_append_right _ hq.1, hq.2⟩
end
theorem evs_mem {ws : List Int} {l : List Fm} {x : Int} : x ∈ evs ws l ↔ ∃ a ∈ l, ev ws a = x := by rw [evs_map, List.mem_map]
/-- the value of a join -/
def agv (id st : Int) (E : List Int) : Int := if st ∈ E then st else if 1 ∈ E then 1 else id
theorem agv_same {id st : Int} {E F : List Int} (h1 : st ∈ E ↔ st ∈ F) (h2 : st ∉ E → (1 ∈ E ↔ 1 ∈ F)) : agv id st E = agv id st F := by
  unfold agv
  by_cases c : st ∈ E
  · rw [if_pos c, if_pos (h1.1 c)]
  · rw [if_neg c, if_neg fun k => c (h1.2 k)]
    by_cases d : 1 ∈ E
    · rw [if_pos d, if_pos ((h2 c).1 d)]
    · rw [if_neg d, if_neg fun k => d ((h2 c).2 k)]
theorem ev_jn {ws : List Int} (hw : goodL ws = true) {op id st : Int} (hk : (op = 2 ∧ id = 2 ∧ st = 0) ∨ (op = 3 ∧ id = 0 ∧ st = 2)) {v n : Int} {l : List Fm} (h : ∀ x ∈ l, isG x = true) : ev ws (.mk op v n l) = agv id st (evs ws l) := by
  have hl := evs_g3 hw l (areG_all.2 h)
  rw [ev]
  unfold agv
  rcases hk with ⟨rfl, rfl, rfl⟩ | ⟨rfl, rfl, rfl⟩
  · rw [if_neg (by decide), if_neg (by decide), if_pos rfl, andL_eq hl]
  · rw [if_neg (by decide), if_neg (by decide), if_neg (by decide), if_pos rfl, orL_eq hl]
theorem isC_ev {ws : List Int} {v : Int} {x : Fm} (h : isC v x = true) : ev ws x = v := by
  obtain ⟨o, va, n, l⟩ := x
  unfold isC at h
  simp [Fm.op, Fm.va] at h
  rw [ev, if_pos h.1, h.2]
theorem ev_jnM {ws : List Int} (hw : goodL ws = true) {op id st : Int} (hk : (op = 2 ∧ id = 2 ∧ st = 0) ∨ (op = 3 ∧ id = 0 ∧ st = 2)) {R : List Fm} (hG : ∀ r ∈ R, isG r = true) : ev ws (jnM op id st R) = agv id st (evs ws R) := by
  have his : id ≠ st ∧ id ≠ 1 ∧ st ≠ 1 := by rcases hk with ⟨_, rfl, rfl⟩ | ⟨_, rfl, rfl⟩ <;> decide
  have g3s : ∀ x : Int, g3 x → x = id ∨ x = 1 ∨ x = st := fun x hx => by
    rcases hk with ⟨_, rfl, rfl⟩ | ⟨_, rfl, rfl⟩ <;> rcases hx with rfl | rfl | rfl <;> simp
  have hF : ∀ x ∈ R.flatMap (flt op), isG x = true := fun x hx => (pd_flt (S := fun _ => True) (fun r hr => ⟨hG r hr, fun _ _ => trivial⟩) x hx).1
  have hop : ∀ r ∈ R, r.op = op → ev ws r = agv id st (evs ws r.ar) ∧ ∀ x ∈ r.ar, isG x = true := fun r hr e => by
    have ha : ∀ x ∈ r.ar, isG x = true := fun x hx => (pd_ar (S := fun _ => True) ⟨hG r hr, fun _ _ => trivial⟩ x hx).1
    obtain ⟨o, v, n, l⟩ := r
    obtain rfl : o = op := e
    exact ⟨ev_jn hw hk ha, ha⟩
  have flat : agv id st (evs ws (R.flatMap (flt op))) = agv id st (evs ws R) := by
    have hst : st ∈ evs ws (R.flatMap (flt op)) ↔ st ∈ evs ws R := by
      rw [evs_mem, evs_mem]
      constructor
      · rintro ⟨x, hx, he⟩
        obtain ⟨r, hr, hx⟩ := List.mem_flatMap.1 hx
        unfold flt at hx
        by_cases c : r.op = op
        · rw [if_pos c] at hx
          refine ⟨r, hr, ?_⟩
          rw [(hop r hr c).1]
          unfold agv
          rw [if_pos (evs_mem.2 ⟨x, hx, he⟩)]
        · rw [if_neg c] at hx
          simp at hx
          subst hx
          exact ⟨x, hr, he⟩
      · rintro ⟨r, hr, he⟩
        by_cases c : r.op = op
        · rw [(hop r hr c).1] at he
          unfold agv at he
          by_cases d : st ∈ evs ws r.ar
          · obtain ⟨x, hx, hex⟩ := evs_mem.1 d
            exact ⟨x, List.mem_flatMap.2 ⟨r, hr, by unfold flt; rw [if_pos c]; exact hx⟩, hex⟩
          · rw [if_neg d] at he
            split at he
            · exact absurd he (Ne.symm his.2.2)
            · exact absurd he his.1
        · exact ⟨r, List.mem_flatMap.2 ⟨r, hr, by unfold flt; rw [if_neg c]; simp⟩, he⟩
    refine agv_same hst fun hns => ?_
    rw [evs_mem, evs_mem]
    constructor
    · rintro ⟨x, hx, he⟩
      obtain ⟨r, hr, hx⟩ := List.mem_flatMap.1 hx
      unfold flt at hx
      by_cases c : r.op = op
      · rw [if_pos c] at hx
        refine ⟨r, hr, ?_⟩
        rw [(hop r hr c).1]
        unfold agv
        rw [if_neg fun d => ?_, if_pos (evs_mem.2 ⟨x, hx, he⟩)]
        obtain ⟨y, hy, hey⟩ := evs_mem.1 d
        exact hns (evs_mem.2 ⟨y, List.mem_flatMap.2 ⟨r, hr, by unfold flt; rw [if_pos c]; exact hy⟩, hey⟩)
      · rw [if_neg c] at hx
        simp at hx
        subst hx
        exact ⟨x, hr, he⟩
    · rintro ⟨r, hr, he⟩
      by_cases c : r.op = op
      · rw [(hop r hr c).1] at he
        unfold agv at he
        by_cases d : st ∈ evs ws r.ar
        · rw [if_pos d] at he
          exact absurd he his.2.2
        · rw [if_neg d] at he
          by_cases d1 : (1 : Int) ∈ evs ws r.ar
          · obtain ⟨x, hx, hex⟩ := evs_mem.1 d1
            exact ⟨x, List.mem_flatMap.2 ⟨r, hr, by unfold flt; rw [if_pos c]; exact hx⟩, hex⟩
          · rw [if_neg d1] at he
            exact absurd he his.2.1
      · exact ⟨r, List.mem_flatMap.2 ⟨r, hr, by unfold flt; rw [if_neg c]; simp⟩, he⟩
  rw [← flat]
  unfold jnM
  generalize R.flatMap (flt op) = F at hF
  by_cases c : F.any (isC st) = true
  · rw [if_pos c]
    obtain ⟨x, hx, hc⟩ := List.any_eq_true.1 c
    unfold agv
    rw [if_pos (evs_mem.2 ⟨x, hx, isC_ev hc⟩)]
    unfold cons
    rw [ev, if_pos rfl]
  · rw [if_neg c]
    have hLF : ∀ x, x ∈ sr (lft id F) ↔ x ∈ F ∧ isC id x = false := fun x => by
      rw [sr_mem]
      unfold lft
      rw [List.mem_filter]
      simp
    generalize sr (lft id F) = L at hLF
    have hv : ∀ v, v ≠ id → (v ∈ evs ws L ↔ v ∈ evs ws F) := fun v hne => by
      rw [evs_mem, evs_mem]
      constructor
      · rintro ⟨x, hx, he⟩
        exact ⟨x, ((hLF x).1 hx).1, he⟩
      · rintro ⟨x, hx, he⟩
        refine ⟨x, (hLF x).2 ⟨hx, ?_⟩, he⟩
        cases e : isC id x with
        | false => rfl
        | true => exact absurd (he.symm.trans (isC_ev e)) hne
    have hLG : ∀ x ∈ L, isG x = true := fun x hx => hF x ((hLF x).1 hx).1
    rw [← agv_same (hv st (Ne.symm his.1)) fun _ => hv 1 (Ne.symm his.2.1)]
    match L, hLG with
    | [], _ =>
      show ev ws (cons id) = _
      unfold cons agv
      rw [ev, if_pos rfl]
      simp [evs]
    | [x], hLG =>
      show ev ws x = _
      have := g3s _ (ev_g3 hw x (hLG x (by simp)))
      unfold agv
      simp only [evs, List.mem_singleton]
      rcases this with e | e | e
      · rw [e, if_neg (Ne.symm his.1), if_neg (Ne.symm his.2.1)]
      · rw [e, if_neg his.2.2, if_pos rfl]
      · rw [e, if_pos rfl]
    | x :: y :: l, hLG => exact ev_jn hw hk hLG
theorem notT_two {x : Int} (h : g3 x) : notT (notT x) = x := by rcases h with rfl | rfl | rfl <;> rfl
theorem ev_den {ws : List Int} (hw : goodL ws = true) {r : Fm} (h : isG r = true) : ev ws (den r) = notT (ev ws r) := by
  obtain ⟨o, v, n, l⟩ := r
  unfold den
  by_cases c0 : o = 0
  · subst c0
    rw [if_pos (show (Fm.mk 0 v n l).op = 0 from rfl)]
    unfold cons
    rw [ev, if_pos rfl, ev, if_pos rfl]
    rfl
  · rw [if_neg (show ¬ (Fm.mk o v n l).op = 0 from c0)]
    by_cases c4 : o = 4
    · subst c4
      rw [if_pos (show (Fm.mk 4 v n l).op = 4 from rfl)]
      have h1 := isG_four h
      match l, h1, h with
      | [a], _, h =>
        have ha := (pd_ar (S := fun _ => True) ⟨h, fun _ _ => trivial⟩ a (by simp [Fm.ar])).1
        rw [ev, if_neg (by decide), if_neg (by decide), if_neg (by decide), if_neg (by decide)]
        show ev ws a = notT (notT (ev ws a))
        rw [notT_two (ev_g3 hw a ha)]
    · rw [if_neg (show ¬ (Fm.mk o v n l).op = 4 from c4), ev, if_neg (by decide), if_neg (by decide), if_neg (by decide), if_neg (by decide)]
      rfl
mutual
/-- simplified by some values, looked at with others: the value with all of them -/
theorem ev_rs {vs ws : List Int} (hg : goodL vs = true) (hw : goodL ws = true) (hm : goodL (mrg vs ws) = true) : ∀ f : Fm, isG f = true → ev ws (rs vs f) = ev (mrg vs ws) f
  | .mk o v n l, h => by
    have hl := evs_rs hg hw hm l (isG_parts h).2
    have hr : ∀ r ∈ rss vs l, isG r = true := fun r hr => (rss_pd hg l (isG_parts h).2 r hr).1
    have ha : ∀ x ∈ l, isG x = true := areG_all.1 (isG_parts h).2
    rw [rs]
    by_cases e0 : o = 0
    · rw [if_pos e0, ev, if_pos e0]
      unfold cons
      rw [ev, if_pos rfl]
    rw [if_neg e0]
    by_cases e1 : o = 1
    · rw [if_pos e1, ev, if_neg e0, if_pos e1]
      have hn := ((isG_parts h).1 e1).2.1
      unfold varF
      rw [valL_at (vs := mrg vs ws) hn, at1_mrg, ← valL_at hn, ← valL_at hn]
      by_cases c : valL vs n = 1
      · rw [if_pos c, if_neg (by simpa using c), ev, if_neg (by decide), if_pos rfl]
      · rw [if_neg c, if_pos c]
        unfold cons
        rw [ev, if_pos rfl]
    rw [if_neg e1]
    by_cases e4 : o = 4
    · rw [if_pos e4]
      subst e4
      have h1 := isG_four h
      match l, h1, hl, hr with
      | [a], _, hl, hr =>
        simp only [rss, evs, List.cons.injEq, and_true] at hl
        simp only [rss, List.headD_cons]
        rw [ev_den hw (hr _ (by simp [rss])), hl, ev, if_neg (by decide), if_neg (by decide), if_neg (by decide), if_neg (by decide)]
        rfl
    rw [if_neg e4]
    by_cases e2 : o = 2
    · rw [if_pos e2, ev_jnM hw (.inl ⟨rfl, rfl, rfl⟩) hr, hl, e2, ev_jn hm (.inl ⟨rfl, rfl, rfl⟩) ha]
    · obtain rfl : o = 3 := by have := isG_op h; omega
      rw [if_neg e2, ev_jnM hw (.inr ⟨rfl, rfl, rfl⟩) hr, hl, ev_jn hm (.inr ⟨rfl, rfl, rfl⟩) ha]
theorem evs_rs {vs ws : List Int} (hg : goodL vs = true) (hw : goodL ws = true) (hm : goodL (mrg vs ws) = true) : ∀ l : List Fm, areG l = true → evs ws (rss vs l) = evs (mrg vs ws) l
  | [], _ => by simp [rss, evs]
  | a :: l, h => by
    obtain ⟨h1, h2⟩ := areG_parts h
    rw [rss, evs, evs, ev_rs hg hw hm a h1, evs_rs hg hw hm l h2]
end
/-- two joins that say the same -/
theorem jnM_same {op id st : Int} {R R' : List Fm} (h1 : (R.flatMap (flt op)).any (isC st) = (R'.flatMap (flt op)).any (isC st)) (h2 : (R.flatMap (flt op)).any (isC st) = false → ∀ x, x ∈ lft id (R.flatMap (flt op)) ↔ x ∈ lft id (R'.flatMap (flt op))) : jnM op id st R = jnM op id st R' := by
  unfold jnM
  rw [← h1]
  by_cases c : (R.flatMap (flt op)).any (isC st) = true
  · rw [if_pos c, if_pos c]
  · rw [if_neg c, if_neg c, sr_same (h2 (by simpa using c))]
theorem any_mem {v : Int} {l : List Fm} : l.any (isC v) = true ↔ ∃ x ∈ l, isC v x = true := List.any_eq_true
/-- grouped in another way -/
theorem jnM_group {op id st : Int} (hk : (op = 2 ∧ id = 2 ∧ st = 0) ∨ (op = 3 ∧ id = 0 ∧ st = 2)) {x y z : Fm} (hx : Sm x) (hz : Sm z) : jnM op id st [x, y, z] = jnM op id st [jnM op id st [z, x], y, x] := by
  have ho : op = 2 ∨ op = 3 := by rcases hk with ⟨h, _⟩ | ⟨h, _⟩ <;> simp [h]
  have his : id ≠ st := by rcases hk with ⟨_, rfl, rfl⟩ | ⟨_, rfl, rfl⟩ <;> decide
  have cc : ∀ u v : Int, isC u (cons v) = (v == u) := fun u v => isC_cons u v
  have fc : ∀ v : Int, flt op (cons v) = [cons v] := fun v => by unfold flt; rw [if_neg (show ¬ (cons v).op = op from fun (h : (0 : Int) = op) => by omega)]
  have hf3 : [x, y, z].flatMap (flt op) = flt op x ++ (flt op y ++ flt op z) := by simp
  have hf2 : [z, x].flatMap (flt op) = flt op z ++ flt op x := by simp
  have hSm : ∀ r ∈ [z, x], Sm r := fun r hr => by simp at hr; rcases hr with rfl | rfl <;> assumption
  obtain ⟨J, hJ⟩ : ∃ J, jnM op id st [z, x] = J := ⟨_, rfl⟩
  rw [hJ]
  have hg3 : [J, y, x].flatMap (flt op) = flt op J ++ (flt op y ++ flt op x) := by simp
  unfold jnM at hJ
  rw [hf2] at hJ
  by_cases c : (flt op z ++ flt op x).any (isC st) = true
  · rw [if_pos c] at hJ
    subst hJ
    have a1 : ([x, y, z].flatMap (flt op)).any (isC st) = true := by
      obtain ⟨w, hw, hc⟩ := any_mem.1 c
      rw [hf3]
      refine any_mem.2 ⟨w, ?_, hc⟩
      simp only [List.mem_append] at hw ⊢
      rcases hw with h | h
      · exact .inr (.inr h)
      · exact .inl h
    have a2 : ([cons st, y, x].flatMap (flt op)).any (isC st) = true := by
      rw [hg3, fc]
      exact any_mem.2 ⟨cons st, by simp, by rw [cc]; simp⟩
    unfold jnM
    rw [a1, a2, if_pos rfl, if_pos rfl]
  · have c' : (flt op z ++ flt op x).any (isC st) = false := by simpa using c
    rw [if_neg c] at hJ
    have hl := left_of hk hSm (by rw [hf2]; exact c')
    rw [hf2] at hl
    have hJm : (∀ w ∈ flt op J, isC st w = false) ∧ ∀ w, w ∈ lft id (flt op J) ↔ w ∈ lft id (flt op z ++ flt op x) := by
      have hL : ∀ w, w ∈ sr (lft id (flt op z ++ flt op x)) ↔ w ∈ lft id (flt op z ++ flt op x) := sr_mem _
      have hE : Els op (sr (lft id (flt op z ++ flt op x))) := fun w hw => hl.1 w ((hL w).1 hw)
      have hself : ∀ M : List Fm, Els op M → lft id M = M := fun M hM => by
        unfold lft
        rw [List.filter_eq_self]
        intro w hw
        rw [els_isC hk (.inl rfl) hM w hw]
        rfl
      have hfl : flt op J = if sr (lft id (flt op z ++ flt op x)) = [] then [cons id] else sr (lft id (flt op z ++ flt op x)) := by
        rw [← hJ]
        generalize sr (lft id (flt op z ++ flt op x)) = M at hE
        match M, hE with
        | [], _ => exact fc id
        | [w], hE => show flt op w = _; unfold flt; rw [if_neg (hE w (by simp)).1]; simp
        | w :: w2 :: l, hE => show flt op (.mk op 0 0 _) = _; unfold flt; rw [if_pos (show (Fm.mk op 0 0 (w :: w2 :: l)).op = op from rfl)]; simp [Fm.ar]
      rw [hfl]
      by_cases e : sr (lft id (flt op z ++ flt op x)) = []
      · rw [if_pos e]
        refine ⟨fun w hw => ?_, fun w => ?_⟩
        · simp at hw
          subst hw
          rw [cc]
          simpa using his
        · rw [← hL w, e]
          unfold lft
          simp [cc]
      · rw [if_neg e, hself _ hE]
        exact ⟨fun w hw => els_isC hk (.inr rfl) hE w hw, hL⟩
    have lmem : ∀ (A : List Fm) w, w ∈ lft id A ↔ w ∈ A ∧ isC id w = false := fun A w => by unfold lft; rw [List.mem_filter]; simp
    refine jnM_same ?_ fun _ w => ?_
    · rw [hf3, hg3, List.any_append, List.any_append, List.any_append, List.any_append]
      rw [List.any_append, Bool.or_eq_false_iff] at c'
      have : (flt op J).any (isC st) = false := by rw [List.any_eq_false]; intro w hw; rw [hJm.1 w hw]; simp
      rw [this, c'.1, c'.2]
    · rw [hf3, hg3]
      have := hJm.2 w
      rw [lmem, lmem, List.mem_append] at this
      rw [lmem, lmem]
      simp only [List.mem_append]
      constructor
      · rintro ⟨h | h | h, k⟩
        · exact ⟨.inr (.inr h), k⟩
        · exact ⟨.inr (.inl h), k⟩
        · exact ⟨.inl (this.2 ⟨.inl h, k⟩).1, k⟩
      · rintro ⟨h | h | h, k⟩
        · rcases (this.1 ⟨h, k⟩).1 with q | q
          · exact ⟨.inr (.inr q), k⟩
          · exact ⟨.inl q, k⟩
        · exact ⟨.inr (.inl h), k⟩
        · exact ⟨.inl h, k⟩
/-- the double not -/
theorem den_two {r : Fm} (h : Sm r) (hG : isG r = true) : den (den r) = r := by
  by_cases c0 : r.op = 0
  · have e := h.inv0 c0
    rw [e] at hG ⊢
    have hv : g3 r.va := isG_zero hG
    have d : ∀ v : Int, den (cons v) = cons (notT v) := fun v => by unfold den; rw [if_pos (show (cons v).op = 0 from rfl)]; rfl
    rw [d, d, notT_two hv]
  · by_cases c4 : r.op = 4
    · obtain ⟨x, rfl, _, h1, h2⟩ := h.inv4 c4
      have d : den (.mk 4 0 0 [x]) = x := by unfold den; rfl
      rw [d]
      unfold den
      rw [if_neg h1, if_neg h2]
    · have d : den r = .mk 4 0 0 [r] := by unfold den; rw [if_neg c0, if_neg c4]
      rw [d]
      rfl
end Kl
end Go.Proofs.Ytipnhfnjoaoceaa
