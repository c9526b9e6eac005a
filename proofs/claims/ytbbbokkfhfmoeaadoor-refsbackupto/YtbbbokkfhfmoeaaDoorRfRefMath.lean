/-
  The document's way to read a reference: what begins one, what is one, against Read's answer.
-/
import Derived.Test.YtbbbokkfhfmoeaaDoorRfRef
namespace Go.Proofs.YtbbbokkfhfmoeaaDoor
open Go.RowKit Go.Lib

namespace Rf
/-- a whole reference -/
def okR (l : List UInt8) : Prop := (rd (lfn l) l.length).2.2 = 0 ∧ (rd (lfn l) l.length).2.1 = l.length
def wtR (l : List UInt8) : Prop := (rd (lfn l) l.length).2.2 = 1
theorem nb_sat {base c : Nat} (hb : 1 ≤ base) : ∀ (r : List UInt8) (v' : Nat), nb base c r 1114112 = some v' → v' = 1114112
  | [], v', h => by cases h; rfl
  | x :: r, v', h => by
    unfold nb at h
    split at h
    · have : 1114112 ≤ 1114112 * base := Nat.le_mul_of_pos_right _ hb
      rw [show min (1114112 * base + dv x.toNat) 1114112 = 1114112 by omega] at h
      exact nb_sat hb r v' h
    · cases h
theorem Bas.pos {base c : Nat} (hb : Bas base c) : 1 ≤ base := by rcases hb with ⟨rfl, _⟩ | ⟨rfl, _⟩ <;> omega
theorem Bas.semi {base c : Nat} (hb : Bas base c) : isD c (59 : UInt8).toNat = false := by rcases hb with ⟨_, rfl⟩ | ⟨_, rfl⟩ <;> decide +kernel
theorem rnL_cons (base c : Nat) (x : UInt8) (r : List UInt8) (a v : Nat) : rnL base c (x :: r) a v = if isD c x.toNat = true then (if 1114111 < v * base + dv x.toNat then (0, a, 2) else rnL base c r (a + 1) (v * base + dv x.toNat)) else if x.toNat = 59 ∧ Ch.isT Ch.tab 0 (v : Int) = true then (v, a + 1, 0) else (0, a, 2) := rfl
theorem nb_cons (base c : Nat) (x : UInt8) (r : List UInt8) (v : Nat) : nb base c (x :: r) v = if isD c x.toNat = true then nb base c r (min (v * base + dv x.toNat) 1114112) else none := rfl
theorem okL {base c : Nat} (hb : Bas base c) : ∀ (mid : List UInt8) (a v : Nat), v ≤ 1114111 → ∀ x, (rnL base c (mid ++ [59]) a v = (x, a + mid.length + 1, 0) ↔ (nb base c mid v = some x ∧ x ≤ 1114111 ∧ Ch.isT Ch.tab 0 (x : Int) = true))
  | [], a, v, hv, x => by
    rw [List.nil_append, rnL_cons, if_neg (by rw [hb.semi]; decide)]
    by_cases h : Ch.isT Ch.tab 0 (v : Int) = true
    · rw [if_pos ⟨rfl, h⟩]
      constructor
      · intro e; cases e; exact ⟨rfl, hv, h⟩
      · rintro ⟨e, _⟩; cases e; rfl
    · rw [if_neg (fun q => h q.2)]
      constructor
      · intro e; have := congrArg (fun q => q.2.2) e; simp at this
      · rintro ⟨e, _, q⟩; cases e; exact absurd q h
  | y :: r, a, v, hv, x => by
    rw [List.cons_append, rnL_cons, nb_cons]
    by_cases h1 : isD c y.toNat = true
    · rw [if_pos h1, if_pos h1]
      by_cases h2 : 1114111 < v * base + dv y.toNat
      · rw [if_pos h2, show min (v * base + dv y.toNat) 1114112 = 1114112 by omega]
        constructor
        · intro e; have := congrArg (fun q => q.2.2) e; simp at this
        · rintro ⟨e, q, _⟩; have := nb_sat hb.pos r x e; omega
      · rw [if_neg h2, show min (v * base + dv y.toNat) 1114112 = v * base + dv y.toNat by omega]
        have := okL hb r (a + 1) (v * base + dv y.toNat) (by omega) x
        rw [show a + 1 + r.length + 1 = a + (y :: r).length + 1 by simp only [List.length_cons]; omega] at this
        exact this
    · rw [if_neg h1, if_neg h1]
      constructor
      · intro e
        split at e
        · have := congrArg (fun q => q.2.1) e
          simp at this
        · have := congrArg (fun q => q.2.2) e; simp at this
      · rintro ⟨e, _⟩; cases e
theorem waitL {base c : Nat} (hb : Bas base c) : ∀ (ds : List UInt8) (a v : Nat), v ≤ 1114111 → ((rnL base c ds a v).2.2 = 1 ↔ ∃ x, nb base c ds v = some x ∧ x ≤ 1114111)
  | [], a, v, hv => ⟨fun _ => ⟨v, rfl, hv⟩, fun _ => rfl⟩
  | y :: r, a, v, hv => by
    rw [rnL_cons, nb_cons]
    by_cases h1 : isD c y.toNat = true
    · rw [if_pos h1, if_pos h1]
      by_cases h2 : 1114111 < v * base + dv y.toNat
      · rw [if_pos h2, show min (v * base + dv y.toNat) 1114112 = 1114112 by omega]
        constructor
        · intro e; cases e
        · rintro ⟨x, e, q⟩; have := nb_sat hb.pos r x e; omega
      · rw [if_neg h2, show min (v * base + dv y.toNat) 1114112 = v * base + dv y.toNat by omega]
        exact waitL hb r (a + 1) _ (by omega)
    · rw [if_neg h1, if_neg h1]
      constructor
      · intro e
        split at e <;> cases e
      · rintro ⟨x, e, _⟩; cases e
theorem rnL_last {base c : Nat} : ∀ (ds : List UInt8) (a v : Nat), (rnL base c ds a v).2.2 = 0 → (rnL base c ds a v).2.1 = a + ds.length → ∃ mid, ds = mid ++ [59]
  | [], a, v, h, _ => by cases h
  | y :: r, a, v, h, h2 => by
    rw [rnL_cons] at h h2
    by_cases h1 : isD c y.toNat = true
    · rw [if_pos h1] at h h2
      by_cases h3 : 1114111 < v * base + dv y.toNat
      · rw [if_pos h3] at h; cases h
      · rw [if_neg h3] at h h2
        obtain ⟨mid, e⟩ := rnL_last r (a + 1) _ h (by simp only [List.length_cons] at h2; omega)
        exact ⟨y :: mid, by rw [e]; rfl⟩
    · rw [if_neg h1] at h h2
      by_cases h3 : y.toNat = 59 ∧ Ch.isT Ch.tab 0 (v : Int) = true
      · rw [if_pos h3] at h2
        have hr : r = [] := List.eq_nil_of_length_eq_zero (by simp only [List.length_cons] at h2; omega)
        subst hr
        exact ⟨[], by rw [show y = 59 from UInt8.toNat_inj.1 h3.1]; rfl⟩
      · rw [if_neg h3] at h; cases h
theorem waitL_last {base c : Nat} (hb : Bas base c) : ∀ (ds : List UInt8) (a v : Nat), v ≤ 1114111 → (rnL base c ds a v).2.2 = 1 → ds.getLast? ≠ some 59 := by
  intro ds a v hv h
  obtain ⟨x, hx, _⟩ := (waitL hb ds a v hv).1 h
  clear h hv
  induction ds generalizing v with
  | nil => simp
  | cons y r ih =>
    rw [nb_cons] at hx
    split at hx
    · next q =>
      cases r with
      | nil =>
        intro e
        have : y = 59 := by simpa using e
        rw [this, hb.semi] at q
        cases q
      | cons z r =>
        have := ih _ hx
        rw [List.getLast?_cons_cons]
        exact this
    · cases hx
theorem lfn_get (l : List UInt8) (j : Nat) (h : j < l.length) : lfn l j = (l[j]'h).toNat := by
  unfold lfn
  rw [List.getElem?_eq_getElem h]
  rfl
theorem list_of_lfn {l m : List UInt8} (hl : l.length = m.length) (h : ∀ j, j < l.length → lfn l j = lfn m j) : l = m := by
  apply List.ext_getElem hl
  intro j h1 h2
  have := h j h1
  rw [lfn_get l j h1, lfn_get m j h2] at this
  exact UInt8.toNat_inj.1 this
/-- the base and where the digits begin -/
theorem rd_num {l : List UInt8} (h2 : 2 ≤ l.length) (h0 : lfn l 0 = 38) (h1 : lfn l 1 = 35) : (2 < l.length ∧ lfn l 2 = 120 → rd (lfn l) l.length = rnL 16 5 (l.drop 3) 3 0) ∧ (¬ (2 < l.length ∧ lfn l 2 = 120) → rd (lfn l) l.length = rnL 10 4 (l.drop 2) 2 0) := by
  have e : rd (lfn l) l.length = rdN (lfn l) l.length := by
    unfold rd
    rw [if_neg (fun q => q.2 h0), if_neg (by omega), if_neg (fun q => q h1)]
  constructor
  · intro h
    rw [e]
    unfold rdN
    rw [if_pos h, rn_list l 16 5 _ 3 0 rfl (by omega)]
  · intro h
    rw [e]
    unfold rdN
    rw [if_neg h, rn_list l 10 4 _ 2 0 rfl (by omega)]
theorem take2 {l : List UInt8} (h2 : 2 ≤ l.length) (h0 : lfn l 0 = 38) (h1 : lfn l 1 = 35) : l.take 2 = [38, 35] := by
  match l, h2 with
  | a :: b :: r, _ =>
    have e0 : a = 38 := UInt8.toNat_inj.1 h0
    have e1 : b = 35 := UInt8.toNat_inj.1 h1
    subst e0 e1
    rfl
theorem take2_inv {l : List UInt8} (h : l.take 2 = [38, 35]) : 2 ≤ l.length ∧ lfn l 0 = 38 ∧ lfn l 1 = 35 := by
  match l, h with
  | [], h => cases h
  | [a], h => cases h
  | a :: b :: r, h =>
    have : a = 38 ∧ b = 35 := by simpa using h
    obtain ⟨rfl, rfl⟩ := this
    exact ⟨by simp, rfl, rfl⟩
theorem isT00 : Ch.isT Ch.tab 0 ((0 : Nat) : Int) = false := by rw [isT0]; decide
/-- a whole reference has a name, or a number -/
theorem okR_cases {l : List UInt8} (h : okR l) : (∃ e ∈ nmT, l = whl e.1) ∨ (4 ≤ l.length ∧ l.take 2 = [38, 35] ∧ l.getLast? = some 59) := by
  obtain ⟨ha, hb⟩ := h
  by_cases h0 : 0 < l.length ∧ lfn l 0 ≠ 38
  · unfold rd at ha; rw [if_pos h0] at ha; cases ha
  · by_cases h1 : l.length < 2
    · unfold rd at ha; rw [if_neg h0, if_pos h1] at ha; cases ha
    · have e0 : lfn l 0 = 38 := by
        by_cases q : lfn l 0 = 38
        · exact q
        · exact absurd ⟨by omega, q⟩ h0
      by_cases h2 : lfn l 1 ≠ 35
      · have e : rd (lfn l) l.length = nm (lfn l) l.length := by
          unfold rd
          rw [if_neg h0, if_neg h1, if_pos h2]
        rw [e] at ha hb
        rcases nm_ways (lfn l) l.length with ⟨e, he, hf, q, _⟩ | ⟨_, _, q⟩ | ⟨_, _, q⟩
        · left
          rw [q] at hb
          have hlen : l.length = (whl e.1).length := by rw [whl_len]; exact hb.symm
          refine ⟨e, he, list_of_lfn hlen (fun j hj => ?_)⟩
          have := (cp_full (lfn l) l.length (whl e.1) 0 (by rw [whl_len]; unfold cmn at hf; omega) j (by omega)).2
          rw [Nat.zero_add] at this
          rw [this, lfn_get _ j (by omega)]
        · rw [q] at ha; cases ha
        · rw [q] at ha; cases ha
      · have e1 : lfn l 1 = 35 := by omega
        right
        have hn := rd_num (by omega) e0 e1
        have key : ∀ (base c a : Nat), Bas base c → 2 ≤ a → a ≤ l.length → rd (lfn l) l.length = rnL base c (l.drop a) a 0 → 4 ≤ l.length ∧ l.getLast? = some 59 := by
          intro base c a hbs h2a hal hr
          rw [hr] at ha hb
          have hdl : a + (l.drop a).length = l.length := by rw [List.length_drop]; omega
          obtain ⟨mid, hm⟩ := rnL_last _ a 0 ha (by rw [hb, hdl])
          have hlast : l.getLast? = some 59 := by
            rw [← List.take_append_drop a l, hm]
            simp
          refine ⟨?_, hlast⟩
          cases mid with
          | nil =>
            exfalso
            rw [hm, List.nil_append, rnL_cons, if_neg (by rw [hbs.semi]; decide), if_neg (by rw [isT00]; simp)] at ha
            cases ha
          | cons y r =>
            have := congrArg List.length hm
            simp at this
            omega
        by_cases q : 2 < l.length ∧ lfn l 2 = 120
        · have := key 16 5 3 (.inr ⟨rfl, rfl⟩) (by omega) (by omega) (hn.1 q)
          exact ⟨this.1, take2 (by omega) e0 e1, this.2⟩
        · have := key 10 4 2 (.inl ⟨rfl, rfl⟩) (by omega) (by omega) (hn.2 q)
          exact ⟨this.1, take2 (by omega) e0 e1, this.2⟩
theorem name_last : ∀ e ∈ nmT, (whl e.1).getLast? = some 59 := by decide +kernel
theorem okR_last {l : List UInt8} (h : okR l) : l.getLast? = some 59 := by
  rcases okR_cases h with ⟨e, he, rfl⟩ | h
  · exact name_last e he
  · exact h.2.2
/-- what waits: nothing, an &, the beginning of a name, or a number's -/
theorem wtR_cases {l : List UInt8} (h : wtR l) : l = [] ∨ l = [38] ∨ (∃ e ∈ nmT, l.length < (whl e.1).length ∧ (whl e.1).take l.length = l) ∨ l.take 2 = [38, 35] := by
  unfold wtR at h
  by_cases h0 : 0 < l.length ∧ lfn l 0 ≠ 38
  · unfold rd at h; rw [if_pos h0] at h; cases h
  · by_cases h1 : l.length < 2
    · match l, h1 with
      | [], _ => exact .inl rfl
      | [a], _ =>
        right; left
        have : lfn [a] 0 = 38 := by
          by_cases q : lfn [a] 0 = 38
          · exact q
          · exact absurd ⟨by simp, q⟩ h0
        rw [show a = 38 from UInt8.toNat_inj.1 this]
    · have e0 : lfn l 0 = 38 := by
        by_cases q : lfn l 0 = 38
        · exact q
        · exact absurd ⟨by omega, q⟩ h0
      by_cases h2 : lfn l 1 ≠ 35
      · have e : rd (lfn l) l.length = nm (lfn l) l.length := by
          unfold rd
          rw [if_neg h0, if_neg h1, if_pos h2]
        rw [e] at h
        rcases nm_ways (lfn l) l.length with ⟨e, _, _, q, _⟩ | ⟨hno, hmx, _⟩ | ⟨_, _, q⟩
        · rw [q] at h; cases h
        · obtain ⟨e, he, hc⟩ := mxN_at (lfn l) l.length nmT (by decide)
          rw [hmx] at hc
          have hle := cmn_le (lfn l) l.length e.1
          have hnf := hno e he
          have hlt : l.length < (whl e.1).length := by rw [whl_len]; omega
          refine .inr (.inr (.inl ⟨e, he, hlt, ?_⟩))
          refine (list_of_lfn (by rw [List.length_take]; omega) (fun j hj => ?_)).symm
          have := cp_upto (lfn l) l.length (whl e.1) 0 j (by omega) (by show 0 + j < cmn (lfn l) l.length e.1; omega)
          rw [Nat.zero_add] at this
          rw [this, lfn_get _ j (by rw [List.length_take]; omega), List.getElem_take]
        · rw [q] at h; cases h
      · exact .inr (.inr (.inr (take2 (by omega) e0 (by omega))))
theorem pre_wt {l : List UInt8} {e : List UInt8 × Nat} (he : e ∈ nmT) (hl : l.length < (whl e.1).length) (ht : (whl e.1).take l.length = l) : wtR l := by
  have h := name_rd e he
  have := rd_ahead (f := lfn (whl e.1)) (n := (whl e.1).length) (i := l.length) (by rw [h]; show _ < e.1.length + 2; rw [whl_len] at hl; exact hl)
  unfold wtR
  rw [rd_congr (g := lfn (whl e.1)) (fun j hj => by
    rw [lfn_get l j hj, lfn_get _ j (by omega)]
    congr 1
    have h9 : (((whl e.1).take l.length)[j]?) = l[j]? := by rw [ht]
    rw [List.getElem?_take, if_pos hj, List.getElem?_eq_getElem hj, List.getElem?_eq_getElem (by omega)] at h9
    exact (Option.some.inj h9).symm)]
  exact this
theorem name_no59 : ∀ e ∈ nmT, ∀ k : Fin 7, k.val < (whl e.1).length → ((whl e.1).take k.val).getLast? ≠ some 59 := by decide +kernel
theorem wtR_last {l : List UInt8} (h : wtR l) : l.getLast? ≠ some 59 := by
  rcases wtR_cases h with rfl | rfl | ⟨e, he, hl, ht⟩ | ht
  · simp
  · decide
  · have := name_no59 e he ⟨l.length, by have := (nm_len he).1; rw [whl_len] at hl; omega⟩ hl
    dsimp only at this
    rw [ht] at this
    exact this
  · obtain ⟨h2, e0, e1⟩ := take2_inv ht
    have hn := rd_num h2 e0 e1
    have key : ∀ (base c a : Nat), Bas base c → 2 ≤ a → a ≤ l.length → (a = l.length → l.getLast? ≠ some 59) → rd (lfn l) l.length = rnL base c (l.drop a) a 0 → l.getLast? ≠ some 59 := by
      intro base c a hbs h2a hal hend hr
      unfold wtR at h
      rw [hr] at h
      by_cases q : a = l.length
      · exact hend q
      · have := waitL_last hbs _ a 0 (by omega) h
        rw [← List.take_append_drop a l, List.getLast?_append]
        have hne : (l.drop a).getLast? ≠ none := by
          rw [ne_eq, List.getLast?_eq_none_iff]
          intro e
          have := congrArg List.length e
          simp at this
          omega
        cases hg : (l.drop a).getLast? with
        | none => exact absurd hg hne
        | some z =>
          rw [hg] at this
          simpa using this
    have e1' : ∀ j (hj : j + 1 = l.length) (z : UInt8), lfn l j = z.toNat → z ≠ 59 → l.getLast? ≠ some 59 := by
      intro j hj z hz hzn e
      rw [List.getLast?_eq_getElem?, show l.length - 1 = j by omega, List.getElem?_eq_getElem (by omega)] at e
      have h9 := Option.some.inj e
      rw [lfn_get l j (by omega), h9] at hz
      exact hzn (UInt8.toNat_inj.1 hz).symm
    by_cases q : 2 < l.length ∧ lfn l 2 = 120
    · exact key 16 5 3 (.inr ⟨rfl, rfl⟩) (by omega) (by omega) (fun e => e1' 2 (by omega) 120 q.2 (by decide)) (hn.1 q)
    · exact key 10 4 2 (.inl ⟨rfl, rfl⟩) (by omega) (by omega) (fun e => e1' 1 (by omega) 35 e1 (by decide)) (hn.2 q)
end Rf
end Go.Proofs.YtbbbokkfhfmoeaaDoor
