/-
  What waits can be gone on with: the mathematics of gimletlaw05.RefsGoOn.
-/
import Derived.Test.YtbbbokkfhfmoeaaDoorRfLawCuts
import Derived.Test.YtbbbokkfhfmoeaaDoorRfDig
namespace Go.Proofs.YtbbbokkfhfmoeaaDoor
open Go.RowKit Go.Lib

namespace Rf
/-- what is tried behind -/
def rests : List (List UInt8) := [[38, 97, 109, 112, 59], [97, 109, 112, 59], [109, 112, 59], [112, 59], [59], [108, 116, 59], [116, 59], [103, 116, 59], [113, 117, 111, 116, 59], [117, 111, 116, 59], [111, 116, 59], [97, 112, 111, 115, 59], [112, 111, 115, 59], [111, 115, 59], [115, 59], [54, 53, 59], [53, 59], [48, 59], [48, 48, 59], [48, 48, 48, 59], [120, 52, 49, 59], [52, 49, 59]]
theorem isT0 (v : Nat) : Ch.isT Ch.tab 0 (v : Int) = decide ((9 ≤ v ∧ v ≤ 10) ∨ v = 13 ∨ (32 ≤ v ∧ v ≤ 55295) ∨ (57344 ≤ v ∧ v ≤ 65533) ∨ (65536 ≤ v ∧ v ≤ 1114111)) := by
  have e : Ch.isT Ch.tab 0 (v : Int) = Ch.isR Ch.rg0 (v : Int) := by rw [← Ch.rg_0]; exact Ch.isT_eq Ch.tab 0 v
  rw [e, Bool.eq_iff_iff]
  simp only [Ch.rg0, Ch.isR, decide_eq_true_eq]
  repeat' split
  all_goals simp
  all_goals omega
theorem two_lfn (f : Nat → Nat) (n : Nat) (r : List UInt8) (j : Nat) (hj : j < r.length) : two f (lfn r) n (n + j) = (r[j]'hj).toNat := by
  unfold two
  rw [if_neg (by omega), show n + j - n = j by omega]
  unfold lfn
  rw [List.getElem?_eq_getElem hj]
  rfl
theorem two_low (f g : Nat → Nat) (n j : Nat) (hj : j < n) : two f g n j = f j := by unfold two; rw [if_pos hj]
/-- rn of bytes that are a list's from a place on -/
theorem rn_tail (F : Nat → Nat) (base c : Nat) : ∀ (r : List UInt8) (a v : Nat), (∀ j (h : j < r.length), F (a + j) = (r[j]'h).toNat) → rn F base c r.length a v = rnL base c r a v
  | [], a, v, _ => rfl
  | x :: r, a, v, h => by
    show rn F base c (r.length + 1) a v = _
    rw [rn_succ]
    have h0 : F a = x.toNat := h 0 (by simp)
    rw [h0, rn_tail F base c r (a + 1) _ (fun j hj => by
      have := h (j + 1) (by simpa using hj)
      rw [show a + 1 + j = a + (j + 1) by omega]
      exact this)]
    rfl
/-- a number that waits: its digits come to something, and what stands behind goes on from there -/
theorem rn_goes (f : Nat → Nat) (base c : Nat) : ∀ (k a v : Nat), v ≤ 1114111 → (rn f base c k a v).2.2 = 1 → ∃ v', v' ≤ 1114111 ∧ ∀ (F : Nat → Nat) (t : Nat), (∀ j, j < a + k → F j = f j) → rn F base c (k + t) a v = rn F base c t (a + k) v'
  | 0, a, v, hv, _ => ⟨v, hv, fun F t _ => by rw [Nat.zero_add]; rfl⟩
  | k + 1, a, v, hv, h => by
    rw [rn_succ] at h
    by_cases h1 : isD c (f a) = true
    · rw [if_pos h1] at h
      by_cases h2 : 1114111 < v * base + dv (f a)
      · rw [if_pos h2] at h; cases h
      · rw [if_neg h2] at h
        obtain ⟨v', hv', hg⟩ := rn_goes f base c k (a + 1) _ (by omega) h
        refine ⟨v', hv', fun F t hF => ?_⟩
        rw [show k + 1 + t = (k + t) + 1 by omega, rn_succ, hF a (by omega), if_pos h1, if_neg h2, hg F t (fun j hj => hF j (by omega)), show a + 1 + k = a + (k + 1) by omega]
    · rw [if_neg h1] at h
      by_cases h2 : f a = 59 ∧ Ch.isT Ch.tab 0 (v : Int) = true
      · rw [if_pos h2] at h; cases h
      · rw [if_neg h2] at h; cases h
theorem rnL_semi {base c : Nat} (hb : Bas base c) (a v : Nat) (h : Ch.isT Ch.tab 0 (v : Int) = true) : rnL base c [59] a v = (v, a + 1, 0) := by
  have h59 : isD c (59 : UInt8).toNat = false := by rcases hb with ⟨_, rfl⟩ | ⟨_, rfl⟩ <;> decide +kernel
  show (if _ then _ else _) = _
  rw [if_neg (by rw [h59]; decide), if_pos ⟨rfl, h⟩]
theorem rnL_nought {base c : Nat} (hb : Bas base c) (r : List UInt8) (a v : Nat) (h : v * base ≤ 1114111) : rnL base c (48 :: r) a v = rnL base c r (a + 1) (v * base) := by
  have h48 := hb.ch (k := 0) (by rcases hb with ⟨rfl, _⟩ | ⟨rfl, _⟩ <;> omega)
  have hc : ch 0 = 48 := by decide
  rw [hc] at h48
  rw [rnL_dig _ _ _ _ h48.2, h48.1, if_neg (by omega)]
  rfl
theorem num_rest {base c : Nat} (hb : Bas base c) (v a : Nat) (hv : v ≤ 1114111) : ∃ r ∈ rests, (∃ x, rnL base c r a v = (x, a + r.length, 0)) ∧ (r[0]?.getD 0).toNat ≠ 120 ∧ r ≠ [] := by
  by_cases h : Ch.isT Ch.tab 0 (v : Int) = true
  · exact ⟨[59], by decide, ⟨v, rnL_semi hb a v h⟩, by decide, by decide⟩
  · rw [isT0] at h
    simp only [decide_eq_true_eq] at h
    by_cases h0 : v = 0
    · subst h0
      rcases hb with ⟨rfl, rfl⟩ | ⟨rfl, rfl⟩
      · refine ⟨[54, 53, 59], by decide, ⟨65, ?_⟩, by decide, by decide⟩
        rw [rnL_dig _ _ _ _ (by decide +kernel), if_neg (by decide), rnL_dig _ _ _ _ (by decide +kernel), if_neg (by decide)]
        exact rnL_semi (.inl ⟨rfl, rfl⟩) _ 65 (by rw [isT0]; decide)
      · refine ⟨[52, 49, 59], by decide, ⟨65, ?_⟩, by decide, by decide⟩
        rw [rnL_dig _ _ _ _ (by decide +kernel), if_neg (by decide), rnL_dig _ _ _ _ (by decide +kernel), if_neg (by decide)]
        exact rnL_semi (.inr ⟨rfl, rfl⟩) _ 65 (by rw [isT0]; decide)
    · by_cases h1 : Ch.isT Ch.tab 0 ((v * base : Nat) : Int) = true
      · refine ⟨[48, 59], by decide, ⟨v * base, ?_⟩, by decide, by decide⟩
        have hle : v * base ≤ 1114111 := by rw [isT0] at h1; simp only [decide_eq_true_eq] at h1; omega
        rw [rnL_nought hb _ _ _ hle, rnL_semi hb _ _ h1]
        rfl
      · have h2 : Ch.isT Ch.tab 0 ((v * base * base : Nat) : Int) = true ∧ v * base ≤ 1114111 := by
          rw [isT0] at h1 ⊢
          simp only [decide_eq_true_eq] at h1 ⊢
          rcases hb with ⟨rfl, _⟩ | ⟨rfl, _⟩ <;> omega
        refine ⟨[48, 48, 59], by decide, ⟨v * base * base, ?_⟩, by decide, by decide⟩
        have hle : v * base * base ≤ 1114111 := by have := h2.1; rw [isT0] at this; simp only [decide_eq_true_eq] at this; omega
        rw [rnL_nought hb _ _ _ h2.2, rnL_nought hb _ _ _ hle, rnL_semi hb _ _ h2.1]
        rfl
theorem name_rests : ∀ e ∈ nmT, ∀ k : Fin 7, k.val ≤ e.1.length + 1 → 1 ≤ k.val ∨ e.2 = 38 → (whl e.1).drop k.val ∈ rests := by decide +kernel
theorem name_rd : ∀ e ∈ nmT, rd (lfn (whl e.1)) (whl e.1).length = (e.2, e.1.length + 2, 0) := by decide +kernel
theorem mxN_at (f : Nat → Nat) (n : Nat) : ∀ t : List (List UInt8 × Nat), t ≠ [] → ∃ e ∈ t, cmn f n e.1 = mxN f n (fun _ => false) t
  | [], h => absurd rfl h
  | x :: t, _ => by
    have e0 : mxN f n (fun _ => false) (x :: t) = max (cmn f n x.1) (mxN f n (fun _ => false) t) := by
      show max (if false = true then 0 else _) _ = _
      rw [if_neg (by decide)]
    by_cases ht : t = []
    · subst ht
      exact ⟨x, by simp, by rw [e0]; show _ = max _ 0; omega⟩
    · obtain ⟨e, he, hm⟩ := mxN_at f n t ht
      by_cases q : mxN f n (fun _ => false) t ≤ cmn f n x.1
      · exact ⟨x, by simp, by rw [e0]; omega⟩
      · exact ⟨e, List.mem_cons_of_mem _ he, by rw [e0]; omega⟩
theorem cp_upto (f : Nat → Nat) (n : Nat) : ∀ (l : List UInt8) (a : Nat), ∀ j (h : j < l.length), a + j < cp f n l a → f (a + j) = (l[j]'h).toNat
  | [], _, _, h, _ => by simp at h
  | x :: r, a, j, h, hc => by
    unfold cp at hc
    split at hc
    · next q =>
      cases j with
      | zero => exact q.2
      | succ j =>
        have := cp_upto f n r (a + 1) j (by simpa using h) (by omega)
        rw [show a + 1 + j = a + (j + 1) by omega] at this
        exact this
    · omega
/-- the beginning of a name -/
theorem name_goes {f : Nat → Nat} {n : Nat} {e : List UInt8 × Nat} (he : e ∈ nmT) (hn : n ≤ e.1.length + 1) (h1 : 1 ≤ n ∨ e.2 = 38) (hf : ∀ j (h : j < (whl e.1).length), j < n → f j = ((whl e.1)[j]'h).toNat) : ∃ r ∈ rests, ∃ x, rd (two f (lfn r) n) (n + r.length) = (x, n + r.length, 0) := by
  have h4 := (nm_len he).1
  refine ⟨(whl e.1).drop n, name_rests e he ⟨n, by omega⟩ hn h1, e.2, ?_⟩
  have hl : n + ((whl e.1).drop n).length = (whl e.1).length := by rw [List.length_drop, whl_len]; omega
  rw [hl, rd_congr (g := lfn (whl e.1)) (fun j hj => ?_), name_rd e he, whl_len]
  by_cases q : j < n
  · rw [two_low _ _ _ _ q, hf j hj q]
    unfold lfn
    rw [List.getElem?_eq_getElem hj]
    rfl
  · obtain ⟨i, rfl⟩ : ∃ i, j = n + i := ⟨j - n, by omega⟩
    rw [two_lfn _ _ _ _ (by rw [List.length_drop]; omega), List.getElem_drop]
    unfold lfn
    rw [List.getElem?_eq_getElem hj]
    rfl
/-- what waits can be gone on with -/
theorem goes_on {f : Nat → Nat} {n : Nat} (h : (rd f n).2.2 = 1) : ∃ r ∈ rests, ∃ x, rd (two f (lfn r) n) (n + r.length) = (x, n + r.length, 0) := by
  have hamp : (([97, 109, 112], 38) : List UInt8 × Nat) ∈ nmT := by decide
  unfold rd at h
  by_cases h0 : 0 < n ∧ f 0 ≠ 38
  · rw [if_pos h0] at h; cases h
  · rw [if_neg h0] at h
    have e0 : 0 < n → f 0 = 38 := fun q => by
      by_cases p : f 0 = 38
      · exact p
      · exact absurd ⟨q, p⟩ h0
    by_cases h1 : n < 2
    · refine name_goes hamp (by show n ≤ 4; omega) (.inr rfl) (fun j hj hjn => ?_)
      obtain rfl : j = 0 := by omega
      rw [e0 (by omega)]
      rfl
    · rw [if_neg h1] at h
      by_cases h2 : f 1 ≠ 35
      · rw [if_pos h2] at h
        rcases nm_ways f n with ⟨e, he, _, q, _⟩ | ⟨hno, hmx, q⟩ | ⟨_, _, q⟩
        · rw [q] at h; cases h
        · obtain ⟨e, he, hc⟩ := mxN_at f n nmT (by decide)
          rw [hmx] at hc
          have := cmn_le f n e.1
          have hnf := hno e he
          refine name_goes he (by omega) (.inl (by omega)) (fun j hj hjn => ?_)
          have := cp_upto f n (whl e.1) 0 j hj (by show 0 + j < cmn f n e.1; omega)
          rw [Nat.zero_add] at this
          exact this
        · rw [q] at h; cases h
      · rw [if_neg h2] at h
        have e1 : f 1 = 35 := by omega
        unfold rdN at h
        by_cases h3 : 2 < n ∧ f 2 = 120
        · rw [if_pos h3] at h
          obtain ⟨v, hv, hg⟩ := rn_goes f 16 5 (n - 3) 3 0 (by omega) h
          obtain ⟨r, hr, ⟨x, hx⟩, _, hne⟩ := num_rest (.inr ⟨rfl, rfl⟩) v n hv
          refine ⟨r, hr, x, ?_⟩
          have hpos : 0 < r.length := by cases r with | nil => exact absurd rfl hne | cons _ _ => simp
          unfold rd
          rw [if_neg (fun q => q.2 (by rw [two_low _ _ _ _ (by omega)]; exact e0 (by omega))), if_neg (by omega), if_neg (fun q => q (by rw [two_low _ _ _ _ (by omega)]; exact e1))]
          unfold rdN
          rw [if_pos ⟨by omega, by rw [two_low _ _ _ _ h3.1]; exact h3.2⟩, show n + r.length - 3 = n - 3 + r.length by omega, hg _ r.length (fun j hj => two_low _ _ _ _ (by omega)), show 3 + (n - 3) = n by omega, rn_tail _ 16 5 r n v (fun j hj => two_lfn f n r j hj), hx]
        · rw [if_neg h3] at h
          obtain ⟨v, hv, hg⟩ := rn_goes f 10 4 (n - 2) 2 0 (by omega) h
          obtain ⟨r, hr, ⟨x, hx⟩, h120, hne⟩ := num_rest (.inl ⟨rfl, rfl⟩) v n hv
          refine ⟨r, hr, x, ?_⟩
          have hpos : 0 < r.length := by cases r with | nil => exact absurd rfl hne | cons _ _ => simp
          unfold rd
          rw [if_neg (fun q => q.2 (by rw [two_low _ _ _ _ (by omega)]; exact e0 (by omega))), if_neg (by omega), if_neg (fun q => q (by rw [two_low _ _ _ _ (by omega)]; exact e1))]
          unfold rdN
          have hno : ¬ (2 < n + r.length ∧ two f (lfn r) n 2 = 120) := by
            rintro ⟨_, q⟩
            by_cases p : 2 < n
            · rw [two_low _ _ _ _ p] at q
              exact h3 ⟨p, q⟩
            · obtain rfl : n = 2 := by omega
              have := two_lfn f 2 r 0 hpos
              rw [Nat.add_zero, q] at this
              rw [List.getElem?_eq_getElem hpos] at h120
              exact h120 this.symm
          rw [if_neg hno, show n + r.length - 2 = n - 2 + r.length by omega, hg _ r.length (fun j hj => two_low _ _ _ _ (by omega)), show 2 + (n - 2) = n by omega, rn_tail _ 10 4 r n v (fun j hj => two_lfn f n r j hj), hx]
end Rf
end Go.Proofs.YtbbbokkfhfmoeaaDoor
