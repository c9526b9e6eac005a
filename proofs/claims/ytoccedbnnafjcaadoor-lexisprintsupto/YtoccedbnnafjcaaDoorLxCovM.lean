/-
  The mathematics of LexisCover: words lie one behind the other, blanks alone between them.
-/
import Derived.Test.YtoccedbnnafjcaaDoorLxWdsM
import Derived.Test.YtoccedbnnafjcaaDoorLxLead
namespace Go.Proofs.YtoccedbnnafjcaaDoor
open Go.Lib
namespace Lx
open Rn
open _root_.Go.Proofs.YtoccedbnnafjcaaDoor.Fd
def bl (v : Nat) : Prop := v = 9 ∨ v = 10 ∨ v = 13 ∨ v = 32
/-- a word stands where its place says -/
structure Wok (f : Nat → Nat) (n p : Nat) (x : Wd) : Prop where
  le : p + x.wd ≤ n
  pos : 0 < x.wd
  kind : (x.k ≠ 1 ∧ x.k ≠ 2 ∧ x.tx = arr (off f p) x.wd) ∨ (x.k = 1 ∧ 2 ≤ x.wd ∧ x.tx = arr (off f (p + 1)) (x.wd - 2) ∧ f p = f (p + x.wd - 1)) ∨
    (x.k = 2 ∧ (∀ j, j < x.wd → 48 ≤ f (p + j) ∧ f (p + j) ≤ 57) ∧ (p + x.wd < n → ¬ (48 ≤ f (p + x.wd) ∧ f (p + x.wd) ≤ 57)))
/-- words, blanks alone between them, from a place on up to the end -/
def Cov (f : Nat → Nat) (n : Nat) : Nat → List (Nat × Wd) → Prop
  | at_, [] => at_ ≤ n ∧ ∀ j, at_ ≤ j → j < n → bl (f j)
  | at_, (p, x) :: l => at_ ≤ p ∧ p < n ∧ (∀ j, at_ ≤ j → j < p → bl (f j)) ∧ Wok f n p x ∧ Cov f n (p + x.wd) l
theorem pre_arr : ∀ (l : List Nat) (f : Nat → Nat) (n : Nat), pre f n l = true → bt l = arr f l.length
  | [], f, n, _ => rfl
  | c :: l, f, n, h => by
    unfold pre at h
    simp only [Bool.and_eq_true, decide_eq_true_eq] at h
    obtain ⟨⟨h1, h2⟩, h3⟩ := h
    have ih := pre_arr l (off f 1) (n - 1) h3
    apply ByteArray.ext
    have e := congrArg (fun b : ByteArray => b.data.toList) ih
    simp only [bt, arr] at e ⊢
    apply Array.ext'
    simp only [Array.toList_ofFn, List.map_cons, List.length_cons, List.ofFn_succ] at e ⊢
    rw [e]
    simp only [off, List.cons.injEq]
    refine ⟨by simp [h2], ?_⟩
    simp [Nat.add_comm]
theorem rdSgn_ok {f : Nat → Nat} {n : Nat} : ∀ (l : List (List Nat)), (rdSgn f n l).ok = true → (rdSgn f n l).k = 3 ∧ (rdSgn f n l).tx = arr f (rdSgn f n l).wd
  | [], h => by simp [rdSgn] at h
  | s :: l, h => by
    unfold rdSgn at h ⊢
    by_cases c : pre f n s = true
    · rw [if_pos c]
      exact ⟨rfl, pre_arr s f n c⟩
    · rw [if_neg c] at h ⊢
      exact rdSgn_ok l h
theorem rd_wok {f : Nat → Nat} {n : Nat} (hf : ∀ j, f j < 256) (hn : 0 < n) (ho : (rd f n).ok = true) : Wok f n 0 (rd f n) := by
  obtain ⟨a1, a2, _⟩ := rd_spec hf hn
  refine ⟨by omega, a2 ho, ?_⟩
  unfold rd at ho ⊢
  simp only [off_zero, Nat.zero_add]
  split
  · exact .inl ⟨by simp, by simp, rfl⟩
  · next h1 =>
    rw [if_neg h1] at ho
    split
    · next h2 =>
      rw [if_pos h2] at ho
      unfold rdNum at ho ⊢
      by_cases c1 : 1000000 < num f (lead f n 4)
      · rw [if_pos c1] at ho; cases ho
      · rw [if_neg c1] at ho ⊢
        by_cases c2 : 0 < lead (off f (lead f n 4)) (n - lead f n 4) 2
        · rw [if_pos c2] at ho; cases ho
        · rw [if_neg c2]
          exact .inr (.inr ⟨rfl, fun j hj => lead_digit hf hj, fun h => lead_digit_end hf h⟩)
    · next h2 =>
      rw [if_neg h2] at ho
      split
      · next h3 =>
        rw [if_pos h3] at ho
        unfold rdTxt at ho ⊢
        by_cases c : idx (off f 1) (n - 1) (f 0) < n - 1
        · rw [if_pos c]
          obtain ⟨_, _, a3⟩ := idx_spec (off f 1) (n - 1) (f 0)
          have e := a3 c
          refine .inr (.inl ⟨rfl, by show 2 ≤ idx (off f 1) (n - 1) (f 0) + 2; omega, ?_, ?_⟩)
          · show arr (off f 1) (idx (off f 1) (n - 1) (f 0)) = arr (off f 1) (idx (off f 1) (n - 1) (f 0) + 2 - 2)
            rw [Nat.add_sub_cancel]
          · show f 0 = f (idx (off f 1) (n - 1) (f 0) + 2 - 1)
            rw [show idx (off f 1) (n - 1) (f 0) + 2 - 1 = 1 + idx (off f 1) (n - 1) (f 0) by omega]
            exact e.symm
        · rw [if_neg c] at ho; cases ho
      · next h3 =>
        rw [if_neg h3] at ho
        obtain ⟨e1, e2⟩ := rdSgn_ok sgs ho
        exact .inl ⟨by rw [e1]; decide, by rw [e1]; decide, e2⟩
theorem wok_off {f : Nat → Nat} {n p : Nat} {x : Wd} (hp : p ≤ n) (h : Wok (off f p) (n - p) 0 x) : Wok f n p x := by
  obtain ⟨h1, h2, h3⟩ := h
  refine ⟨by omega, h2, ?_⟩
  rcases h3 with ⟨a, b, c⟩ | ⟨a, b, c, d⟩ | ⟨a, b, c⟩
  · exact .inl ⟨a, b, by rw [off_zero] at c; exact c⟩
  · refine .inr (.inl ⟨a, b, ?_, ?_⟩)
    · rw [off_off] at c; exact c
    · have e : f (p + 0) = f (p + (0 + x.wd - 1)) := d
      rw [Nat.add_zero, Nat.zero_add] at e
      rw [e, show p + (x.wd - 1) = p + x.wd - 1 by omega]
  · refine .inr (.inr ⟨a, fun j hj => ?_, fun h => ?_⟩)
    · have := b j hj
      simp only [off, Nat.zero_add] at this
      exact this
    · have := c (by omega)
      simp only [off, Nat.zero_add] at this
      exact this
theorem wds_cov {f : Nat → Nat} {n : Nat} (hf : ∀ j, f j < 256) : ∀ (k at_ p : Nat), at_ ≤ p → p ≤ n → n ≤ p + k → (∀ j, at_ ≤ j → j < p → bl (f j)) → (wds f n k p).2 = none → Cov f n at_ (wds f n k p).1
  | 0, at_, p, h1, h2, h3, hb, _ => by
    obtain rfl : p = n := by omega
    exact ⟨h1, hb⟩
  | k + 1, at_, p, h1, h2, h3, hb, hn => by
    by_cases h : p < n
    · cases ho : (rd (off f p) (n - p)).ok
      · rw [wds_bad h ho] at hn; cases hn
      · rw [wds_ok h ho] at hn ⊢
        obtain ⟨a1, a2, a3, _⟩ := nxt_spec hf h ho
        have hw := wok_off (by omega) (rd_wok (f := off f p) (n := n - p) (fun _ => hf _) (by omega) ho)
        refine ⟨h1, h, hb, hw, wds_cov hf k _ _ a2 a3 (by omega) (fun j j1 j2 => ?_) hn⟩
        have := lead_blank (f := off f (p + (rd (off f p) (n - p)).wd)) (n := n - (p + (rd (off f p) (n - p)).wd)) (j := j - (p + (rd (off f p) (n - p)).wd)) (fun _ => hf _) (by unfold nxt at j2; omega)
        simp only [off] at this
        rw [show p + (rd (off f p) (n - p)).wd + (j - (p + (rd (off f p) (n - p)).wd)) = j by omega] at this
        exact this
    · obtain rfl : p = n := by omega
      rw [wds_end _ _ _ _ h]
      exact ⟨h1, hb⟩
theorem wdls_get (f : Nat → Nat) (n : Nat) : ∀ (L : List (Nat × Wd)) (i : Nat) (x : Nat × Wd) (j : Nat), L[i]? = some x → j < 7 → (wdls f n L)[i * 7 + j]? = (wdl f n x)[j]?
  | [], i, x, j, h, _ => by simp at h
  | y :: L, 0, x, j, h, hj => by
    obtain rfl : y = x := by simpa using h
    have e : wdls f n (y :: L) = wdl f n y ++ wdls f n L := by simp [wdls]
    rw [e, Nat.zero_mul, Nat.zero_add, List.getElem?_append_left (by rw [wdl_length]; exact hj)]
  | y :: L, i + 1, x, j, h, hj => by
    have e : wdls f n (y :: L) = wdl f n y ++ wdls f n L := by simp [wdls]
    rw [e, List.getElem?_append_right (by rw [wdl_length]; omega), wdl_length, show (i + 1) * 7 + j - 7 = i * 7 + j by omega]
    exact wdls_get f n L i x j (by simpa using h) hj
theorem cov_le {f : Nat → Nat} {n : Nat} : ∀ {L : List (Nat × Wd)} {at_ : Nat}, Cov f n at_ L → at_ ≤ n
  | [], _, h => h.1
  | (p, x) :: L, _, h => by have := h.1; have := h.2.1; omega
theorem wds_len {f : Nat → Nat} {n : Nat} (hf : ∀ j, f j < 256) : ∀ (k p : Nat), p ≤ n → p + (wds f n k p).1.length ≤ n
  | 0, p, h => by simpa [wds] using h
  | k + 1, p, h => by
    by_cases c : p < n
    · cases ho : (rd (off f p) (n - p)).ok
      · rw [wds_bad c ho]; simpa using h
      · rw [wds_ok c ho]
        obtain ⟨a1, a2, a3, _⟩ := nxt_spec hf c ho
        have := wds_len hf k _ a3
        simp only [List.length_cons]
        omega
    · rw [wds_end _ _ _ _ c]; simpa using h
theorem words_len {f : Nat → Nat} {n : Nat} (hf : ∀ j, f j < 256) : (words f n).1.length ≤ n := by
  have := wds_len hf n (lead f n 1) (lead_le hf)
  unfold words
  omega
theorem words_cov {f : Nat → Nat} {n : Nat} (hf : ∀ j, f j < 256) (h : (words f n).2 = none) : Cov f n 0 (words f n).1 :=
  wds_cov hf n 0 (lead f n 1) (Nat.zero_le _) (lead_le hf) (by omega) (fun _ _ hj => lead_blank hf hj) h
end Lx
end Go.Proofs.YtoccedbnnafjcaaDoor
