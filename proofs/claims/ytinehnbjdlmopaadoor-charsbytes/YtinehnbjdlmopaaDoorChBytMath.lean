/-
  Plain mathematics: a character's bytes, cut anywhere, begin one of its class; what begins one of a class begins an allowed one.
-/
import Derived.Test.YtinehnbjdlmopaaDoorChBegMath
import Derived.Test.YtinehnbjdlmopaaDoorRnEnc
namespace Go.Proofs.YtinehnbjdlmopaaDoor.Ch
open Go.Lib

theorem ovR_of {l : List (Nat × Nat)} {a h r : Int} (hr : isR l r = true) (h1 : a ≤ r) (h2 : r ≤ h) : ovR l a h = true := by
  induction l with
  | nil => simp [isR] at hr
  | cons p t ih =>
    rw [ovR_cons]
    rw [isR_cons] at hr
    by_cases c : (p.1 : Int) ≤ r ∧ r ≤ (p.2 : Int)
    · rw [if_pos (by omega)]
    · rw [if_neg c] at hr
      split
      · rfl
      · exact ih hr
theorem ovR_iff (l : List (Nat × Nat)) (a h : Int) : ovR l a h = true ↔ ∃ p ∈ l, max (p.1 : Int) a ≤ min (p.2 : Int) h := by
  induction l with
  | nil => simp [ovR]
  | cons p t ih =>
    rw [ovR_cons]
    split
    · next c => simp [c]
    · next c =>
      rw [ih]
      simp only [List.mem_cons, exists_eq_or_imp, c, false_or]
/-- every class lies within the allowed characters -/
def inA (a : List (Nat × Nat)) : Bool := a.all fun p => rg0.any fun q => decide (q.1 ≤ p.1 ∧ p.2 ≤ q.2)
theorem rg_inA (c : Int) : inA (rg c) = true := by
  rcases rg_cases c with ⟨_, h⟩ | ⟨_, h⟩ | ⟨_, h⟩ | ⟨_, h⟩ | ⟨_, h⟩ | ⟨_, h⟩ | ⟨_, h⟩ <;> rw [h] <;> decide +kernel
theorem ovR_allowed (c a h : Int) (ho : ovR (rg c) a h = true) : ovR (rg 0) a h = true := by
  rw [rg_0]
  rw [ovR_iff] at ho ⊢
  obtain ⟨p, hp, h1⟩ := ho
  obtain ⟨q, hq, hh⟩ := List.any_eq_true.1 (List.all_eq_true.1 (rg_inA c) p hp)
  rw [decide_eq_true_eq] at hh
  exact ⟨q, hq, by omega⟩
theorem beg_allowed (c : Int) (f : Nat → Nat) (n : Nat) (hf : ∀ j, f j < 256) : (begP 0 f n || !begP c f n) = true := by
  rw [beg_eq c f n hf, beg_eq 0 f n hf]
  cases h : ovR (rg c) (span f n).1 (span f n).2
  · simp
  · rw [ovR_allowed c _ _ h]; rfl
/-- a character of a class is a character -/
theorem is_scal (c r : Int) (h : isT tab c r = true) : 0 ≤ r ∧ r ≤ 1114111 ∧ (r < 55296 ∨ 57343 < r) := by
  rw [isT_eq] at h
  have h' : isR (rg c) r = true := h
  have hs := rg_small c
  have hg := rg_gap c
  generalize rg c = l at *
  induction l with
  | nil => simp [isR] at h'
  | cons p t ih =>
    rw [isR_cons] at h'
    have hp := hs p (by simp)
    simp only [gapB, List.all_cons, Bool.and_eq_true, decide_eq_true_eq] at hg
    by_cases cc : (p.1 : Int) ≤ r ∧ r ≤ (p.2 : Int)
    · omega
    · rw [if_neg cc] at h'
      exact ih h' (fun q hq => hs q (by simp [hq])) (by simpa [gapB] using hg.2)
set_option maxRecDepth 100000 in
/-- the numbers that a beginning leaves open hold the character -/
theorem span_holds {g : Nat → Nat} {n v : Nat} (E : Rn.Enc g n v) (m : Nat) (h1 : 1 ≤ m) (hm : m ≤ n) (hg : ∀ j, g j < 256) : Rn.fk g m = m ∧ (span g m).1 ≤ (v : Int) ∧ (v : Int) ≤ (span g m).2 := by
  have hk : Rn.fk g m = m := by
    have e := Rn.fk_min g hm (by have := E.fs; have := E.pos; omega)
    rw [E.fk] at e
    omega
  refine ⟨hk, ?_⟩
  have hsm := same_all g m hg (by omega)
  unfold Same at hsm
  rw [if_pos hk] at hsm
  have hlow : low g m ≤ v ∧ v ≤ high g m := by
    have hlh := lo_hi (g 0)
    have hwh := E.whole
    have hkn := E.fk
    have hsz := E.fs
    cases E with
    | one hn h0 hv =>
      obtain rfl : m = 1 := by omega
      rw [low_1, high_1, val_1 (by omega), val_1 (by omega)]
      omega
    | two hn h0 h1' hv hv2 =>
      subst hn
      have hm' : m = 1 ∨ m = 2 := by omega
      obtain ⟨_, hb, _⟩ := len_all' hkn (by omega)
      have hb1 := hb (by omega)
      rcases hm' with rfl | rfl
      · rw [low_1, high_1, val_2 hsz, val_2 hsz]; omega
      · rw [low_2, high_2, val_2 hsz, val_2 hsz]; omega
    | three hn h0 h1' h2' hv hv2 hv3 =>
      subst hn
      have hm' : m = 1 ∨ m = 2 ∨ m = 3 := by omega
      obtain ⟨_, hb, _⟩ := len_all' hkn (by omega)
      have hb1 := hb (by omega)
      rcases hm' with rfl | rfl | rfl
      · rw [low_1, high_1, val_3 hsz, val_3 hsz]; omega
      · rw [low_2, high_2, val_3 hsz, val_3 hsz]; omega
      · rw [low_3, high_3, val_3 hsz, val_3 hsz]; omega
    | four hn h0 h1' h2' h3' hv hv2 =>
      subst hn
      have hm' : m = 1 ∨ m = 2 ∨ m = 3 ∨ m = 4 := by omega
      obtain ⟨_, hb, _⟩ := len_all' hkn (by omega)
      have hb1 := hb (by omega)
      rcases hm' with rfl | rfl | rfl | rfl
      · rw [low_1, high_1, val_4 hsz, val_4 hsz]; omega
      · rw [low_2, high_2, val_4 hsz, val_4 hsz]; omega
      · rw [low_3, high_3, val_4 hsz, val_4 hsz]; omega
      · rw [low_4, high_4, val_4 hsz]; omega
  rcases hsm.2 with h2 | ⟨h2, h3⟩ <;> rw [hsm.1, h2] <;> omega
/-- Begins of a character's bytes, cut anywhere -/
theorem beg_cut (c : Int) (r : Int) (h : isT tab c r = true) (m : Nat) (h1 : 1 ≤ m) (hm : m ≤ Rn.el r) : begP c (Rn.eb r) m = true := by
  obtain ⟨a1, a2, a3⟩ := is_scal c r h
  have E := Rn.eb_enc r
  have hw : (Rn.want r).toNat = r.toNat := by
    unfold Rn.want
    rw [if_neg (by omega)]
  rw [hw] at E
  obtain ⟨_, q1, q2⟩ := span_holds E m h1 hm (Rn.eb_lt r)
  rw [beg_eq c _ m (Rn.eb_lt r)]
  rw [isT_eq] at h
  exact ovR_of (r := r) h (by omega) (by omega)
/-- .. and of them and one byte more -/
theorem beg_long (c : Int) (r : Int) (f : Nat → Nat) (h : ∀ j, j < Rn.el r → f j = Rn.eb r j) : begP c f (Rn.el r + 1) = false := by
  unfold begP
  rw [if_neg]
  rintro ⟨_, hk⟩
  have hp := Rn.el_pos r
  have E := Rn.eb_enc r
  have hs := E.fs
  have h1 := Rn.fk_le_fs f (Rn.el r + 1)
  have e : Rn.fs f (Rn.el r + 1) = Rn.size (f 0) := by unfold Rn.fs; rw [if_neg (by omega)]
  rw [e, h 0 (by omega), hs] at h1
  omega
end Go.Proofs.YtinehnbjdlmopaaDoor.Ch
