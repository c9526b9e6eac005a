/-
  Plain mathematics: are bytes characters all through, step by step; what a U+FFFD of Go's range stands for.
-/
import Derived.Test.YtbbbokkfhfmoeaaDoorChName
import Derived.Lib.ValidLaws
import Derived.Lib.TrimUEq
namespace Go.Proofs.YtbbbokkfhfmoeaaDoor.Ch
open Go.Lib

/-- are the bytes from a place on characters all through? -/
def V (f : Nat → Nat) (n p : Nat) : Bool := validD ((Rn.arr f n).data.toList.drop p)
theorem V_zero (f : Nat → Nat) (n : Nat) : V f n 0 = valid f n := by simp [V, valid]
theorem arr_len (f : Nat → Nat) (n : Nat) : (Rn.arr f n).data.toList.length = n := by simp [Rn.arr]
theorem V_end (f : Nat → Nat) (n p : Nat) (h : ¬ p < n) : V f n p = true := by
  unfold V
  rw [List.drop_eq_nil_of_le (by rw [arr_len]; omega)]
  rfl
theorem V_step (f : Nat → Nat) (n p : Nat) (hf : ∀ j, f j < 256) (h : p < n) :
    V f n p = if (Rn.dec (Rn.off f p) (n - p)).1 = 65533 ∧ (Rn.dec (Rn.off f p) (n - p)).2 = 1 then false else V f n (p + (Rn.dec (Rn.off f p) (n - p)).2) := by
  unfold V
  rw [validD_step _ (by intro e; have := congrArg List.length e; rw [List.length_drop, arr_len] at this; simp at this; omega), decodeL_drop, Rn.arr_decode f n p hf h, List.drop_drop]
/-- .. by the front -/
theorem dec_wrong (f : Nat → Nat) (n : Nat) (hf : ∀ j, f j < 256) (h : 0 < n) : ((Rn.dec f n).1 = 65533 ∧ (Rn.dec f n).2 = 1) ↔ Rn.whole f n = false := by
  rw [Rn.dec_whole f n hf h]
  cases hw : Rn.whole f n
  · simp
  · simp only [if_true, Bool.true_eq_false, iff_false]
    rintro ⟨h1, h2⟩
    have := Rn.whole_one f n h2
    omega
/-- U+FFFD that is written out -/
theorem dec_fffd (f : Nat → Nat) (n : Nat) (hf : ∀ j, f j < 256) (h : 0 < n) (hr : (Rn.dec f n).1 = 65533) :
    ((Rn.dec f n).2 = 1 ∧ ¬ (2 < n ∧ f 0 = 239 ∧ f 1 = 191 ∧ f 2 = 189)) ∨ ((Rn.dec f n).2 = 3 ∧ 2 < n ∧ f 0 = 239 ∧ f 1 = 191 ∧ f 2 = 189) := by
  have f0 := hf 0
  have f1 := hf 1
  have f2 := hf 2
  have f3 := hf 3
  rw [Rn.dec_whole f n hf h] at hr ⊢
  cases hw : Rn.whole f n
  · simp only [Bool.false_eq_true, if_false]
    refine .inl ⟨trivial, ?_⟩
    rintro ⟨h1, h2, h3, h4⟩
    rw [Rn.whole, decide_eq_false_iff_not] at hw
    apply hw
    have es : Rn.fs f n = 3 := by
      unfold Rn.fs
      rw [if_neg (by omega), h2]
      rfl
    rw [es]
    refine ⟨by omega, ?_⟩
    unfold Rn.fk
    rw [Rn.len3 (by rw [h2]; rfl), h2, h3, h4]
    exact ⟨h1, by decide, by decide, by decide, by decide⟩
  · rw [hw] at hr
    simp only [if_true] at hr ⊢
    rw [Rn.whole, decide_eq_true_eq] at hw
    have es : Rn.fs f n = Rn.size (f 0) := by
      unfold Rn.fs
      rw [if_neg (by omega)]
    rw [es] at hw ⊢
    unfold Rn.fv Rn.val at hr
    unfold Rn.fk at hw
    rcases Rn.size_cases (f 0) with ⟨e, c⟩ | ⟨e, c, d, _⟩ | ⟨e, c, d, _⟩ | ⟨e, c, d, hh⟩ | ⟨e, c⟩
    · rw [e] at hr; simp at hr; omega
    · rw [e] at hr; simp at hr; omega
    · rw [e] at hr hw ⊢
      rw [Rn.len3 e] at hw
      simp at hr
      right
      have hx := hw.2
      refine ⟨rfl, by omega, ?_⟩
      have hlo : 128 ≤ f 1 ∧ f 1 ≤ 191 := by
        have h1 := hx.2.1
        have h2 := hx.2.2.1
        unfold Rn.lo at h1
        unfold Rn.hi at h2
        constructor
        · split at h1
          · omega
          · split at h1 <;> omega
        · split at h2
          · omega
          · split at h2 <;> omega
      omega
    · rw [e] at hr hw
      rw [Rn.len4 e] at hw
      simp at hr
      exfalso
      have hx := hw.2
      have hlo : (f 0 = 240 → 144 ≤ f 1) ∧ f 1 ≤ 191 ∧ 128 ≤ f 1 := by
        rcases hh with ⟨a, b, c⟩ | ⟨a, b, c⟩ | ⟨a, b, c, d⟩ <;> omega
      omega
    · rw [e] at hw; omega
end Go.Proofs.YtbbbokkfhfmoeaaDoor.Ch
