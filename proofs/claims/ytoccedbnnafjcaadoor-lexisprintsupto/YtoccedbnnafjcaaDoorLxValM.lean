/-
  The mathematics of utf8.Valid: bytes below 128, and what a greater first byte asks of those behind it.
-/
import Derived.Test.YtoccedbnnafjcaaDoorLxMath
namespace Go.Proofs.YtoccedbnnafjcaaDoor
open Go.Lib
namespace Lx
open Rn
open _root_.Go.Proofs.YtoccedbnnafjcaaDoor.Fd
/-- are the bytes from k on characters all through? -/
def V (f : Nat → Nat) (n k : Nat) : Bool := vdF f n (n - k) k
theorem V_end (f : Nat → Nat) (n k : Nat) (h : ¬ k < n) : V f n k = true := vdF_end _ _ _ _ h
theorem V_whole {f : Nat → Nat} {n k s : Nat} (h : k < n) (hw : whole (off f k) (n - k) = true) (hs : fs (off f k) (n - k) = s) : V f n k = V f n (k + s) := by
  have hl := whole_lt hw
  unfold V
  obtain ⟨q, hq⟩ : ∃ q, n - k = q + 1 := ⟨n - k - 1, by omega⟩
  rw [hq, vdF_step _ _ _ _ h, hw, Bool.true_and, hs]
  exact vdF_fuel f n _ _ _ (by omega) (by omega)
theorem V_not {f : Nat → Nat} {n k : Nat} (h : k < n) (hw : whole (off f k) (n - k) = false) : V f n k = false := by
  unfold V
  obtain ⟨q, hq⟩ : ∃ q, n - k = q + 1 := ⟨n - k - 1, by omega⟩
  rw [hq, vdF_step _ _ _ _ h, hw, Bool.false_and]
theorem V_low {f : Nat → Nat} {n k : Nat} (h : k < n) (hl : f k < 128) : V f n k = V f n (k + 1) := by
  have e : size (f k) = 1 := by unfold size; rw [if_pos hl]
  have h1 : fs (off f k) (n - k) = 1 := by
    unfold fs off
    rw [if_neg (by omega), Nat.add_zero, e]
  refine V_whole h ?_ h1
  simp only [whole, decide_eq_true_eq, h1]
  exact ⟨by omega, (len1 (by simpa [off] using e)).2 (by omega)⟩
theorem V_asc {f : Nat → Nat} {n k : Nat} : ∀ (q : Nat), k + q ≤ n → (∀ j, j < q → f (k + j) < 128) → V f n k = V f n (k + q)
  | 0, _, _ => rfl
  | q + 1, h, hl => by
    rw [V_asc q (by omega) (fun j hj => hl j (by omega)), V_low (k := k + q) (by omega) (hl q (by omega))]
    rfl
theorem size_of {x : Nat} (h : 128 ≤ x) : size x = 2 ∨ size x = 3 ∨ size x = 4 ∨ size x = 0 := by
  rcases size_cases x with ⟨e, _⟩ | ⟨e, _⟩ | ⟨e, _⟩ | ⟨e, _⟩ | ⟨e, _⟩
  · omega
  · exact .inl e
  · exact .inr (.inl e)
  · exact .inr (.inr (.inl e))
  · exact .inr (.inr (.inr e))
theorem first_lead {x : Nat} (hx : x < 256) (h : 128 ≤ x) : (firstT x % 8 = size x ∧ 1 < size x ∧ accLo (firstT x / 16) = lo x ∧ accHi (firstT x / 16) = hi x) ∨ (firstT x % 8 ≤ 1 ∧ size x = 0) := by
  rcases size_of h with e | e | e | e
  · exact .inl ⟨(first_size x hx (by omega)).1, by omega, (first_size x hx (by omega)).2⟩
  · exact .inl ⟨(first_size x hx (by omega)).1, by omega, (first_size x hx (by omega)).2⟩
  · exact .inl ⟨(first_size x hx (by omega)).1, by omega, (first_size x hx (by omega)).2⟩
  · exact .inr ⟨first_none x hx (by omega), e⟩
theorem V_two {f : Nat → Nat} {n k : Nat} (hf : ∀ j, f j < 256) (h : k < n) (hg : 128 ≤ f k) (hs : firstT (f k) % 8 = 2) : V f n k = if (n - k < 2 ∨ f (k + 1) < accLo (firstT (f k) / 16) ∨ accHi (firstT (f k) / 16) < f (k + 1)) then false else V f n (k + 2) := by
  rcases first_lead (hf k) hg with ⟨e1, _, e3, e4⟩ | ⟨e1, _⟩
  · have hz : size (f k) = 2 := by omega
    have h1 : fs (off f k) (n - k) = 2 := by
      unfold fs off
      rw [if_neg (by omega), Nat.add_zero, hz]
    have hl := len2 (n := n - k) (b0 := off f k 0) (b1 := off f k 1) (b2 := off f k 2) (b3 := off f k 3) (by simpa [off] using hz)
    simp only [off, Nat.add_zero] at hl
    rw [e3, e4]
    split
    · refine V_not h ?_
      simp only [whole, decide_eq_false_iff_not, h1, fk, off, Nat.add_zero]
      rw [hl]
      omega
    · refine V_whole h ?_ h1
      simp only [whole, decide_eq_true_eq, h1, fk, off, Nat.add_zero]
      rw [hl]
      omega
  · omega
theorem V_three {f : Nat → Nat} {n k : Nat} (hf : ∀ j, f j < 256) (h : k < n) (hg : 128 ≤ f k) (hs : firstT (f k) % 8 = 3) : V f n k = if (n - k < 3 ∨ f (k + 1) < accLo (firstT (f k) / 16) ∨ accHi (firstT (f k) / 16) < f (k + 1) ∨ f (k + 2) < 128 ∨ 191 < f (k + 2)) then false else V f n (k + 3) := by
  rcases first_lead (hf k) hg with ⟨e1, _, e3, e4⟩ | ⟨e1, _⟩
  · have hz : size (f k) = 3 := by omega
    have h1 : fs (off f k) (n - k) = 3 := by
      unfold fs off
      rw [if_neg (by omega), Nat.add_zero, hz]
    have hl := len3 (n := n - k) (b0 := off f k 0) (b1 := off f k 1) (b2 := off f k 2) (b3 := off f k 3) (by simpa [off] using hz)
    simp only [off, Nat.add_zero] at hl
    rw [e3, e4]
    split
    · refine V_not h ?_
      simp only [whole, decide_eq_false_iff_not, h1, fk, off, Nat.add_zero]
      rw [hl]
      omega
    · refine V_whole h ?_ h1
      simp only [whole, decide_eq_true_eq, h1, fk, off, Nat.add_zero]
      rw [hl]
      omega
  · omega
theorem V_four {f : Nat → Nat} {n k : Nat} (hf : ∀ j, f j < 256) (h : k < n) (hg : 128 ≤ f k) (hs : firstT (f k) % 8 = 4) : V f n k = if (n - k < 4 ∨ f (k + 1) < accLo (firstT (f k) / 16) ∨ accHi (firstT (f k) / 16) < f (k + 1) ∨ f (k + 2) < 128 ∨ 191 < f (k + 2) ∨ f (k + 3) < 128 ∨ 191 < f (k + 3)) then false else V f n (k + 4) := by
  rcases first_lead (hf k) hg with ⟨e1, _, e3, e4⟩ | ⟨e1, _⟩
  · have hz : size (f k) = 4 := by omega
    have h1 : fs (off f k) (n - k) = 4 := by
      unfold fs off
      rw [if_neg (by omega), Nat.add_zero, hz]
    have hl := len4 (n := n - k) (b0 := off f k 0) (b1 := off f k 1) (b2 := off f k 2) (b3 := off f k 3) (by simpa [off] using hz)
    simp only [off, Nat.add_zero] at hl
    rw [e3, e4]
    split
    · refine V_not h ?_
      simp only [whole, decide_eq_false_iff_not, h1, fk, off, Nat.add_zero]
      rw [hl]
      omega
    · refine V_whole h ?_ h1
      simp only [whole, decide_eq_true_eq, h1, fk, off, Nat.add_zero]
      rw [hl]
      omega
  · omega
theorem V_none {f : Nat → Nat} {n k : Nat} (hf : ∀ j, f j < 256) (h : k < n) (hg : 128 ≤ f k) (h2 : firstT (f k) % 8 ≠ 2) (h3 : firstT (f k) % 8 ≠ 3) (h4 : firstT (f k) % 8 ≠ 4) : V f n k = false := by
  rcases first_lead (hf k) hg with ⟨e1, e2, _, _⟩ | ⟨_, e2⟩
  · rcases size_of hg with e | e | e | e <;> omega
  · refine V_not h ?_
    have h1 : fs (off f k) (n - k) = 0 := by
      unfold fs off
      rw [if_neg (by omega), Nat.add_zero, e2]
    simp [whole, h1]
end Lx
end Go.Proofs.YtoccedbnnafjcaaDoor
