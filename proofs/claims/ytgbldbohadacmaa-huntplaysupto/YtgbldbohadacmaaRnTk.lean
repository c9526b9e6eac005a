/-
  Take, in the words of the bytes that come: it waits, or a character is whole.
-/
import Derived.Test.YtgbldbohadacmaaRnPut
namespace Go.Proofs.Ytgbldbohadacmaa
open Go.RowKit Go.Lib

namespace Rn
/-- the first k bytes, then noughts -/
def cut (f : Nat → Nat) (k : Nat) : Nat → Nat := fun j => if j < k then f j else 0
theorem cut_zero (f : Nat → Nat) : cut f 0 = fun _ => 0 := by funext j; simp [cut]
theorem cut_succ (f : Nat → Nat) (k : Nat) : upd (cut f k) k (f k) = cut f (k + 1) := by
  funext j
  unfold upd cut
  by_cases h : j = k
  · subst h; simp
  · by_cases h2 : j < k
    · rw [if_neg h, if_pos h2, if_pos (by omega)]
    · rw [if_neg h, if_neg h2, if_neg (by omega)]
theorem cut_eq (f : Nat → Nat) (k : Nat) : ∀ j, j < k → f j = cut f k j := fun j hj => by simp [cut, hj]
theorem cut_lt {f : Nat → Nat} (hf : ∀ j, f j < 256) (k : Nat) : ∀ j, cut f k j < 256 := by
  intro j
  unfold cut
  split
  · exact hf j
  · omega
/-- 'string(r)' is the bytes that Put writes -/
theorem encode_arr (r : Int) : Utf8.encode (want r) = arr (eb r) (el r) := by
  have h := eb_enc r
  have hv : Utf8.valid (want r) = true := by
    unfold Utf8.valid want
    split
    · rfl
    · simp; omega
  have hw : 0 ≤ want r := by
    unfold want
    split <;> omega
  unfold Utf8.encode
  rw [if_pos hv]
  dsimp only
  generalize (want r).toNat = v at *
  cases h with
  | one hn h0 hv =>
    rw [if_pos hv, hn]
    apply congrArg ByteArray.mk
    apply Array.ext
    · simp
    · intro i h1 h2
      simp at h1
      subst h1
      simp [h0]
  | two hn h0 h1 hv hv2 =>
    rw [if_neg (by omega), if_pos hv2, hn]
    apply congrArg ByteArray.mk
    apply Array.ext
    · simp
    · intro i g1 g2
      have : i = 0 ∨ i = 1 := by simp at g1; omega
      rcases this with rfl | rfl
      · simp [h0]
      · simp [h1]
  | three hn h0 h1 h2 hv hv2 hv3 =>
    rw [if_neg (by omega), if_neg (by omega), if_pos hv2, hn]
    apply congrArg ByteArray.mk
    apply Array.ext
    · simp
    · intro i g1 g2
      have : i = 0 ∨ i = 1 ∨ i = 2 := by simp at g1; omega
      rcases this with rfl | rfl | rfl
      · simp [h0]
      · simp [h1]
      · simp [h2]
  | four hn h0 h1 h2 h3 hv hv2 =>
    rw [if_neg (by omega), if_neg (by omega), if_neg (by omega), hn]
    apply congrArg ByteArray.mk
    apply Array.ext
    · simp
    · intro i g1 g2
      have : i = 0 ∨ i = 1 ∨ i = 2 ∨ i = 3 := by simp at g1; omega
      rcases this with rfl | rfl | rfl | rfl
      · simp [h0]
      · simp [h1]
      · simp [h2]
      · simp [h3]
end Rn

end Go.Proofs.Ytgbldbohadacmaa
