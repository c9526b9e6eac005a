/-
  Take, in the words of the bytes that come: it waits, or a character is whole.
-/
import Derived.Test.YtacmenmneilamaaDoorRnPut
namespace Go.Proofs.YtacmenmneilamaaDoor
open Go.RowKit Go.Lib

namespace Rn
/-- the first k bytes, then noughts -/
def cut (f : Nat → Nat) (k : Nat) : Nat → Nat := fun j => if j < k then f j else 0
theorem cut_zero (f : Nat → Nat) : cut f 0 = fun _ => 0 := by funext j; simp [cut]
theorem cut_succ (f : Nat → Nat) (k : Nat) : upd (cut f k) k (f k) = cut f (k + 1) := by
  funext j
  unfold upd cut
  by_cases h : j = k
  · subst h; simp
  · by_cases h2 : j < k
    · rw [if_neg h, if_pos h2, if_pos (by omega)]
    · rw [if_neg h, if_neg h2, if_neg (by omega)]
theorem cut_eq (f : Nat → Nat) (k : Nat) : ∀ j, j < k → f j = cut f k j := fun j hj => by simp [cut, hj]
theorem cut_lt {f : Nat → Nat} (hf : ∀ j, f j < 256) (k : Nat) : ∀ j, cut f k j < 256 := by
  intro j
  unfold cut
  split
  · exact hf j
  · omega
/-- 'string(r)' is the bytes that Put writes -/
theorem encode_arr (r : Int) : Utf8.encode (want r) = arr (eb r) (el r) := by
  have h := eb_enc r
  have hv : Utf8.valid (want r) = true := by
    unfold Utf8.valid want
    split
    · rfl
    · simp; omega
  have hw : 0 ≤ want r := by
    unfold want
    split <;> omega
  unfold Utf8.encode
  rw [if_pos hv]
  dsimp only
  generalize (want r).toNat = v at *
  cases h with
  | one hn h0 hv =>
    rw [if_pos hv, hn]
    apply congrArg ByteArray.mk
    apply Array.ext
    · simp
    · intro i h1 h2
      simp at h1
      subst h1
      simp [h0]
  | two hn h0 h1 hv hv2 =>
    rw [if_neg (by omega), if_pos hv2, hn]
    apply congrArg ByteArray.mk
    apply Array.ext
    · simp
    · intro i g1 g2
      have : i = 0 ∨ i = 1 := by simp at g1; omega
      rcases this with rfl | rfl
      · simp [h0]
      · simp [h1]
  | three hn h0 h1 h2 hv hv2 hv3 =>
    rw [if_neg (by omega), if_neg (by omega), if_pos hv2, hn]
    apply congrArg ByteArray.mk
    apply Array.ext
    · simp
    · intro i g1 g2
      have : i = 0 ∨ i = 1 ∨ i = 2 := by simp at g1; omega
      rcases this with rfl | rfl | rfl
      · simp [h0]
      · simp [h1]
      · simp [h2]
  | four hn h0 h1 h2 h3 hv hv2 =>
    rw [if_neg (by omega), if_neg (by omega), if_neg (by omega), hn]
    apply congrArg ByteArray.mk
    apply Array.ext
    · simp
    · intro i g1 g2
      have : i = 0 ∨ i = 1 ∨ i = 2 ∨ i = 3 := by simp at g1; omega
      rcases this with rfl | rfl | rfl | rfl
      · simp [h0]
      · simp [h1]
      · simp [h2]
      · simp [h3]
end Rn

theorem take_any (D : Nat) (x : Nat → Nat) (n v : Nat) (w : World) (hn : n < 4) (hv : v < 256) (hx : ∀ j, x j < 256) (hT : Lib.Utf8Tabs 0 1 w) (h : DecAt w D x n false) :
    Calls Tryd.prog 30 #[.pointer (some ⟨D, 0, none⟩), .int .u8 v] w fun e w' => TakeEnd D x n v w e w' := by
  have : n = 0 ∨ n = 1 ∨ n = 2 ∨ n = 3 := by omega
  rcases this with rfl | rfl | rfl | rfl
  · exact take_0 D x v w hv hx hT h
  · exact take_1 D x v w hv hx hT h
  · exact take_2 D x v w hv hx hT h
  · exact take_3 D x v w hv hx hT h
theorem take_waits (D : Nat) (f : Nat → Nat) (k : Nat) (w : World) (hk : k < 4) (hf : ∀ j, f j < 256) (hT : Lib.Utf8Tabs 0 1 w) (h : DecAt w D (Rn.cut f k) k false) (hw : Rn.waits f (k + 1) = true) :
    Calls Tryd.prog 30 #[.pointer (some ⟨D, 0, none⟩), .int .u8 (f k)] w fun e w' => e = .returned (.tuple #[.int .i32 0, .int .i64 1]) ∧ DecAt w' D (Rn.cut f (k + 1)) (k + 1) false ∧ But D w w' := by
  refine (take_any D (Rn.cut f k) k (f k) w hk (hf k) (Rn.cut_lt hf k) hT h).mono ?_
  have e1 : Rn.waits (Rn.cut f (k + 1)) (k + 1) = true := by rw [← Rn.waits_congr (Rn.cut_eq f (k + 1))]; exact hw
  rintro e w' (⟨h1, he, hd, hb⟩ | ⟨h1, he, hd, hb⟩ | ⟨h1, h2, he, hd, hb⟩)
  · rw [Rn.cut_succ] at h1
    simp only [Rn.whole, Rn.waits, decide_eq_true_eq] at h1 e1
    omega
  · rw [Rn.cut_succ] at hd
    exact ⟨he, hd, hb⟩
  · rw [Rn.cut_succ, e1] at h2
    cases h2
theorem take_whole (D : Nat) (f : Nat → Nat) (k : Nat) (w : World) (hk : k < 4) (hf : ∀ j, f j < 256) (hT : Lib.Utf8Tabs 0 1 w) (h : DecAt w D (Rn.cut f k) k false) (hw : Rn.whole f (k + 1) = true) :
    Calls Tryd.prog 30 #[.pointer (some ⟨D, 0, none⟩), .int .u8 (f k)] w fun e w' => e = .returned (.tuple #[.int .i32 (Rn.fv f), .int .i64 0]) ∧ DecAt w' D (fun _ => 0) 0 false ∧ But D w w' := by
  refine (take_any D (Rn.cut f k) k (f k) w hk (hf k) (Rn.cut_lt hf k) hT h).mono ?_
  have e1 : Rn.whole (Rn.cut f (k + 1)) (k + 1) = true := by rw [← Rn.whole_congr (Rn.cut_eq f (k + 1))]; exact hw
  rintro e w' (⟨h1, he, hd, hb⟩ | ⟨h1, he, hd, hb⟩ | ⟨h1, h2, he, hd, hb⟩)
  · rw [Rn.cut_succ, ← Rn.fv_congr hw (Rn.cut_eq f (k + 1))] at he
    exact ⟨he, hd, hb⟩
  · rw [Rn.cut_succ] at h1
    simp only [Rn.whole, Rn.waits, decide_eq_true_eq] at h1 e1
    omega
  · rw [Rn.cut_succ, e1] at h1
    cases h1

end Go.Proofs.YtacmenmneilamaaDoor
