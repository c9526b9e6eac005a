/-
  Bytes that come in pieces: the characters that were taken are those of all bytes; and gimletlaw04.into.
-/
import Derived.Test.YtcggkbgbfgkaiaaDoorFdAwake
namespace Go.Proofs.YtcggkbgbfgkaiaaDoor
open Go.RowKit Go.Lib

namespace Fd
open Rn
theorem pk_stays' {F : Nat → Nat} {N N' T : Nat} (hx : (pk F N T false).2.2.2 ≠ 1) (hN : N ≤ N') (E : Bool) : pk F N' T E = pk F N T false := by
  cases h : pk F N T false with
  | mk r x2 => cases x2 with
    | mk a x3 => cases x3 with
      | mk z m =>
        rw [h] at hx
        exact pk_stays h hx hN E
/-- what was taken of fewer bytes comes first of what is taken of more -/
theorem tk_more (F : Nat → Nat) {N N' : Nat} (hN : N ≤ N') (E : Bool) : ∀ (a T : Nat) (p : Nat × Nat × Nat), N - T ≤ a →
    tk F N' E (N' - T) T p = tk F N false (N - T) T p ++ tk F N' E (N' - (tkE F N false (N - T) T p).1) (tkE F N false (N - T) T p).1 (tkE F N false (N - T) T p).2 ∧
    tkE F N' E (N' - T) T p = tkE F N' E (N' - (tkE F N false (N - T) T p).1) (tkE F N false (N - T) T p).1 (tkE F N false (N - T) T p).2
  | a, T, p, ha => by
    by_cases h0 : (pk F N T false).2.2.2 = 0
    · have hs := pk_stays' (F := F) (T := T) (by omega) hN E
      have hp := pk_pos h0
      have h0' : (pk F N' T E).2.2.2 = 0 := by rw [hs]; exact h0
      obtain ⟨e1, e2⟩ := tk_step p h0
      obtain ⟨e3, e4⟩ := tk_step p h0'
      rw [e1, e2, e3, e4, hs]
      cases a with
      | zero => omega
      | succ a =>
        obtain ⟨i1, i2⟩ := tk_more F hN E a (T + (pk F N T false).2.2.1) (adv (pk F N T false) p) (by omega)
        exact ⟨by rw [i1]; rfl, i2⟩
    · obtain ⟨e1, e2⟩ := tk_stop p h0
      rw [e1, e2]
      exact ⟨rfl, rfl⟩
/-- behind a byte of no character nothing is taken, whatever comes -/
theorem tk_bad {F : Nat → Nat} {N N' T : Nat} (hN : N ≤ N') (E : Bool) (p : Nat × Nat × Nat) (h : (pk F N T false).2.2.2 = 2) : tk F N' E (N' - T) T p = [] ∧ tkE F N' E (N' - T) T p = (T, p) ∧ pk F N' T E = pk F N T false := by
  have hs := pk_stays' (F := F) (T := T) (by omega) hN E
  obtain ⟨a, b⟩ := tk_stop (N := N') (E := E) p (by rw [hs, h]; omega)
  exact ⟨a, b, hs⟩
theorem tkE_le (F : Nat → Nat) (N : Nat) (E : Bool) : ∀ (a T : Nat) (p : Nat × Nat × Nat), T ≤ (tkE F N E a T p).1
  | 0, _, _ => Nat.le_refl _
  | a + 1, T, p => by
    unfold tkE
    split
    · exact Nat.le_trans (Nat.le_add_right _ _) (tkE_le F N E a _ _)
    · exact Nat.le_refl _
theorem tk_length (F : Nat → Nat) (N : Nat) (E : Bool) : ∀ (a T : Nat) (p : Nat × Nat × Nat), (tk F N E a T p).length ≤ a
  | 0, _, _ => Nat.le_refl _
  | a + 1, T, p => by
    unfold tk
    split
    · simp only [List.length_cons]
      have := tk_length F N E a (T + (pk F N T E).2.2.1) (adv (pk F N T E) p)
      omega
    · simp
end Fd

end Go.Proofs.YtcggkbgbfgkaiaaDoor
