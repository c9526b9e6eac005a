/-
  THE WALK over gimletlaw04.FeedCuts: whatever the cuts, the same.
-/
import Derived.Test.YtcggkbgbfgkaiaaDoorFdPieces
import Derived.BigQuiet
namespace Go.Proofs.YtcggkbgbfgkaiaaDoor
open Go.RowKit Go.Lib

namespace Fd
open Rn
theorem tkE_no (F : Nat → Nat) (N : Nat) (E : Bool) : ∀ (a T : Nat) (p : Nat × Nat × Nat), N ≤ T + a → (pk F N (tkE F N E a T p).1 E).2.2.2 ≠ 0
  | 0, T, p, h => pk_end F N T E (by omega)
  | a + 1, T, p, h => by
    unfold tkE
    split
    · next h0 =>
      have := pk_pos h0
      exact tkE_no F N E a _ _ (by omega)
    · next h0 => exact h0
theorem pk_ended (F : Nat → Nat) (N T : Nat) : (pk F N T true).2.2.2 ≠ 1 := by
  unfold pk
  repeat' split
  all_goals simp_all
end Fd
theorem fcCells_at (l : List (Nat × Nat × (Nat × Nat × Nat) × Nat)) (i j : Nat) (h : i < l.length) (hj : j < 6) : (fcCells l)[6 * i + j]? = (fcOne l[i])[j]? := by
  induction l generalizing i with
  | nil => simp at h
  | cons a l ih =>
    have e : fcCells (a :: l) = fcOne a ++ fcCells l := by simp [fcCells]
    have hl : (fcOne a).length = 6 := rfl
    rw [e]
    cases i with
    | zero =>
      rw [List.getElem?_append_left (by omega), show 6 * 0 + j = j by omega]
      rfl
    | succ i =>
      rw [List.getElem?_append_right (by omega), hl, show 6 * (i + 1) + j - 6 = 6 * i + j by omega, ih i (by simpa using h)]
      rfl
/-- the six cells of a row's element -/
theorem fc_six {w : World} {B q co n : Nat} {l : List (Nat × Nat × (Nat × Nat × Nat) × Nat)} (h : w.ownsRow B 45 6 (.slice (some ⟨q, 0, none⟩) n co) l.length (fcCells l)) (i : Nat) (hi : i < l.length) :
    w.cell? ⟨q, i * 6, none⟩ = some (.int .i32 (l[i].1 : Nat)) ∧ w.cell? ⟨q, i * 6 + 1, none⟩ = some (.int .i64 (l[i].2.1 : Nat)) ∧ w.cell? ⟨q, i * 6 + 2, none⟩ = some (.int .i64 (l[i].2.2.1.1 : Nat)) ∧ w.cell? ⟨q, i * 6 + 3, none⟩ = some (.int .i64 (l[i].2.2.1.2.1 : Nat)) ∧ w.cell? ⟨q, i * 6 + 4, none⟩ = some (.int .i64 (l[i].2.2.1.2.2 : Nat)) ∧ w.cell? ⟨q, i * 6 + 5, none⟩ = some (.int .i64 (l[i].2.2.2 : Nat)) := by
  have k : ∀ j u, j < 6 → (fcOne l[i])[j]? = some u → w.cell? ⟨q, i * 6 + j, none⟩ = some u := by
    intro j u hj hu
    have := h.cells (g := q) rfl (6 * i + j) u (by rw [fcCells_at l i j hi hj]; exact hu)
    rw [Addr.add_lit, show 0 + (6 * i + j) = i * 6 + j by omega] at this
    exact this
  exact ⟨k 0 _ (by omega) rfl, k 1 _ (by omega) rfl, k 2 _ (by omega) rfl, k 3 _ (by omega) rfl, k 4 _ (by omega) rfl, k 5 _ (by omega) rfl⟩
theorem fc_slice {w : World} {B : Nat} {v : Value} {l : List (Nat × Nat × (Nat × Nat × Nat) × Nat)} (h : w.ownsRow B 45 6 v l.length (fcCells l)) : ∃ po co, v = .slice po l.length co := by
  rcases h.2 with ⟨e1, e2⟩ | ⟨q, c, cur, e1, _⟩
  · exact ⟨none, 0, by rw [e1, e2]⟩
  · exact ⟨_, _, e1⟩
theorem fc_some {w : World} {B : Nat} {po : Option Addr} {n co : Nat} {l : List (Nat × Nat × (Nat × Nat × Nat) × Nat)} (h : w.ownsRow B 45 6 (.slice po n co) l.length (fcCells l)) (h0 : 0 < l.length) : ∃ q, po = some ⟨q, 0, none⟩ := by
  rcases h.2 with ⟨e1, e2⟩ | ⟨q, c, cur, e1, _⟩
  · omega
  · cases e1; exact ⟨q, rfl⟩

end Go.Proofs.YtcggkbgbfgkaiaaDoor
