/-
  WALKS over gimlettop.whole and gimlettop.WholeOrder: of any two texts.
-/
import Derived.Test.YtfbjkebinbemdaaDoorWdLawOrder
namespace Go.Proofs.YtfbjkebinbemdaaDoor
open Go.RowKit Go.Shelf

namespace Wd
/-- is no character from a place on a U+FFFD of one byte? -/
def gb (f : Nat → Nat) (n : Nat) : Nat → Nat → Bool
  | 0, _ => true
  | fuel + 1, p => if p < n then !decide ((Rn.dec (Rn.off f p) (n - p)).1 = 65533 ∧ (Rn.dec (Rn.off f p) (n - p)).2 = 1) && gb f n fuel (p + (Rn.dec (Rn.off f p) (n - p)).2) else true
theorem gb_end (f : Nat → Nat) (n fuel p : Nat) (h : ¬ p < n) : gb f n fuel p = true := by
  cases fuel with
  | zero => rfl
  | succ m => unfold gb; rw [if_neg h]
theorem gb_step (f : Nat → Nat) (n fuel p : Nat) (h : p < n) : gb f n (fuel + 1) p = (!decide ((Rn.dec (Rn.off f p) (n - p)).1 = 65533 ∧ (Rn.dec (Rn.off f p) (n - p)).2 = 1) && gb f n fuel (p + (Rn.dec (Rn.off f p) (n - p)).2)) := by
  show (if p < n then _ else _) = _
  rw [if_pos h]
/-- the last character read is a U+FFFD of one byte -/
def pnd (pos last was : Nat) : Bool := decide (0 < pos ∧ was = 65533 ∧ pos = last + 1)
theorem lf_left (A B : List UInt8) (j : Nat) (h : j < A.length) : Rn.lf (A ++ B) j = Rn.lf A j := by
  unfold Rn.lf
  rw [List.getElem?_append_left h]
theorem lf_right (A B : List UInt8) (j : Nat) (h : A.length ≤ j) : Rn.lf (A ++ B) j = Rn.lf B (j - A.length) := by
  unfold Rn.lf
  rw [List.getElem?_append_right h]
theorem lf_drop (l : List UInt8) (p j : Nat) : Rn.lf (l.drop p) j = Rn.lf l (p + j) := by
  unfold Rn.lf
  rw [List.getElem?_drop]
theorem gb_all (l : List UInt8) : ∀ fuel p, l.length ≤ p + fuel → gb (Rn.lf l) l.length fuel p = true → Rn.cat (rs (Rn.lf l) l.length fuel p) = l.drop p
  | 0, p, hp, _ => by
    rw [List.drop_eq_nil_of_le (by omega)]
    rfl
  | fuel + 1, p, hp, h => by
    by_cases hlt : p < l.length
    · rw [gb_step _ _ _ _ hlt, Bool.and_eq_true] at h
      obtain ⟨h1, h2⟩ := h
      have hd := Rn.dec_pos (Rn.off (Rn.lf l) p) (l.length - p) (fun _ => Rn.lf_lt l _) (by omega)
      have hw := Rn.dec_whole (Rn.off (Rn.lf l) p) (l.length - p) (fun _ => Rn.lf_lt l _) (by omega)
      cases hwh : Rn.whole (Rn.off (Rn.lf l) p) (l.length - p)
      · rw [hwh] at hw
        simp only [Bool.false_eq_true, if_false] at hw
        rw [hw] at h1
        simp at h1
      · rw [hwh] at hw
        simp only [if_true] at hw
        obtain ⟨e1, e2⟩ := Rn.enc_fv _ _ hwh
        have ih := gb_all l fuel (p + (Rn.dec (Rn.off (Rn.lf l) p) (l.length - p)).2) (by omega) h2
        have hstep : rs (Rn.lf l) l.length (fuel + 1) p = (Rn.dec (Rn.off (Rn.lf l) p) (l.length - p)).1 :: rs (Rn.lf l) l.length fuel (p + (Rn.dec (Rn.off (Rn.lf l) p) (l.length - p)).2) := by
          show (if p < l.length then _ else _) = _
          rw [if_pos hlt]
        rw [hstep, Rn.cat_cons, ih]
        rw [hw] at hd ⊢
        simp only [] at hd ⊢
        apply Rn.lf_ext
        · rw [List.length_append, Rn.enc_length, e1, List.length_drop, List.length_drop]
          omega
        · intro j hj
          rw [List.length_append, Rn.enc_length, e1, List.length_drop] at hj
          by_cases hjl : j < Rn.fs (Rn.off (Rn.lf l) p) (l.length - p)
          · rw [lf_left _ _ _ (by rw [Rn.enc_length, e1]; exact hjl), Rn.enc_get, e2 j hjl, lf_drop]
            rfl
          · rw [lf_right _ _ _ (by rw [Rn.enc_length, e1]; omega), Rn.enc_length, e1, lf_drop, lf_drop]
            congr 1
            omega
    · rw [rs_end _ _ _ _ hlt, List.drop_eq_nil_of_le (by omega)]
      rfl
/-- a text that is characters all through is its characters' bytes -/
theorem gb_tx (l : List UInt8) (h : gb (Rn.lf l) l.length l.length 0 = true) : Rn.tx (R (Rn.lf l) l.length 0) = Rn.arr (Rn.lf l) l.length := by
  have := gb_all l l.length 0 (by omega) h
  rw [List.drop_zero] at this
  have e : Rn.cat (R (Rn.lf l) l.length 0) = l := this
  rw [tx_eq, e, Rn.arr_lf]
end Wd

theorem cmp_self (L : List Nat) : Wd.cmp L L = 0 := by
  unfold Wd.cmp
  rw [Wd.fu_same]
  exact Wd.cm_eq _

end Go.Proofs.YtfbjkebinbemdaaDoor
