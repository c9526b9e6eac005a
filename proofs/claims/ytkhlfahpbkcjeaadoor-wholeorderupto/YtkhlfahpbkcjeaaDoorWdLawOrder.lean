/-
  THE WALK over gimletlaw03.WordsOrder: of any two texts.
-/
import Derived.Test.YtkhlfahpbkcjeaaDoorWdSub
import Derived.Test.YtkhlfahpbkcjeaaDoorWdAwake
import Derived.Deep.QuietTactic
import Derived.BigQuiet
namespace Go.Proofs.YtkhlfahpbkcjeaaDoor
open Go.RowKit Go.Shelf

namespace Wd
theorem sub_all (L : List Nat) : sub L 0 (L.length : Int) = L := by simp [sub]
theorem cm_lt {x y : Int} (h : x < y) : cm x y = -1 := by unfold cm; rw [if_pos h]
theorem cm_gt {x y : Int} (h : y < x) : cm x y = 1 := by unfold cm; rw [if_neg (by omega), if_pos h]
theorem cm_eq (x : Int) : cm x x = 0 := by unfold cm; rw [if_neg (by omega), if_neg (by omega)]
/-- does an unlike pair lie on the two sides of the units' gap? -/
def gap (a b : Nat) : Bool := decide (65535 < max (a : Int) b ∧ 57344 ≤ min (a : Int) b ∧ min (a : Int) b ≤ 65535)
theorem un_low (r : Int) (h : r ≤ 65535) : un r = r * 65536 := by unfold un; rw [if_pos h]
theorem un_high (r : Int) (h : 65535 < r) : un r = (55296 + (r - 65536) / 1024) * 65536 + 56320 + (r - 65536) % 1024 := by unfold un; rw [if_neg (by omega)]
/-- the order by units of two unlike characters -/
theorem un_cmp (a b : Nat) (ha : Rn.scal a) (hb : Rn.scal b) (h : a ≠ b) : (gap a b = false ∧ cm (un a) (un b) = cm a b) ∨ (gap a b = true ∧ cm (un a) (un b) = - cm a b) := by
  unfold Rn.scal at ha hb
  by_cases h1 : (a : Int) ≤ 65535
  · by_cases h2 : (b : Int) ≤ 65535
    · left
      refine ⟨by unfold gap; rw [decide_eq_false_iff_not]; omega, ?_⟩
      rw [un_low _ h1, un_low _ h2]
      unfold cm
      by_cases e : (a : Int) < b
      · rw [if_pos e, if_pos (by omega)]
      · rw [if_neg e, if_neg (by omega), if_pos (by omega), if_pos (by omega)]
    · rw [un_low _ h1, un_high _ (by omega), cm_lt (show (a : Int) < b by omega)]
      by_cases h3 : 57344 ≤ (a : Int)
      · right
        exact ⟨by unfold gap; rw [decide_eq_true_eq]; omega, cm_gt (by omega)⟩
      · left
        exact ⟨by unfold gap; rw [decide_eq_false_iff_not]; omega, cm_lt (by omega)⟩
  · by_cases h2 : (b : Int) ≤ 65535
    · rw [un_low _ h2, un_high _ (by omega), cm_gt (show (b : Int) < a by omega)]
      by_cases h3 : 57344 ≤ (b : Int)
      · right
        exact ⟨by unfold gap; rw [decide_eq_true_eq]; omega, cm_lt (by omega)⟩
      · left
        exact ⟨by unfold gap; rw [decide_eq_false_iff_not]; omega, cm_gt (by omega)⟩
    · left
      refine ⟨by unfold gap; rw [decide_eq_false_iff_not]; omega, ?_⟩
      rw [un_high _ (by omega), un_high _ (by omega)]
      rcases Nat.lt_or_gt_of_ne h with e | e
      · rw [cm_lt (show (a : Int) < b by omega), cm_lt (by omega)]
      · rw [cm_gt (show (b : Int) < a by omega), cm_gt (by omega)]
theorem gap_no {p q r : Prop} [Decidable p] [Decidable q] [Decidable r] {c u : Int} (h : decide (p ∧ q ∧ r) = decide (c ≠ u)) (hn : ¬ (p ∧ q ∧ r)) : c = u := by
  rw [decide_eq_false hn] at h
  have := of_decide_eq_false h.symm
  omega
/-- what both orders say of two texts -/
structure Both (L M : List Nat) (c u : Int) : Prop where
  five : (c = 0 ∧ u = 0) ∨ (c = -1 ∧ u = -1) ∨ (c = 1 ∧ u = 1) ∨ (c = -1 ∧ u = 1) ∨ (c = 1 ∧ u = -1)
  same : ((Rn.tx L).toList == (Rn.tx M).toList) = decide (c = 0)
  less : Op.bytesLess (Rn.tx L).toList (Rn.tx M).toList = decide (c < 0)
  part : ∀ P a b L' M', L = P ++ a :: L' → M = P ++ b :: M' → a ≠ b → gap a b = decide (c ≠ u)
  pre : ∀ P L' M', L = P ++ L' → M = P ++ M' → (L' = [] ∨ M' = []) → c = u
theorem part_uniq {P Q L L' M M' : List Nat} {a b c d : Nat} (h1 : P ++ a :: L = Q ++ c :: L') (h2 : P ++ b :: M = Q ++ d :: M') (hab : a ≠ b) (hcd : c ≠ d) : a = c ∧ b = d := by
  induction P generalizing Q with
  | nil =>
    cases Q with
    | nil =>
      simp at h1 h2
      exact ⟨h1.1, h2.1⟩
    | cons q Q =>
      simp at h1 h2
      exact absurd (h1.1.trans h2.1.symm) hab
  | cons p P ih =>
    cases Q with
    | nil =>
      simp at h1 h2
      exact absurd (h1.1.symm.trans h2.1) hcd
    | cons q Q =>
      simp at h1 h2
      exact ih h1.2 h2.2
theorem both (L M : List Nat) (hL : ∀ r ∈ L, Rn.scal r) (hM : ∀ r ∈ M, Rn.scal r) : Both L M (cmp L M) (cmpU L M) := by
  have hp := part L M
  unfold cmp cmpU
  have un1 : un (-1) = -65536 := by unfold un; rw [if_pos (by omega)]; rfl
  have unp : ∀ b : Nat, Rn.scal b → (0 : Int) ≤ un b := by
    intro b hb
    unfold Rn.scal at hb
    by_cases h : (b : Int) ≤ 65535
    · rw [un_low _ h]; omega
    · rw [un_high _ (by omega)]; omega
  cases hp with
  | same =>
    rw [fu_same, cm_eq, cm_eq]
    refine ⟨.inl ⟨rfl, rfl⟩, ?_, ?_, ?_, fun _ _ _ _ _ _ => rfl⟩
    · simp [Rn.tx_toList]
    · rw [Rn.tx_toList, Rn.less_self]; rfl
    · intro P a b L' M' h1 h2 hab
      rw [h1] at h2
      simp at h2
      exact absurd h2.1 hab
  | left _ b M' =>
    have hb := hM b (by simp)
    rw [fu_left, cm_lt (show (-1 : Int) < b by omega), un1, cm_lt (by have := unp b hb; show (-65536 : Int) < un b; omega)]
    obtain ⟨q1, q2⟩ := Rn.cat_short L [] (b :: M') (.inl rfl)
    rw [List.append_nil] at q1 q2
    refine ⟨.inr (.inl ⟨rfl, rfl⟩), ?_, ?_, ?_, fun _ _ _ _ _ _ => rfl⟩
    · rw [Rn.tx_toList, Rn.tx_toList]
      simp [q2]
    · rw [Rn.tx_toList, Rn.tx_toList, q1]
      simp
    · intro P x y L' M'' h1 h2 hxy
      rw [h1, List.append_assoc] at h2
      simp at h2
      exact absurd h2.1 hxy
  | right _ a L' =>
    have ha := hL a (by simp)
    rw [fu_right, cm_gt (show (-1 : Int) < a by omega), un1, cm_gt (by have := unp a ha; show (-65536 : Int) < un a; omega)]
    obtain ⟨q1, q2⟩ := Rn.cat_short M (a :: L') [] (.inr rfl)
    rw [List.append_nil] at q1 q2
    refine ⟨.inr (.inr (.inl ⟨rfl, rfl⟩)), ?_, ?_, ?_, fun _ _ _ _ _ _ => rfl⟩
    · rw [Rn.tx_toList, Rn.tx_toList]
      simp [q2]
    · rw [Rn.tx_toList, Rn.tx_toList, q1]
      simp
    · intro P x y L'' M'' h1 h2 hxy
      rw [h2, List.append_assoc] at h1
      simp at h1
      exact absurd h1.1.symm hxy
  | ne P a b L' M' h =>
    have ha := hL a (by simp)
    have hb := hM b (by simp)
    rw [fu_part P a b L' M' h]
    obtain ⟨q1, q2⟩ := Rn.cat_part P L' M' a b ha hb h
    simp only []
    have hcm : cm (a : Int) b = if a < b then -1 else 1 := by
      split
      · exact cm_lt (by omega)
      · exact cm_gt (by omega)
    have hne : ((Rn.tx (P ++ a :: L')).toList == (Rn.tx (P ++ b :: M')).toList) = false := by
      rw [Rn.tx_toList, Rn.tx_toList]
      simpa using q2
    have hle : Op.bytesLess (Rn.tx (P ++ a :: L')).toList (Rn.tx (P ++ b :: M')).toList = decide (a < b) := by
      rw [Rn.tx_toList, Rn.tx_toList, q1]
    have hpre : ∀ Q L'' M'', P ++ a :: L' = Q ++ L'' → P ++ b :: M' = Q ++ M'' → (L'' = [] ∨ M'' = []) → False := by
      intro Q L'' M'' h1 h2 h3
      rcases h3 with rfl | rfl
      · rw [List.append_nil] at h1
        rw [← h1, List.append_assoc] at h2
        simp at h2
        exact h h2.1.symm
      · rw [List.append_nil] at h2
        rw [← h2, List.append_assoc] at h1
        simp at h1
        exact h h1.1
    have hg : ∀ Q x y L'' M'', P ++ a :: L' = Q ++ x :: L'' → P ++ b :: M' = Q ++ y :: M'' → x ≠ y → gap x y = gap a b := by
      intro Q x y L'' M'' h1 h2 hxy
      obtain ⟨rfl, rfl⟩ := part_uniq h1 h2 h hxy
      rfl
    rcases un_cmp a b ha hb h with ⟨g1, g2⟩ | ⟨g1, g2⟩
    · rw [g2, hcm]
      by_cases e : a < b
      · rw [if_pos e]
        refine ⟨.inr (.inl ⟨rfl, rfl⟩), by rw [hne]; rfl, by rw [hle]; simp [e], fun Q x y L'' M'' h1 h2 hxy => by rw [hg Q x y L'' M'' h1 h2 hxy, g1]; rfl, fun _ _ _ _ _ _ => rfl⟩
      · rw [if_neg e]
        refine ⟨.inr (.inr (.inl ⟨rfl, rfl⟩)), by rw [hne]; rfl, by rw [hle]; simp [e], fun Q x y L'' M'' h1 h2 hxy => by rw [hg Q x y L'' M'' h1 h2 hxy, g1]; rfl, fun _ _ _ _ _ _ => rfl⟩
    · rw [g2, hcm]
      by_cases e : a < b
      · rw [if_pos e]
        refine ⟨.inr (.inr (.inr (.inl ⟨rfl, rfl⟩))), by rw [hne]; rfl, by rw [hle]; simp [e], fun Q x y L'' M'' h1 h2 hxy => by rw [hg Q x y L'' M'' h1 h2 hxy, g1]; rfl, fun Q L'' M'' h1 h2 h3 => (hpre Q L'' M'' h1 h2 h3).elim⟩
      · rw [if_neg e]
        refine ⟨.inr (.inr (.inr (.inr ⟨rfl, rfl⟩))), by rw [hne]; rfl, by rw [hle]; simp [e], fun Q x y L'' M'' h1 h2 hxy => by rw [hg Q x y L'' M'' h1 h2 hxy, g1]; rfl, fun Q L'' M'' h1 h2 h3 => (hpre Q L'' M'' h1 h2 h3).elim⟩
end Wd

end Go.Proofs.YtkhlfahpbkcjeaaDoor
