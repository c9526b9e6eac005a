/-
  THE WALK over gimletlaw03.WordsOrder: of any two texts.
-/
import Derived.Test.YtfbjkebinbemdaaDoorWdSub
import Derived.Test.YtfbjkebinbemdaaDoorWdAwake
import Derived.Deep.QuietTactic
import Derived.BigQuiet
namespace Go.Proofs.YtfbjkebinbemdaaDoor
open Go.RowKit Go.Shelf

namespace Wd
theorem sub_all (L : List Nat) : sub L 0 (L.length : Int) = L := by simp [sub]
theorem cm_lt {x y : Int} (h : x < y) : cm x y = -1 := by unfold cm; rw [if_pos h]
theorem cm_gt {x y : Int} (h : y < x) : cm x y = 1 := by unfold cm; rw [if_neg (by omega), if_pos h]
theorem cm_eq (x : Int) : cm x x = 0 := by unfold cm; rw [if_neg (by omega), if_neg (by omega)]
/-- does an unlike pair lie on the two sides of the units' gap? -/
def gap (a b : Nat) : Bool := decide (65535 < max (a : Int) b ∧ 57344 ≤ min (a : Int) b ∧ min (a : Int) b ≤ 65535)
theorem un_low (r : Int) (h : r ≤ 65535) : un r = r * 65536 := by unfold un; rw [if_pos h]
theorem un_high (r : Int) (h : 65535 < r) : un r = (55296 + (r - 65536) / 1024) * 65536 + 56320 + (r - 65536) % 1024 := by unfold un; rw [if_neg (by omega)]
/-- the order by units of two unlike characters -/
theorem un_cmp (a b : Nat) (ha : Rn.scal a) (hb : Rn.scal b) (h : a ≠ b) : (gap a b = false ∧ cm (un a) (un b) = cm a b) ∨ (gap a b = true ∧ cm (un a) (un b) = - cm a b) := by
  unfold Rn.scal at ha hb
  by_cases h1 : (a : Int) ≤ 65535
  · by_cases h2 : (b : Int) ≤ 65535
    · left
      refine ⟨by unfold gap; rw [decide_eq_false_iff_not]; omega, ?_⟩
      rw [un_low _ h1, un_low _ h2]
      unfold cm
      by_cases e : (a : Int) < b
      · rw [if_pos e, if_pos (by omega)]
      · rw [if_neg e, if_neg (by omega), if_pos (by omega), if_pos (by omega)]
    · rw [un_low _ h1, un_high _ (by omega), cm_lt (show (a : Int) < b by omega)]
      by_cases h3 : 57344 ≤ (a : Int)
      · right
        exact ⟨by unfold gap; rw [decide_eq_true_eq]; omega, cm_gt (by omega)⟩
      · left
        exact ⟨by unfold gap; rw [decide_eq_false_iff_not]; omega, cm_lt (by omega)⟩
  · by_cases h2 : (b : Int) ≤ 65535
    · rw [un_low _ h2, un_high _ (by omega), cm_gt (show (b : Int) < a by omega)]
      by_cases h3 : 57344 ≤ (b : Int)
      · right
        exact ⟨by unfold gap; rw [decide_eq_true_eq]; omega, cm_lt (by omega)⟩
      · left
        exact ⟨by unfold gap; rw [decide_eq_false_iff_not]; omega, cm_gt (by omega)⟩
    · left
      refine ⟨by unfold gap; rw [decide_eq_false_iff_not]; omega, ?_⟩
      rw [un_high _ (by omega), un_high _ (by omega)]
      rcases Nat.lt_or_gt_of_ne h with e | e
      · rw [cm_lt (show (a : Int) < b by omega), cm_lt (by omega)]
      · rw [cm_gt (show (b : Int) < a by omega), cm_gt (by omega)]
theorem gap_no {p q r : Prop} [Decidable p] [Decidable q] [Decidable r] {c u : Int} (h : decide (p ∧ q ∧ r) = decide (c ≠ u)) (hn : ¬ (p ∧ q ∧ r)) : c = u := by
  rw [decide_eq_false hn] at h
  have := of_decide_eq_false h.symm
  omega
/-- what both orders say of two texts -/
structure Both (L M : List Nat) (c u : Int) : Prop where
  five : (c = 0 ∧ u = 0) ∨ (c = -1 ∧ u = -1) ∨ (c = 1 ∧ u = 1) ∨ (c = -1 ∧ u = 1) ∨ (c = 1 ∧ u = -1)
  same : ((Rn.tx L).toList == (Rn.tx M).toList) = decide (c = 0)
  less : Op.bytesLess (Rn.tx L).toList (Rn.tx M).toList = decide (c < 0)
  part : ∀ P a b L' M', L = P ++ a :: L' → M = P ++ b :: M' → a ≠ b → gap a b = decide (c ≠ u)
  pre : ∀ P L' M', L = P ++ L' → M = P ++ M' → (L' = [] ∨ M' = []) → c = u
theorem part_uniq {P Q L L' M M' : List Nat} {a b c d : Nat} (h1 : P ++ a :: L = Q ++ c :: L') (h2 : P ++ b :: M = Q ++ d :: M') (hab : a ≠ b) (hcd : c ≠ d) : a = c ∧ b = d := by
  induction P generalizing Q with
  | nil =>
    cases Q with
    | nil =>
      simp at h1 h2
      exact ⟨h1.1, h2.1⟩
    | cons q Q =>
      simp at h1 h2
      exact absurd (h1.1.trans h2.1.symm) hab
  | cons p P ih =>
    cases Q with
    | nil =>
      simp at h1 h2
      exact absurd (h1.1.symm.trans h2.1) hcd
    | cons q Q =>
      simp at h1 h2
      exact ih h1.2 h2.2
theorem both (L M : List Nat) (hL : ∀ r ∈ L, Rn.scal r) (hM : ∀ r ∈ M, Rn.scal r) : Both L M (cmp L M) (cmpU L M) := by
  have hp := part L M
  unfold cmp cmpU
  have un1 : un (-1) = -65536 := by unfold un; rw [if_pos (by omega)]; rfl
  have unp : ∀ b : Nat, Rn.scal b → (0 : Int) ≤ un b := by
    intro b hb
    unfold Rn.scal at hb
    by_cases h : (b : Int) ≤ 65535
    · rw [un_low _ h]; omega
    · rw [un_high _ (by omega)]; omega
  cases hp with
  | same =>
    rw [fu_same, cm_eq, cm_eq]
    refine ⟨.inl ⟨rfl, rfl⟩, ?_, ?_, ?_, fun _ _ _ _ _ _ => rfl⟩
    · simp [Rn.tx_toList]
    · rw [Rn.tx_toList, Rn.less_self]; rfl
    · intro P a b L' M' h1 h2 hab
      rw [h1] at h2
      simp at h2
      exact absurd h2.1 hab
  | left _ b M' =>
    have hb := hM b (by simp)
    rw [fu_left, cm_lt (show (-1 : Int) < b by omega), un1, cm_lt (by have := unp b hb; show (-65536 : Int) < un b; omega)]
    obtain ⟨q1, q2⟩ := Rn.cat_short L [] (b :: M') (.inl rfl)
    rw [List.append_nil] at q1 q2
    refine ⟨.inr (.inl ⟨rfl, rfl⟩), ?_, ?_, ?_, fun _ _ _ _ _ _ => rfl⟩
    · rw [Rn.tx_toList, Rn.tx_toList]
      simp [q2]
    · rw [Rn.tx_toList, Rn.tx_toList, q1]
      simp
    · intro P x y L' M'' h1 h2 hxy
      rw [h1, List.append_assoc] at h2
      simp at h2
      exact absurd h2.1 hxy
  | right _ a L' =>
    have ha := hL a (by simp)
    rw [fu_right, cm_gt (show (-1 : Int) < a by omega), un1, cm_gt (by have := unp a ha; show (-65536 : Int) < un a; omega)]
    obtain ⟨q1, q2⟩ := Rn.cat_short M (a :: L') [] (.inr rfl)
    rw [List.append_nil] at q1 q2
    refine ⟨.inr (.inr (.inl ⟨rfl, rfl⟩)), ?_, ?_, ?_, fun _ _ _ _ _ _ => rfl⟩
    · rw [Rn.tx_toList, Rn.tx_toList]
      simp [q2]
    · rw [Rn.tx_toList, Rn.tx_toList, q1]
      simp
    · intro P x y L'' M'' h1 h2 hxy
      rw [h2, List.append_assoc] at h1
      simp at h1
      exact absurd h1.1.symm hxy
  | ne P a b L' M' h =>
    have ha := hL a (by simp)
    have hb := hM b (by simp)
    rw [fu_part P a b L' M' h]
    obtain ⟨q1, q2⟩ := Rn.cat_part P L' M' a b ha hb h
    simp only []
    have hcm : cm (a : Int) b = if a < b then -1 else 1 := by
      split
      · exact cm_lt (by omega)
      · exact cm_gt (by omega)
    have hne : ((Rn.tx (P ++ a :: L')).toList == (Rn.tx (P ++ b :: M')).toList) = false := by
      rw [Rn.tx_toList, Rn.tx_toList]
      simpa using q2
    have hle : Op.bytesLess (Rn.tx (P ++ a :: L')).toList (Rn.tx (P ++ b :: M')).toList = decide (a < b) := by
      rw [Rn.tx_toList, Rn.tx_toList, q1]
    have hpre : ∀ Q L'' M'', P ++ a :: L' = Q ++ L'' → P ++ b :: M' = Q ++ M'' → (L'' = [] ∨ M'' = []) → False := by
      intro Q L'' M'' h1 h2 h3
      rcases h3 with rfl | rfl
      · rw [List.append_nil] at h1
        rw [← h1, List.append_assoc] at h2
        simp at h2
        exact h h2.1.symm
      · rw [List.append_nil] at h2
        rw [← h2, List.append_assoc] at h1
        simp at h1
        exact h h1.1
    have hg : ∀ Q x y L'' M'', P ++ a :: L' = Q ++ x :: L'' → P ++ b :: M' = Q ++ y :: M'' → x ≠ y → gap x y = gap a b := by
      intro Q x y L'' M'' h1 h2 hxy
      obtain ⟨rfl, rfl⟩ := part_uniq h1 h2 h hxy
      rfl
    rcases un_cmp a b ha hb h with ⟨g1, g2⟩ | ⟨g1, g2⟩
    · rw [g2, hcm]
      by_cases e : a < b
      · rw [if_pos e]
        refine ⟨.inr (.inl ⟨rfl, rfl⟩), by rw [hne]; rfl, by rw [hle]; simp [e], fun Q x y L'' M'' h1 h2 hxy => by rw [hg Q x y L'' M'' h1 h2 hxy, g1]; rfl, fun _ _ _ _ _ _ => rfl⟩
      · rw [if_neg e]
        refine ⟨.inr (.inr (.inl ⟨rfl, rfl⟩)), by rw [hne]; rfl, by rw [hle]; simp [e], fun Q x y L'' M'' h1 h2 hxy => by rw [hg Q x y L'' M'' h1 h2 hxy, g1]; rfl, fun _ _ _ _ _ _ => rfl⟩
    · rw [g2, hcm]
      by_cases e : a < b
      · rw [if_pos e]
        refine ⟨.inr (.inr (.inr (.inl ⟨rfl, rfl⟩))), by rw [hne]; rfl, by rw [hle]; simp [e], fun Q x y L'' M'' h1 h2 hxy => by rw [hg Q x y L'' M'' h1 h2 hxy, g1]; rfl, fun Q L'' M'' h1 h2 h3 => (hpre Q L'' M'' h1 h2 h3).elim⟩
      · rw [if_neg e]
        refine ⟨.inr (.inr (.inr (.inr ⟨rfl, rfl⟩))), by rw [hne]; rfl, by rw [hle]; simp [e], fun Q x y L'' M'' h1 h2 hxy => by rw [hg Q x y L'' M'' h1 h2 hxy, g1]; rfl, fun Q L'' M'' h1 h2 h3 => (hpre Q L'' M'' h1 h2 h3).elim⟩
end Wd

set_option maxRecDepth 100000 in
set_option maxHeartbeats 8000000 in
theorem lawWOrder_any (f : Nat → Nat) (n : Nat) (g : Nat → Nat) (m : Nat) (w : World) (hT : Lib.Utf8Tabs 0 1 w) (hf : ∀ j, f j < 256) (hg : ∀ j, g j < 256) (hn : n ≤ 1099511627776) (hm : m ≤ 1099511627776) :
    Calls Tryd.prog 8 #[.string (Rn.arr f n), .string (Rn.arr g m)] w fun e w' => e = .returned (.bool true) ∧ Below w.heap.size w w' := by
  have c0 := wAwake_any w hT
  have c1 : ∀ w1, Below w.heap.size w w1 → _ := fun w1 hb => compare_any f n g m w1 hf hg (tabs_below hT hb (Nat.le_refl _))
  have c2 : ∀ w1, Below w.heap.size w w1 → _ := fun w1 hb => compareUnits_any f n g m w1 hf hg (tabs_below hT hb (Nat.le_refl _))
  have c3 : ∀ w1, Below w.heap.size w w1 → _ := fun w1 hb => compare_any g m f n w1 hg hf (tabs_below hT hb (Nat.le_refl _))
  have c4 : ∀ w1, Below w.heap.size w w1 → _ := fun w1 hb => compareUnits_any g m f n w1 hg hf (tabs_below hT hb (Nat.le_refl _))
  rw [Wd.cmp_swap (Wd.R f n 0) (Wd.R g m 0)] at c3
  rw [Wd.cmpU_swap (Wd.R f n 0) (Wd.R g m 0)] at c4
  have c5 := fun w1 => length_any f n w1 hf (by omega)
  have c6 := fun w1 => length_any g m w1 hg (by omega)
  have hl1 := Wd.R_length f n 0 hf
  have hl2 := Wd.R_length g m 0 hg
  have c7 := fun w1 => sub_any f n 0 (Wd.R f n 0).length w1 hf hn (by omega) (by omega) (by omega) (by omega)
  have c8 := fun w1 => sub_any g m 0 (Wd.R g m 0).length w1 hg hm (by omega) (by omega) (by omega) (by omega)
  rw [Wd.sub_all] at c7 c8
  have k1 := fun w1 => conv_runes f n w1 hf (by omega)
  have k2 := fun w1 => conv_runes g m w1 hg (by omega)
  rw [Wd.R_rl] at k1 k2
  have HB := hide' (Wd.both (Wd.R f n 0) (Wd.R g m 0) (Wd.R_scal f n 0 hf) (Wd.R_scal g m 0 hg))
  generalize Wd.R f n 0 = L at *
  generalize Wd.R g m 0 = M at *
  generalize Wd.cmp L M = c at *
  generalize Wd.cmpU L M = u at *
  have hsame : ((Rn.tx L).toList == (Rn.tx M).toList) = (c == 0) := by rw [HB.out.same, Bool.eq_iff_iff]; simp
  have hless := HB.out.less
  have hzero : (u == 0) = (c == 0) := by rcases HB.out.five with ⟨h1, h2⟩ | ⟨h1, h2⟩ | ⟨h1, h2⟩ | ⟨h1, h2⟩ | ⟨h1, h2⟩ <;> rw [h1, h2] <;> rfl
  have hb1 : -1 ≤ c ∧ c ≤ 1 ∧ -1 ≤ u ∧ u ≤ 1 := by have := HB.out.five; omega
  obtain ⟨hc1, hc2, hu1, hu2⟩ := hb1
  clear hT
  go_enter Tryd.func8, Tryd.ntmps8
  go_wp2_with fail
  refine c0.mono ?_
  rintro e w0 ⟨rfl, hB0⟩
  clear c0
  go_wp2_with fail
  refine (c1 w0 hB0).mono ?_
  rintro e w1 ⟨rfl, hb1⟩
  have hB1 := hB0.trans (hb1.mono hB0.size)
  clear c1
  go_wp2_with fail
  refine (c2 w1 hB1).mono ?_
  rintro e w2 ⟨rfl, hb2⟩
  have hB2 := hB1.trans (hb2.mono hB1.size)
  clear c2
  go_wp2_with fail
  refine (c3 w2 hB2).mono ?_
  rintro e w3 ⟨rfl, hb3⟩
  have hB3 := hB2.trans (hb3.mono hB2.size)
  clear c3
  go_wp2_with fail
  refine (c4 w3 hB3).mono ?_
  rintro e w4 ⟨rfl, hb4⟩
  have hB4 := hB3.trans (hb4.mono hB3.size)
  clear c4
  go_wp2_with fail
  refine (c5 w4).mono ?_
  rintro e w5 ⟨rfl, hb5⟩
  have hB5 := hB4.trans (hb5.mono hB4.size)
  clear c5
  go_wp2_with fail
  refine (c7 w5).mono ?_
  rintro e w6 ⟨rfl, hb6⟩
  have hB6 := hB5.trans (hb6.mono hB5.size)
  clear c7
  go_wp2_with fail
  refine (c6 w6).mono ?_
  rintro e w7 ⟨rfl, hb7⟩
  have hB7 := hB6.trans (hb7.mono hB6.size)
  clear c6
  go_wp2_with fail
  refine (c8 w7).mono ?_
  rintro e w8 ⟨rfl, hb8⟩
  have hB8 := hB7.trans (hb8.mono hB7.size)
  clear c8
  obtain ⟨p1, w9, r9, a1, a2, a3, a4, a5, -⟩ := k1 w8
  obtain ⟨p2, w10, r10, b1, b2, b3, b4, b5, -⟩ := k2 w9
  have hB10 := hB8.trans ((a4.mono hB8.size).trans (b4.mono (by have := hB8.size; have := a4.size; omega)))
  have hx := a3.row.below b4 (Nat.le_refl _)
  have hy := b3.row
  clear k1 k2 hb1 hb2 hb3 hb4 hb5 hb6 hb7 hb8 hB0 hB1 hB2 hB3 hB4 hB5 hB6 hB7 a3 b3
  unfold maxLen at a2 b2
  go_wp2_with fail
  have HP := hide' HB.out.part
  have HE := hide' HB.out.pre
  clear HB hsame hless hzero
  go_loopw [11] (fun i wr => ∃ k : Nat, i = .int .i64 k ∧ Below w10.heap.size w10 wr ∧ Hid (L.take k = M.take k) ∧ k ≤ L.length ∧ k ≤ M.length) (fun i _ => L.length - (RowKit.intOf i).toNat)
  case atStart => exact ⟨0, rfl, Below.refl _ _, rfl, by omega, by omega⟩
  case round =>
    obtain ⟨k, rfl, hB, ht, hk1, hk2⟩ := hrel
    have hBw := hB10.trans (hB.mono hB10.size)
    by_cases hl : k < L.length ∧ k < M.length
    · obtain ⟨l1, l2⟩ := hl
      have g1 : (k : Int) < L.length := by omega
      have g2 : (k : Int) < M.length := by omega
      have cx := (hx.below hB (Nat.le_refl _)) k l1
      have cy := (hy.below hB (Nat.le_refl _)) k l2
      rw [Nat.zero_add] at cx
      rw [Nat.zero_add, a5] at cy
      have eL : L = L.take k ++ Wd.lg L k :: L.drop (k + 1) := by simp [Wd.lg, l1]
      have eM : M = L.take k ++ Wd.lg M k :: M.drop (k + 1) := by rw [ht.out]; simp [Wd.lg, l2]
      clear r9 r10 hB10 hB8 a4 b4 hx hy
      by_cases he : Wd.lg L k = Wd.lg M k
      · have ht' : L.take (k + 1) = M.take (k + 1) := by
          have h1 : L[k] = M[k] := by simpa [Wd.lg, l1, l2] using he
          rw [List.take_add_one, List.take_add_one, ht.out, List.getElem?_eq_getElem l1, List.getElem?_eq_getElem l2, h1]
        have HT := hide' ht'
        rw [he] at cx
        clear ht' eL eM he
        generalize Wd.lg M k = b at *
        have n1 : ((b : Int) == b) = true := by simp
        go_wp2
        go_quiet (fail)
        go_wp2
        go_roundw
        case rel => exact ⟨k + 1, by go_num, below_drewN hB _, HT, by omega, by omega⟩
        case measure => simp [RowKit.intOf]; omega
      · have hgap := HP.out _ _ _ _ _ eL eM he
        clear eL eM
        generalize Wd.lg L k = a at *
        generalize Wd.lg M k = b at *
        have n1 : ¬ ((a : Int) = b) := by omega
        unfold Wd.gap at hgap
        have HG := hide' hgap
        clear hgap he
        go_wp2
        go_quiet (fail)
        go_wp2
        go_quiet (fail)
        go_wp2
        go_quiet (fail)
        by_cases q1 : 65535 < max (a : Int) b
        · by_cases q2 : 57344 ≤ min (a : Int) b
          · by_cases q3 : min (a : Int) b ≤ 65535
            · go_wp2
              go_ret
              refine ⟨ret_bool ?_, below_drewN hBw _⟩
              have h := HG.out
              rw [decide_eq_true ⟨q1, q2, q3⟩] at h
              have h2 : c ≠ u := of_decide_eq_true h.symm
              simp [h2]
            · go_wp2
              go_ret
              refine ⟨ret_bool ?_, below_drewN hBw _⟩
              have h2 : c = u := Wd.gap_no HG.out (by omega)
              simp [h2]
          · go_wp2
            go_ret
            refine ⟨ret_bool ?_, below_drewN hBw _⟩
            have h2 : c = u := Wd.gap_no HG.out (by omega)
            simp [h2]
        · go_wp2
          go_ret
          refine ⟨ret_bool ?_, below_drewN hBw _⟩
          have h2 : c = u := Wd.gap_no HG.out (by omega)
          simp [h2]
    · have hE := HE.out (L.take k) (L.drop k) (M.drop k) (by simp) (by rw [ht.out]; simp) (by
        by_cases h : k < L.length
        · right; exact List.drop_eq_nil_of_le (by omega)
        · left; exact List.drop_eq_nil_of_le (by omega))
      subst hE
      have e1 : (c == c) = true := by simp
      clear r9 r10 hB8 a4 b4 hx hy
      by_cases h : k < L.length
      · have g1 : (k : Int) < L.length := by omega
        have g2 : ¬ (k : Int) < M.length := by omega
        go_wp2
        go_ret
        exact ⟨rfl, hBw⟩
      · have g1 : ¬ (k : Int) < L.length := by omega
        go_wp2
        go_ret
        exact ⟨rfl, hBw⟩
end Go.Proofs.YtfbjkebinbemdaaDoor
