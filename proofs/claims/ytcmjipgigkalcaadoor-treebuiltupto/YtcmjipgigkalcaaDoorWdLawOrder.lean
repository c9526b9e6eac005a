import Derived.Test.YtcmjipgigkalcaaDoorWdStands
import Derived.Test.YtcmjipgigkalcaaDoorWdFu
import Derived.Laws.ShiftsVarLaws
import Derived.Deep.QuietTactic
import Derived.BigQuiet
/-
  WALKS over words.Border, the document's Stands (what it draws), Border, and the statement's same.
-/
namespace Go.Proofs.YtcmjipgigkalcaaDoor
open Go.RowKit

namespace Wd
def stB (l p : Nat → Nat) (ll m n : Nat) : Bool := decide (n + m ≤ ll ∧ ∀ i, i < m → l (n + i) = p i)
theorem stB_true {l p : Nat → Nat} {ll m n : Nat} : stB l p ll m n = true ↔ n + m ≤ ll ∧ St l p m n := by
  unfold stB St
  rw [decide_eq_true_eq]
theorem stB_no {l p : Nat → Nat} {ll m n k : Nat} (hk : k < m) (h : l (n + k) ≠ p k) : stB l p ll m n = false := by
  rw [Bool.eq_false_iff]
  intro h1
  exact h ((stB_true.1 h1).2 k hk)
end Wd

/-- numbers in a block of their own -/
structure IB (w : World) (b m : Nat) (bf : Nat → Nat) (cur : Array Value) : Prop where
  blk : w.heap[b]? = some (.cells cur 3 (0, 0))
  size : cur.size = m
  get : ∀ j, j < m → cur[j]? = some (.int .i64 (bf j))
theorem IB.row {w : World} {b m : Nat} {bf : Nat → Nat} {cur : Array Value} (h : IB w b m bf cur) : Row .i64 w b 0 m bf := fun j hj => by
  rw [Lib.cell_of_heap h.blk, Nat.zero_add]
  exact h.get j hj
theorem IB.below {w w' : World} {b m : Nat} {bf : Nat → Nat} {cur : Array Value} (h : IB w b m bf cur) {B : Nat} (hb : Below B w w') (hB : w.heap.size ≤ B) : IB w' b m bf cur :=
  ⟨(hb.block b (Nat.lt_of_lt_of_le (Array.getElem?_eq_some_iff.1 h.blk).1 hB)).trans h.blk, h.size, h.get⟩

end Go.Proofs.YtcmjipgigkalcaaDoor
/-
  WALKS over the document's text, Length, Sub, Reverse, order, Compare.
-/
namespace Go.Proofs.YtcmjipgigkalcaaDoor
open Go.RowKit

set_option maxHeartbeats 1000000 in
theorem order_any (a b : Int) (w : World) :
    Calls Tryd.prog 54 #[.int .i64 a, .int .i64 b] w fun e w' => e = .returned (.int .i64 (Wd.cm a b)) ∧ w' = w := by
  unfold Wd.cm
  by_cases h1 : a < b
  · rw [if_pos h1]
    go_enter Tryd.func54, Tryd.ntmps54
    go_wp2
    go_ret
    exact ⟨rfl, rfl⟩
  · rw [if_neg h1]
    by_cases h2 : b < a
    · rw [if_pos h2]
      go_enter Tryd.func54, Tryd.ntmps54
      go_wp2
      go_ret
      exact ⟨rfl, rfl⟩
    · rw [if_neg h2]
      go_enter Tryd.func54, Tryd.ntmps54
      go_wp2
      go_ret
      exact ⟨rfl, rfl⟩

namespace Wd
theorem take0 (L M : List Nat) : Hid (L.take 0 = M.take 0) := by
  show L.take 0 = M.take 0
  rw [List.take_zero, List.take_zero]
theorem cm_lt' {x y : Int} (h : x < y) : cm x y = -1 := by unfold cm; rw [if_pos h]
theorem cm_gt' {x y : Int} (h : y < x) : cm x y = 1 := by unfold cm; rw [if_neg (by omega), if_pos h]
theorem cm_eq' (x : Int) : cm x x = 0 := by unfold cm; rw [if_neg (by omega), if_neg (by omega)]
/-- where the first k are alike -/
theorem cmp_at {L M : List Nat} {k : Nat} (ht : L.take k = M.take k) (h1 : k < L.length) (h2 : k < M.length) (hne : lg L k ≠ lg M k) : cmp L M = cm (lg L k) (lg M k) := by
  have eL : L = L.take k ++ lg L k :: L.drop (k + 1) := by simp [lg, h1]
  have eM : M = L.take k ++ lg M k :: M.drop (k + 1) := by rw [ht]; simp [lg, h2]
  unfold cmp
  have := fu_part (L.take k) (lg L k) (lg M k) (L.drop (k + 1)) (M.drop (k + 1)) hne
  rw [← eL, ← eM] at this
  rw [this]
theorem cmp_end {L M : List Nat} {k : Nat} (ht : L.take k = M.take k) (hk1 : k ≤ L.length) (hk2 : k ≤ M.length) (h : ¬ (k < L.length ∧ k < M.length)) : cmp L M = cm L.length M.length := by
  unfold cmp
  by_cases e : k < L.length
  · have h2 : M.length = k := by omega
    have eM : M = L.take k := by rw [ht, List.take_of_length_le (by omega)]
    have eL : L = L.take k ++ lg L k :: L.drop (k + 1) := by simp [lg, e]
    have := fu_right (L.take k) (lg L k) (L.drop (k + 1))
    rw [← eL, ← eM] at this
    rw [this, cm_gt' (by simp only []; omega), cm_gt' (by omega)]
  · have h1 : L.length = k := by omega
    have eL : L = M.take k := by rw [← ht, List.take_of_length_le (by omega)]
    by_cases e2 : k < M.length
    · have eM : M = M.take k ++ lg M k :: M.drop (k + 1) := by simp [lg, e2]
      have := fu_left (M.take k) (lg M k) (M.drop (k + 1))
      rw [← eM, ← eL] at this
      rw [this, cm_lt' (by simp only []; omega), cm_lt' (by omega)]
    · have eM : M = M.take k := (List.take_of_length_le (by omega)).symm
      rw [← eM] at eL
      rw [eL, fu_same, cm_eq', cm_eq']
theorem take_snoc_eq {L M : List Nat} {k : Nat} (ht : L.take k = M.take k) (h1 : k < L.length) (h2 : k < M.length) (he : lg L k = lg M k) : L.take (k + 1) = M.take (k + 1) := by
  have h : L[k] = M[k] := by simpa [lg, h1, h2] using he
  rw [List.take_add_one, List.take_add_one, ht, List.getElem?_eq_getElem h1, List.getElem?_eq_getElem h2, h]
end Wd

set_option maxRecDepth 100000 in
set_option maxHeartbeats 2000000 in
theorem refCompare_any (f : Nat → Nat) (n : Nat) (g : Nat → Nat) (m : Nat) (w : World) (hf : ∀ j, f j < 256) (hg : ∀ j, g j < 256) (hn : n ≤ 1099511627776) (hm : m ≤ 1099511627776) :
    Calls Tryd.prog 41 #[.string (Rn.arr f n), .string (Rn.arr g m)] w fun e w' => e = .returned (.int .i64 (Wd.cmp (Wd.R f n 0) (Wd.R g m 0))) ∧ Below w.heap.size w w' := by
  have c1 := refRunes_any f n w hf hn
  have c2 := fun w1 => refRunes_any g m w1 hg hm
  have hl1 := Wd.R_length f n 0 hf
  have hl2 := Wd.R_length g m 0 hg
  generalize Wd.R f n 0 = L at *
  generalize Wd.R g m 0 = M at *
  obtain ⟨z, hz⟩ : ∃ z, z = Wd.cmp L M := ⟨_, rfl⟩
  rw [← hz]
  have HZ := hide' hz
  clear hz
  go_enter Tryd.func41, Tryd.ntmps41
  go_wp2_with fail
  refine c1.mono ?_
  rintro e w1 ⟨v1, rfl, hr1, hb1⟩
  go_wp2_with fail
  refine (c2 w1).mono ?_
  rintro e w2 ⟨v2, rfl, hr2, hb2⟩
  have hr1' := hr1.below hb2 (Nat.le_refl _)
  have hB2 := hb1.trans (hb2.mono hb1.size)
  obtain ⟨p1, k1, rfl, a1, a2, a3⟩ := hr1'
  obtain ⟨p2, k2, rfl, b1, b2, b3⟩ := hr2
  clear hr1 c1 c2
  go_wp2_with fail
  go_loopw [7] (fun a wr => ∃ k : Nat, a = .int .i64 k ∧ k ≤ L.length ∧ k ≤ M.length ∧ Hid (L.take k = M.take k) ∧ Below w2.heap.size w2 wr) (fun a _ => L.length - (intOf a).toNat)
  case atStart => exact ⟨0, rfl, Nat.zero_le _, Nat.zero_le _, Wd.take0 L M, Below.refl _ _⟩
  case round =>
    obtain ⟨k, rfl, hk1, hk2, ht, hB⟩ := hrel
    have hBw := hB2.trans (hB.mono hB2.size)
    by_cases hl : k < L.length ∧ k < M.length
    · obtain ⟨l1, l2⟩ := hl
      have g1 : (k : Int) < L.length := by omega
      have g2 : (k : Int) < M.length := by omega
      rcases a3 with h0 | ⟨ga, oa, rfl, ra⟩
      · omega
      rcases b3 with h0 | ⟨gb, ob, rfl, rb⟩
      · omega
      have cx := (ra.below hB (Nat.le_refl _)) k l1
      have cy := (rb.below hB (Nat.le_refl _)) k l2
      clear ra rb
      by_cases he : Wd.lg L k = Wd.lg M k
      · have HT := hide' (Wd.take_snoc_eq ht.out l1 l2 he)
        rw [he] at cx
        clear he
        generalize Wd.lg M k = b at *
        have n1 : ¬ (b : Int) < b := by omega
        go_wp2
        go_quiet (fail)
        go_wp2
        go_quiet (fail)
        go_wp2
        go_roundw
        case rel => exact ⟨k + 1, by go_num, by omega, by omega, HT, below_drewN hB _⟩
        case measure => simp [intOf]; omega
      · have hz := Wd.cmp_at ht.out l1 l2 he
        generalize Wd.lg L k = a at *
        generalize Wd.lg M k = b at *
        by_cases h : (a : Int) < b
        · rw [Wd.cm_lt' h] at hz
          have HZ2 := hide' (HZ.out.trans hz)
          clear hz HZ
          go_wp2
          go_quiet (fail)
          go_wp2
          go_ret
          exact ⟨ret_int HZ2.out.symm, by first | exact below_drewN hBw _ | exact below_drewN (below_drewN hBw _) _⟩
        · have h' : (b : Int) < a := by omega
          rw [Wd.cm_gt' h'] at hz
          have HZ2 := hide' (HZ.out.trans hz)
          clear hz HZ
          go_wp2
          go_quiet (fail)
          go_wp2
          go_quiet (fail)
          go_wp2
          go_ret
          exact ⟨ret_int HZ2.out.symm, by first | exact below_drewN hBw _ | exact below_drewN (below_drewN hBw _) _⟩
    · have HZ2 := hide' (HZ.out.trans (Wd.cmp_end ht.out hk1 hk2 hl))
      clear HZ a3 b3
      by_cases h : k < L.length
      · have g1 : (k : Int) < L.length := by omega
        have g2 : ¬ (k : Int) < M.length := by omega
        go_wp2_with (go_at_call 54; refine (order_any _ _ _).mono ?_; rintro e w' ⟨rfl, rfl⟩)
        go_ret
        exact ⟨ret_int HZ2.out.symm, hBw⟩
      · have g1 : ¬ (k : Int) < L.length := by omega
        go_wp2_with (go_at_call 54; refine (order_any _ _ _).mono ?_; rintro e w' ⟨rfl, rfl⟩)
        go_ret
        exact ⟨ret_int HZ2.out.symm, hBw⟩
end Go.Proofs.YtcmjipgigkalcaaDoor
/-
  WALKS over cmp.Compare, words.units, words.Compare, words.CompareUnits, words.Begins.
-/
namespace Go.Proofs.YtcmjipgigkalcaaDoor
open Go.RowKit Go.Lib

theorem fu_lt : ∀ L M : List Nat, (∀ r ∈ L, Rn.scal r) → (∀ r ∈ M, Rn.scal r) → (-1 ≤ (Wd.fu L M).1 ∧ (Wd.fu L M).1 < 1114112) ∧ (-1 ≤ (Wd.fu L M).2 ∧ (Wd.fu L M).2 < 1114112)
  | [], [], _, _ => by simp [Wd.fu]
  | [], b :: _, _, h => by
    have := (h b (by simp)).1
    simp only [Wd.fu]
    omega
  | a :: _, [], h, _ => by
    have := (h a (by simp)).1
    simp only [Wd.fu]
    omega
  | a :: L, b :: M, hL, hM => by
    have h1 := (hL a (by simp)).1
    have h2 := (hM b (by simp)).1
    simp only [Wd.fu]
    split
    · exact fu_lt L M (fun r hr => hL r (by simp [hr])) (fun r hr => hM r (by simp [hr]))
    · simp only []
      omega

end Go.Proofs.YtcmjipgigkalcaaDoor
/-
  THE WALK over gimletlaw03.awake: answers that the document fixes.
-/
namespace Go.Proofs.YtcmjipgigkalcaaDoor
open Go.RowKit Go.Shelf

namespace Wd
theorem aw_find : FIs (lg [97, 98, 97, 98, 99]) 5 (lg [97, 98, 99]) 3 2 := by
  refine .inr ⟨2, rfl, by omega, fun i hi => ?_, fun k hk => ?_⟩
  · have : i = 0 ∨ i = 1 ∨ i = 2 := by omega
    rcases this with rfl | rfl | rfl <;> rfl
  · intro h
    have : k = 0 ∨ k = 1 := by omega
    rcases this with rfl | rfl
    · have := h 2 (by omega)
      simp [lg] at this
    · have := h 0 (by omega)
      simp [lg] at this
end Wd

end Go.Proofs.YtcmjipgigkalcaaDoor
/-
  THE WALK over gimletlaw03.WordsOrder: of any two texts.
-/
namespace Go.Proofs.YtcmjipgigkalcaaDoor
open Go.RowKit Go.Shelf

namespace Wd
theorem sub_all (L : List Nat) : sub L 0 (L.length : Int) = L := by simp [sub]
theorem cm_lt {x y : Int} (h : x < y) : cm x y = -1 := by unfold cm; rw [if_pos h]
theorem cm_gt {x y : Int} (h : y < x) : cm x y = 1 := by unfold cm; rw [if_neg (by omega), if_pos h]
theorem cm_eq (x : Int) : cm x x = 0 := by unfold cm; rw [if_neg (by omega), if_neg (by omega)]
/-- does an unlike pair lie on the two sides of the units' gap? -/
def gap (a b : Nat) : Bool := decide (65535 < max (a : Int) b ∧ 57344 ≤ min (a : Int) b ∧ min (a : Int) b ≤ 65535)
theorem un_low (r : Int) (h : r ≤ 65535) : un r = r * 65536 := by unfold un; rw [if_pos h]
theorem un_high (r : Int) (h : 65535 < r) : un r = (55296 + (r - 65536) / 1024) * 65536 + 56320 + (r - 65536) % 1024 := by unfold un; rw [if_neg (by omega)]
/-- the order by units of two unlike characters -/
theorem un_cmp (a b : Nat) (ha : Rn.scal a) (hb : Rn.scal b) (h : a ≠ b) : (gap a b = false ∧ cm (un a) (un b) = cm a b) ∨ (gap a b = true ∧ cm (un a) (un b) = - cm a b) := by
  unfold Rn.scal at ha hb
  by_cases h1 : (a : Int) ≤ 65535
  · by_cases h2 : (b : Int) ≤ 65535
    · left
      refine ⟨by unfold gap; rw [decide_eq_false_iff_not]; omega, ?_⟩
      rw [un_low _ h1, un_low _ h2]
      unfold cm
      by_cases e : (a : Int) < b
      · rw [if_pos e, if_pos (by omega)]
      · rw [if_neg e, if_neg (by omega), if_pos (by omega), if_pos (by omega)]
    · rw [un_low _ h1, un_high _ (by omega), cm_lt (show (a : Int) < b by omega)]
      by_cases h3 : 57344 ≤ (a : Int)
      · right
        exact ⟨by unfold gap; rw [decide_eq_true_eq]; omega, cm_gt (by omega)⟩
      · left
        exact ⟨by unfold gap; rw [decide_eq_false_iff_not]; omega, cm_lt (by omega)⟩
  · by_cases h2 : (b : Int) ≤ 65535
    · rw [un_low _ h2, un_high _ (by omega), cm_gt (show (b : Int) < a by omega)]
      by_cases h3 : 57344 ≤ (b : Int)
      · right
        exact ⟨by unfold gap; rw [decide_eq_true_eq]; omega, cm_lt (by omega)⟩
      · left
        exact ⟨by unfold gap; rw [decide_eq_false_iff_not]; omega, cm_gt (by omega)⟩
    · left
      refine ⟨by unfold gap; rw [decide_eq_false_iff_not]; omega, ?_⟩
      rw [un_high _ (by omega), un_high _ (by omega)]
      rcases Nat.lt_or_gt_of_ne h with e | e
      · rw [cm_lt (show (a : Int) < b by omega), cm_lt (by omega)]
      · rw [cm_gt (show (b : Int) < a by omega), cm_gt (by omega)]
theorem gap_no {p q r : Prop} [Decidable p] [Decidable q] [Decidable r] {c u : Int} (h : decide (p ∧ q ∧ r) = decide (c ≠ u)) (hn : ¬ (p ∧ q ∧ r)) : c = u := by
  rw [decide_eq_false hn] at h
  have := of_decide_eq_false h.symm
  omega
/-- what both orders say of two texts -/
structure Both (L M : List Nat) (c u : Int) : Prop where
  five : (c = 0 ∧ u = 0) ∨ (c = -1 ∧ u = -1) ∨ (c = 1 ∧ u = 1) ∨ (c = -1 ∧ u = 1) ∨ (c = 1 ∧ u = -1)
  same : ((Rn.tx L).toList == (Rn.tx M).toList) = decide (c = 0)
  less : Op.bytesLess (Rn.tx L).toList (Rn.tx M).toList = decide (c < 0)
  part : ∀ P a b L' M', L = P ++ a :: L' → M = P ++ b :: M' → a ≠ b → gap a b = decide (c ≠ u)
  pre : ∀ P L' M', L = P ++ L' → M = P ++ M' → (L' = [] ∨ M' = []) → c = u
theorem part_uniq {P Q L L' M M' : List Nat} {a b c d : Nat} (h1 : P ++ a :: L = Q ++ c :: L') (h2 : P ++ b :: M = Q ++ d :: M') (hab : a ≠ b) (hcd : c ≠ d) : a = c ∧ b = d := by
  induction P generalizing Q with
  | nil =>
    cases Q with
    | nil =>
      simp at h1 h2
      exact ⟨h1.1, h2.1⟩
    | cons q Q =>
      simp at h1 h2
      exact absurd (h1.1.trans h2.1.symm) hab
  | cons p P ih =>
    cases Q with
    | nil =>
      simp at h1 h2
      exact absurd (h1.1.symm.trans h2.1) hcd
    | cons q Q =>
      simp at h1 h2
      exact ih h1.2 h2.2
theorem both (L M : List Nat) (hL : ∀ r ∈ L, Rn.scal r) (hM : ∀ r ∈ M, Rn.scal r) : Both L M (cmp L M) (cmpU L M) := by
  have hp := part L M
  unfold cmp cmpU
  have un1 : un (-1) = -65536 := by unfold un; rw [if_pos (by omega)]; rfl
  have unp : ∀ b : Nat, Rn.scal b → (0 : Int) ≤ un b := by
    intro b hb
    unfold Rn.scal at hb
    by_cases h : (b : Int) ≤ 65535
    · rw [un_low _ h]; omega
    · rw [un_high _ (by omega)]; omega
  cases hp with
  | same =>
    rw [fu_same, cm_eq, cm_eq]
    refine ⟨.inl ⟨rfl, rfl⟩, ?_, ?_, ?_, fun _ _ _ _ _ _ => rfl⟩
    · simp [Rn.tx_toList]
    · rw [Rn.tx_toList, Rn.less_self]; rfl
    · intro P a b L' M' h1 h2 hab
      rw [h1] at h2
      simp at h2
      exact absurd h2.1 hab
  | left _ b M' =>
    have hb := hM b (by simp)
    rw [fu_left, cm_lt (show (-1 : Int) < b by omega), un1, cm_lt (by have := unp b hb; show (-65536 : Int) < un b; omega)]
    obtain ⟨q1, q2⟩ := Rn.cat_short L [] (b :: M') (.inl rfl)
    rw [List.append_nil] at q1 q2
    refine ⟨.inr (.inl ⟨rfl, rfl⟩), ?_, ?_, ?_, fun _ _ _ _ _ _ => rfl⟩
    · rw [Rn.tx_toList, Rn.tx_toList]
      simp [q2]
    · rw [Rn.tx_toList, Rn.tx_toList, q1]
      simp
    · intro P x y L' M'' h1 h2 hxy
      rw [h1, List.append_assoc] at h2
      simp at h2
      exact absurd h2.1 hxy
  | right _ a L' =>
    have ha := hL a (by simp)
    rw [fu_right, cm_gt (show (-1 : Int) < a by omega), un1, cm_gt (by have := unp a ha; show (-65536 : Int) < un a; omega)]
    obtain ⟨q1, q2⟩ := Rn.cat_short M (a :: L') [] (.inr rfl)
    rw [List.append_nil] at q1 q2
    refine ⟨.inr (.inr (.inl ⟨rfl, rfl⟩)), ?_, ?_, ?_, fun _ _ _ _ _ _ => rfl⟩
    · rw [Rn.tx_toList, Rn.tx_toList]
      simp [q2]
    · rw [Rn.tx_toList, Rn.tx_toList, q1]
      simp
    · intro P x y L'' M'' h1 h2 hxy
      rw [h2, List.append_assoc] at h1
      simp at h1
      exact absurd h1.1.symm hxy
  | ne P a b L' M' h =>
    have ha := hL a (by simp)
    have hb := hM b (by simp)
    rw [fu_part P a b L' M' h]
    obtain ⟨q1, q2⟩ := Rn.cat_part P L' M' a b ha hb h
    simp only []
    have hcm : cm (a : Int) b = if a < b then -1 else 1 := by
      split
      · exact cm_lt (by omega)
      · exact cm_gt (by omega)
    have hne : ((Rn.tx (P ++ a :: L')).toList == (Rn.tx (P ++ b :: M')).toList) = false := by
      rw [Rn.tx_toList, Rn.tx_toList]
      simpa using q2
    have hle : Op.bytesLess (Rn.tx (P ++ a :: L')).toList (Rn.tx (P ++ b :: M')).toList = decide (a < b) := by
      rw [Rn.tx_toList, Rn.tx_toList, q1]
    have hpre : ∀ Q L'' M'', P ++ a :: L' = Q ++ L'' → P ++ b :: M' = Q ++ M'' → (L'' = [] ∨ M'' = []) → False := by
      intro Q L'' M'' h1 h2 h3
      rcases h3 with rfl | rfl
      · rw [List.append_nil] at h1
        rw [← h1, List.append_assoc] at h2
        simp at h2
        exact h h2.1.symm
      · rw [List.append_nil] at h2
        rw [← h2, List.append_assoc] at h1
        simp at h1
        exact h h1.1
    have hg : ∀ Q x y L'' M'', P ++ a :: L' = Q ++ x :: L'' → P ++ b :: M' = Q ++ y :: M'' → x ≠ y → gap x y = gap a b := by
      intro Q x y L'' M'' h1 h2 hxy
      obtain ⟨rfl, rfl⟩ := part_uniq h1 h2 h hxy
      rfl
    rcases un_cmp a b ha hb h with ⟨g1, g2⟩ | ⟨g1, g2⟩
    · rw [g2, hcm]
      by_cases e : a < b
      · rw [if_pos e]
        refine ⟨.inr (.inl ⟨rfl, rfl⟩), by rw [hne]; rfl, by rw [hle]; simp [e], fun Q x y L'' M'' h1 h2 hxy => by rw [hg Q x y L'' M'' h1 h2 hxy, g1]; rfl, fun _ _ _ _ _ _ => rfl⟩
      · rw [if_neg e]
        refine ⟨.inr (.inr (.inl ⟨rfl, rfl⟩)), by rw [hne]; rfl, by rw [hle]; simp [e], fun Q x y L'' M'' h1 h2 hxy => by rw [hg Q x y L'' M'' h1 h2 hxy, g1]; rfl, fun _ _ _ _ _ _ => rfl⟩
    · rw [g2, hcm]
      by_cases e : a < b
      · rw [if_pos e]
        refine ⟨.inr (.inr (.inr (.inl ⟨rfl, rfl⟩))), by rw [hne]; rfl, by rw [hle]; simp [e], fun Q x y L'' M'' h1 h2 hxy => by rw [hg Q x y L'' M'' h1 h2 hxy, g1]; rfl, fun Q L'' M'' h1 h2 h3 => (hpre Q L'' M'' h1 h2 h3).elim⟩
      · rw [if_neg e]
        refine ⟨.inr (.inr (.inr (.inr ⟨rfl, rfl⟩))), by rw [hne]; rfl, by rw [hle]; simp [e], fun Q x y L'' M'' h1 h2 hxy => by rw [hg Q x y L'' M'' h1 h2 hxy, g1]; rfl, fun Q L'' M'' h1 h2 h3 => (hpre Q L'' M'' h1 h2 h3).elim⟩
end Wd

end Go.Proofs.YtcmjipgigkalcaaDoor
