import Derived.Test.YtcmjipgigkalcaaDoorChBegins
import Derived.Test.YtcmjipgigkalcaaDoorChSpan
import Derived.Test.YtcmjipgigkalcaaDoorChName
import Derived.Lib.ValidLaws
import Derived.Lib.TrimUEq
/-
  Plain mathematics: the characters whose bytes begin with given ones, by the program's way and by the document's.
-/
namespace Go.Proofs.YtcmjipgigkalcaaDoor.Ch
open Go.Lib

/-- does one of the ranges meet the numbers from a to h? -/
def ovR : List (Nat × Nat) → Int → Int → Bool
  | [], _, _ => false
  | p :: t, a, h => if max (p.1 : Int) a ≤ min (p.2 : Int) h then true else ovR t a h
theorem ovR_cons (p : Nat × Nat) (t : List (Nat × Nat)) (a h : Int) : ovR (p :: t) a h = if max (p.1 : Int) a ≤ min (p.2 : Int) h then true else ovR t a h := rfl
theorem ovR_empty (l : List (Nat × Nat)) {a h : Int} (hh : h < a) : ovR l a h = false := by
  induction l with
  | nil => rfl
  | cons p t ih => rw [ovR_cons, if_neg (by omega), ih]
theorem ovR_low {b : Nat} {l : List (Nat × Nat)} (hr : rise b l = true) (a : Int) {h : Int} (hh : h < b) : ovR l a h = false := by
  induction l generalizing b with
  | nil => rfl
  | cons p t ih =>
    obtain ⟨h1, h2, h3, h4⟩ := rise_cons hr
    rw [ovR_cons, if_neg (by omega), ih h4 (by omega)]
theorem next_ov {b : Nat} {l : List (Nat × Nat)} (hr : rise b l = true) (a h : Int) : ((nextR l (a - 1)).2 && decide ((nextR l (a - 1)).1 ≤ h)) = ovR l a h := by
  induction l generalizing b with
  | nil => rfl
  | cons p t ih =>
    obtain ⟨h1, h2, h3, h4⟩ := rise_cons hr
    rw [ovR_cons, nextR_cons]
    by_cases c : a - 1 < (p.2 : Int)
    · rw [if_pos c]
      simp only [Bool.true_and]
      by_cases d : max (p.1 : Int) (a - 1 + 1) ≤ h
      · rw [if_pos (by omega), decide_eq_true d]
      · rw [if_neg (by omega), decide_eq_false d, ovR_low h4 a (by omega)]
    · rw [if_neg c, if_neg (by omega), ih h4]
/-- no class has a number of the gap -/
def gapB (l : List (Nat × Nat)) : Bool := l.all fun p => decide (p.2 < 55296 ∨ 57343 < p.1)
theorem rg_gap (c : Int) : gapB (rg c) = true := by
  rcases rg_cases c with ⟨_, h⟩ | ⟨_, h⟩ | ⟨_, h⟩ | ⟨_, h⟩ | ⟨_, h⟩ | ⟨_, h⟩ | ⟨_, h⟩ <;> rw [h] <;> decide +kernel
theorem ovR_gap {l : List (Nat × Nat)} (hg : gapB l = true) {a h : Int} (ha : 55296 ≤ a) (hh : h ≤ 57343) : ovR l a h = false := by
  induction l with
  | nil => rfl
  | cons p t ih =>
    simp only [gapB, List.all_cons, Bool.and_eq_true, decide_eq_true_eq] at hg
    rw [ovR_cons, if_neg (by omega), ih (by simpa [gapB] using hg.2)]
theorem ovR_upto {l : List (Nat × Nat)} (hg : gapB l = true) (a : Int) : ovR l a 57343 = ovR l a 55295 := by
  induction l with
  | nil => rfl
  | cons p t ih =>
    simp only [gapB, List.all_cons, Bool.and_eq_true, decide_eq_true_eq] at hg
    rw [ovR_cons, ovR_cons, ih (by simpa [gapB] using hg.2)]
    by_cases c : max (p.1 : Int) a ≤ min (p.2 : Int) 55295
    · rw [if_pos c, if_pos (by omega)]
    · rw [if_neg c, if_neg (by omega)]

theorem size_kd (x : Nat) : Rn.size x ≤ kdK x := by
  unfold Rn.size kdK
  repeat' split
  all_goals omega
theorem fk1 (f : Nat → Nat) : Rn.fk f 1 = 1 ↔ 0 < Rn.size (f 0) := by
  unfold Rn.fk Rn.len
  repeat' split
  all_goals omega
theorem fk2 (f : Nat → Nat) : Rn.fk f 2 = 2 ↔ 1 < Rn.size (f 0) ∧ Rn.lo (f 0) ≤ f 1 ∧ f 1 ≤ Rn.hi (f 0) := by
  have := Rn.size_le (f 0)
  unfold Rn.fk Rn.len
  repeat' split
  all_goals omega
theorem fk3 (f : Nat → Nat) : Rn.fk f 3 = 3 ↔ 2 < Rn.size (f 0) ∧ Rn.lo (f 0) ≤ f 1 ∧ f 1 ≤ Rn.hi (f 0) ∧ 128 ≤ f 2 ∧ f 2 ≤ 191 := by
  have := Rn.size_le (f 0)
  unfold Rn.fk Rn.len
  repeat' split
  all_goals omega
theorem fk4 (f : Nat → Nat) : Rn.fk f 4 = 4 ↔ 3 < Rn.size (f 0) ∧ Rn.lo (f 0) ≤ f 1 ∧ f 1 ≤ Rn.hi (f 0) ∧ 128 ≤ f 2 ∧ f 2 ≤ 191 ∧ 128 ≤ f 3 ∧ f 3 ≤ 191 := by
  have := Rn.size_le (f 0)
  unfold Rn.fk Rn.len
  repeat' split
  all_goals omega
theorem tails1 (f : Nat → Nat) : tails f 1 = decide (128 ≤ f 1 ∧ f 1 ≤ 191) := by simp [tails]
theorem tails2 (f : Nat → Nat) : tails f 2 = (decide (128 ≤ f 1 ∧ f 1 ≤ 191) && decide (128 ≤ f 2 ∧ f 2 ≤ 191)) := by simp [tails]
theorem tails3 (f : Nat → Nat) : tails f 3 = (decide (128 ≤ f 1 ∧ f 1 ≤ 191) && decide (128 ≤ f 2 ∧ f 2 ≤ 191) && decide (128 ≤ f 3 ∧ f 3 ≤ 191)) := by simp [tails]

/-- the numbers of the document are the program's, but for the gap -/
def Same (f : Nat → Nat) (n : Nat) : Prop :=
  if Rn.fk f n = n then (span f n).1 = low f n ∧ ((span f n).2 = high f n ∨ ((span f n).2 = 57343 ∧ high f n = 55295))
  else (span f n).2 < (span f n).1 ∨ (55296 ≤ (span f n).1 ∧ (span f n).2 ≤ 57343)
theorem low_1 (f : Nat → Nat) : low f 1 = Rn.val (f 0) (Rn.lo (f 0)) 128 128 := rfl
theorem low_2 (f : Nat → Nat) : low f 2 = Rn.val (f 0) (f 1) 128 128 := rfl
theorem low_3 (f : Nat → Nat) : low f 3 = Rn.val (f 0) (f 1) (f 2) 128 := rfl
theorem low_4 (f : Nat → Nat) : low f 4 = Rn.val (f 0) (f 1) (f 2) (f 3) := rfl
theorem high_1 (f : Nat → Nat) : high f 1 = Rn.val (f 0) (Rn.hi (f 0)) 191 191 := rfl
theorem high_2 (f : Nat → Nat) : high f 2 = Rn.val (f 0) (f 1) 191 191 := rfl
theorem high_3 (f : Nat → Nat) : high f 3 = Rn.val (f 0) (f 1) (f 2) 191 := rfl
theorem high_4 (f : Nat → Nat) : high f 4 = Rn.val (f 0) (f 1) (f 2) (f 3) := rfl

theorem val_1 {b0 b1 b2 b3 : Nat} (e : Rn.size b0 = 1) : Rn.val b0 b1 b2 b3 = b0 := by unfold Rn.val; rw [e]; rfl
theorem val_2 {b0 b1 b2 b3 : Nat} (e : Rn.size b0 = 2) : Rn.val b0 b1 b2 b3 = b0 % 32 * 64 + b1 % 64 := by unfold Rn.val; rw [e]; rfl
theorem val_3 {b0 b1 b2 b3 : Nat} (e : Rn.size b0 = 3) : Rn.val b0 b1 b2 b3 = b0 % 16 * 4096 + b1 % 64 * 64 + b2 % 64 := by unfold Rn.val; rw [e]; rfl
theorem val_4 {b0 b1 b2 b3 : Nat} (e : Rn.size b0 = 4) : Rn.val b0 b1 b2 b3 = b0 % 8 * 262144 + b1 % 64 * 4096 + b2 % 64 * 64 + b3 % 64 := by unfold Rn.val; rw [e]; rfl
theorem up0 (a : Nat) : up a 0 = a := rfl
theorem up1 (a : Nat) : up a 1 = a * 64 := rfl
theorem up2 (a : Nat) : up a 2 = a * 64 * 64 := rfl
theorem up3 (a : Nat) : up a 3 = a * 64 * 64 * 64 := rfl
theorem dn0 (a : Nat) : dn a 0 = a := rfl
theorem dn1 (a : Nat) : dn a 1 = a * 64 + 63 := rfl
theorem dn2 (a : Nat) : dn a 2 = (a * 64 + 63) * 64 + 63 := rfl
theorem dn3 (a : Nat) : dn a 3 = ((a * 64 + 63) * 64 + 63) * 64 + 63 := rfl
theorem fst0 (f : Nat → Nat) : fst f 0 = kdF (f 0) := rfl
theorem fst1 (f : Nat → Nat) : fst f 1 = kdF (f 0) * 64 + (f 1 - 128) := rfl
theorem fst2 (f : Nat → Nat) : fst f 2 = (kdF (f 0) * 64 + (f 1 - 128)) * 64 + (f 2 - 128) := rfl
theorem fst3 (f : Nat → Nat) : fst f 3 = ((kdF (f 0) * 64 + (f 1 - 128)) * 64 + (f 2 - 128)) * 64 + (f 3 - 128) := rfl
theorem tails0 (f : Nat → Nat) : tails f 0 = true := rfl
theorem span_short (f : Nat → Nat) (n : Nat) (h : n = 0 ∨ 4 < n ∨ kdK (f 0) < n) : span f n = (1, 0) := by unfold span; rw [if_pos h]
theorem span_tails (f : Nat → Nat) (n : Nat) (h : tails f (n - 1) = false) : span f n = (1, 0) := by
  unfold span
  rw [h]
  simp
theorem span_in (f : Nat → Nat) (n : Nat) (h : ¬ (n = 0 ∨ 4 < n ∨ kdK (f 0) < n)) (ht : tails f (n - 1) = true) :
    (span f n).1 = max (up (fst f (n - 1)) (kdK (f 0) - n) : Int) (kdL (f 0)) ∧ (span f n).2 = min (dn (fst f (n - 1)) (kdK (f 0) - n) : Int) 1114111 := by
  unfold span
  rw [if_neg h, ht]
  exact ⟨rfl, rfl⟩
theorem same_none {f : Nat → Nat} {n : Nat} (hk : ¬ Rn.fk f n = n) (h : span f n = (1, 0)) : Same f n := by
  unfold Same
  rw [if_neg hk, h]
  left
  decide
set_option maxRecDepth 100000 in
set_option maxHeartbeats 1000000 in
theorem same_1 (f : Nat → Nat) (hf : ∀ j, f j < 256) : Same f 1 := by
  have h0 := hf 0
  have hfk := fk1 f
  have ht : tails f (1 - 1) = true := rfl
  rcases kd_cases (f 0) with ⟨g1, hK, hF, hL⟩ | ⟨g1, g2, hK, hF, hL⟩ | ⟨g1, g2, hK, hF, hL⟩ | ⟨g1, g2, hK, hF, hL⟩ | ⟨g1, g2, hK, hF, hL⟩ | ⟨g1, hK, hF, hL⟩
  · obtain ⟨s1, s2⟩ := span_in f 1 (by omega) ht
    rw [hK, hL] at s1
    simp only [Nat.reduceSub] at s1
    rw [up0, fst0, hF] at s1
    rw [hK] at s2
    simp only [Nat.reduceSub] at s2
    rw [dn0, fst0, hF] at s2
    unfold Same
    rw [low_1, high_1]
    generalize span f 1 = sp at *
    generalize f 0 = x0 at *
    rcases Rn.size_cases x0 with ⟨e, q⟩ | ⟨e, q1, q2, l, h⟩ | ⟨e, q1, q2, h⟩ | ⟨e, q1, q2, h⟩ | ⟨e, q1, q2⟩
    · rw [val_1 e, val_1 e]
      split <;> omega
    · omega
    · omega
    · omega
    · rw [if_neg (by omega)]
      omega
  · obtain ⟨s1, s2⟩ := span_in f 1 (by omega) ht
    rw [hK, hL] at s1
    simp only [Nat.reduceSub] at s1
    rw [up1, fst0, hF] at s1
    rw [hK] at s2
    simp only [Nat.reduceSub] at s2
    rw [dn1, fst0, hF] at s2
    unfold Same
    rw [low_1, high_1]
    generalize span f 1 = sp at *
    generalize f 0 = x0 at *
    rcases Rn.size_cases x0 with ⟨e, q⟩ | ⟨e, q1, q2, l, h⟩ | ⟨e, q1, q2, h⟩ | ⟨e, q1, q2, h⟩ | ⟨e, q1, q2⟩
    · omega
    · rw [val_2 e, val_2 e]
      split <;> omega
    · omega
    · omega
    · rw [if_neg (by omega)]
      omega
  · obtain ⟨s1, s2⟩ := span_in f 1 (by omega) ht
    rw [hK, hL] at s1
    simp only [Nat.reduceSub] at s1
    rw [up2, fst0, hF] at s1
    rw [hK] at s2
    simp only [Nat.reduceSub] at s2
    rw [dn2, fst0, hF] at s2
    unfold Same
    rw [low_1, high_1]
    generalize span f 1 = sp at *
    generalize f 0 = x0 at *
    rcases Rn.size_cases x0 with ⟨e, q⟩ | ⟨e, q1, q2, l, h⟩ | ⟨e, q1, q2, h⟩ | ⟨e, q1, q2, h⟩ | ⟨e, q1, q2⟩
    · omega
    · omega
    · rcases h with ⟨p1, p2, p3⟩ | ⟨p1, p2, p3⟩ | ⟨p1, p2, p3, p4⟩
      · rw [val_3 e, val_3 e]
        split <;> omega
      · rw [val_3 e, val_3 e]
        split <;> omega
      · rw [val_3 e, val_3 e]
        split <;> omega
    · omega
    · rw [if_neg (by omega)]
      omega
  · obtain ⟨s1, s2⟩ := span_in f 1 (by omega) ht
    rw [hK, hL] at s1
    simp only [Nat.reduceSub] at s1
    rw [up3, fst0, hF] at s1
    rw [hK] at s2
    simp only [Nat.reduceSub] at s2
    rw [dn3, fst0, hF] at s2
    unfold Same
    rw [low_1, high_1]
    generalize span f 1 = sp at *
    generalize f 0 = x0 at *
    rcases Rn.size_cases x0 with ⟨e, q⟩ | ⟨e, q1, q2, l, h⟩ | ⟨e, q1, q2, h⟩ | ⟨e, q1, q2, h⟩ | ⟨e, q1, q2⟩
    · omega
    · omega
    · omega
    · rcases h with ⟨p1, p2, p3⟩ | ⟨p1, p2, p3⟩ | ⟨p1, p2, p3, p4⟩
      · rw [val_4 e, val_4 e]
        split <;> omega
      · rw [val_4 e, val_4 e]
        split <;> omega
      · rw [val_4 e, val_4 e]
        split <;> omega
    · rw [if_neg (by omega)]
      omega
  · refine same_none (fun h => ?_) (span_short f 1 (.inr (.inr (by omega))))
    have hh := hfk.1 h
    have hs := size_kd (f 0)
    omega
  · refine same_none (fun h => ?_) (span_short f 1 (.inr (.inr (by omega))))
    have hh := hfk.1 h
    have hs := size_kd (f 0)
    omega
set_option maxRecDepth 100000 in
set_option maxHeartbeats 1000000 in
theorem same_2 (f : Nat → Nat) (hf : ∀ j, f j < 256) : Same f 2 := by
  have h0 := hf 0
  have h1 := hf 1
  have hfk := fk2 f
  cases ht : tails f (2 - 1)
  · refine same_none (fun h => ?_) (span_tails f 2 ht)
    have hh := hfk.1 h
    have hl := lo_hi (f 0)
    rw [show 2 - 1 = 1 from rfl, tails1] at ht
    simp at ht
    omega
  · rcases kd_cases (f 0) with ⟨g1, hK, hF, hL⟩ | ⟨g1, g2, hK, hF, hL⟩ | ⟨g1, g2, hK, hF, hL⟩ | ⟨g1, g2, hK, hF, hL⟩ | ⟨g1, g2, hK, hF, hL⟩ | ⟨g1, hK, hF, hL⟩
    · refine same_none (fun h => ?_) (span_short f 2 (.inr (.inr (by omega))))
      have hh := hfk.1 h
      have hs := size_kd (f 0)
      omega
    · obtain ⟨s1, s2⟩ := span_in f 2 (by omega) ht
      rw [hK, hL] at s1
      simp only [Nat.reduceSub] at s1
      rw [up0, fst1, hF] at s1
      rw [hK] at s2
      simp only [Nat.reduceSub] at s2
      rw [dn0, fst1, hF] at s2
      rw [show 2 - 1 = 1 from rfl, tails1] at ht
      simp at ht
      unfold Same
      rw [low_2, high_2]
      generalize span f 2 = sp at *
      generalize f 0 = x0 at *
      generalize f 1 = x1 at *
      rcases Rn.size_cases x0 with ⟨e, q⟩ | ⟨e, q1, q2, l, h⟩ | ⟨e, q1, q2, h⟩ | ⟨e, q1, q2, h⟩ | ⟨e, q1, q2⟩
      · omega
      · rw [val_2 e, val_2 e]
        split <;> omega
      · omega
      · omega
      · rw [if_neg (by omega)]
        omega
    · obtain ⟨s1, s2⟩ := span_in f 2 (by omega) ht
      rw [hK, hL] at s1
      simp only [Nat.reduceSub] at s1
      rw [up1, fst1, hF] at s1
      rw [hK] at s2
      simp only [Nat.reduceSub] at s2
      rw [dn1, fst1, hF] at s2
      rw [show 2 - 1 = 1 from rfl, tails1] at ht
      simp at ht
      unfold Same
      rw [low_2, high_2]
      generalize span f 2 = sp at *
      generalize f 0 = x0 at *
      generalize f 1 = x1 at *
      rcases Rn.size_cases x0 with ⟨e, q⟩ | ⟨e, q1, q2, l, h⟩ | ⟨e, q1, q2, h⟩ | ⟨e, q1, q2, h⟩ | ⟨e, q1, q2⟩
      · omega
      · omega
      · rcases h with ⟨p1, p2, p3⟩ | ⟨p1, p2, p3⟩ | ⟨p1, p2, p3, p4⟩
        · rw [val_3 e, val_3 e]
          split <;> omega
        · rw [val_3 e, val_3 e]
          split <;> omega
        · rw [val_3 e, val_3 e]
          split <;> omega
      · omega
      · rw [if_neg (by omega)]
        omega
    · obtain ⟨s1, s2⟩ := span_in f 2 (by omega) ht
      rw [hK, hL] at s1
      simp only [Nat.reduceSub] at s1
      rw [up2, fst1, hF] at s1
      rw [hK] at s2
      simp only [Nat.reduceSub] at s2
      rw [dn2, fst1, hF] at s2
      rw [show 2 - 1 = 1 from rfl, tails1] at ht
      simp at ht
      unfold Same
      rw [low_2, high_2]
      generalize span f 2 = sp at *
      generalize f 0 = x0 at *
      generalize f 1 = x1 at *
      rcases Rn.size_cases x0 with ⟨e, q⟩ | ⟨e, q1, q2, l, h⟩ | ⟨e, q1, q2, h⟩ | ⟨e, q1, q2, h⟩ | ⟨e, q1, q2⟩
      · omega
      · omega
      · omega
      · rcases h with ⟨p1, p2, p3⟩ | ⟨p1, p2, p3⟩ | ⟨p1, p2, p3, p4⟩
        · rw [val_4 e, val_4 e]
          split <;> omega
        · rw [val_4 e, val_4 e]
          split <;> omega
        · rw [val_4 e, val_4 e]
          split <;> omega
      · rw [if_neg (by omega)]
        omega
    · refine same_none (fun h => ?_) (span_short f 2 (.inr (.inr (by omega))))
      have hh := hfk.1 h
      have hs := size_kd (f 0)
      omega
    · refine same_none (fun h => ?_) (span_short f 2 (.inr (.inr (by omega))))
      have hh := hfk.1 h
      have hs := size_kd (f 0)
      omega
set_option maxRecDepth 100000 in
set_option maxHeartbeats 1000000 in
theorem same_3 (f : Nat → Nat) (hf : ∀ j, f j < 256) : Same f 3 := by
  have h0 := hf 0
  have h1 := hf 1
  have h2 := hf 2
  have hfk := fk3 f
  cases ht : tails f (3 - 1)
  · refine same_none (fun h => ?_) (span_tails f 3 ht)
    have hh := hfk.1 h
    have hl := lo_hi (f 0)
    rw [show 3 - 1 = 2 from rfl, tails2] at ht
    simp at ht
    omega
  · rcases kd_cases (f 0) with ⟨g1, hK, hF, hL⟩ | ⟨g1, g2, hK, hF, hL⟩ | ⟨g1, g2, hK, hF, hL⟩ | ⟨g1, g2, hK, hF, hL⟩ | ⟨g1, g2, hK, hF, hL⟩ | ⟨g1, hK, hF, hL⟩
    · refine same_none (fun h => ?_) (span_short f 3 (.inr (.inr (by omega))))
      have hh := hfk.1 h
      have hs := size_kd (f 0)
      omega
    · refine same_none (fun h => ?_) (span_short f 3 (.inr (.inr (by omega))))
      have hh := hfk.1 h
      have hs := size_kd (f 0)
      omega
    · obtain ⟨s1, s2⟩ := span_in f 3 (by omega) ht
      rw [hK, hL] at s1
      simp only [Nat.reduceSub] at s1
      rw [up0, fst2, hF] at s1
      rw [hK] at s2
      simp only [Nat.reduceSub] at s2
      rw [dn0, fst2, hF] at s2
      rw [show 3 - 1 = 2 from rfl, tails2] at ht
      simp at ht
      unfold Same
      rw [low_3, high_3]
      generalize span f 3 = sp at *
      generalize f 0 = x0 at *
      generalize f 1 = x1 at *
      generalize f 2 = x2 at *
      rcases Rn.size_cases x0 with ⟨e, q⟩ | ⟨e, q1, q2, l, h⟩ | ⟨e, q1, q2, h⟩ | ⟨e, q1, q2, h⟩ | ⟨e, q1, q2⟩
      · omega
      · omega
      · rcases h with ⟨p1, p2, p3⟩ | ⟨p1, p2, p3⟩ | ⟨p1, p2, p3, p4⟩
        · rw [val_3 e, val_3 e]
          split <;> omega
        · rw [val_3 e, val_3 e]
          split <;> omega
        · rw [val_3 e, val_3 e]
          split <;> omega
      · omega
      · rw [if_neg (by omega)]
        omega
    · obtain ⟨s1, s2⟩ := span_in f 3 (by omega) ht
      rw [hK, hL] at s1
      simp only [Nat.reduceSub] at s1
      rw [up1, fst2, hF] at s1
      rw [hK] at s2
      simp only [Nat.reduceSub] at s2
      rw [dn1, fst2, hF] at s2
      rw [show 3 - 1 = 2 from rfl, tails2] at ht
      simp at ht
      unfold Same
      rw [low_3, high_3]
      simp only [hfk]
      generalize span f 3 = sp at *
      generalize f 0 = x0 at *
      generalize f 1 = x1 at *
      generalize f 2 = x2 at *
      clear hfk hK hF hL
      obtain ⟨z, rfl⟩ : ∃ z, x0 = 240 + z := ⟨x0 - 240, by omega⟩
      obtain ⟨y1, rfl⟩ : ∃ y, x1 = 128 + y := ⟨x1 - 128, by omega⟩
      obtain ⟨y2, rfl⟩ : ∃ y, x2 = 128 + y := ⟨x2 - 128, by omega⟩
      have hy1 : y1 < 64 := by omega
      have hy2 : y2 < 64 := by omega
      rw [show 240 + z - 240 = z from by omega, show 128 + y1 - 128 = y1 from by omega, show 128 + y2 - 128 = y2 from by omega] at s1 s2
      rcases Rn.size_cases (240 + z) with ⟨e, q⟩ | ⟨e, q1, q2, l, h⟩ | ⟨e, q1, q2, h⟩ | ⟨e, q1, q2, h⟩ | ⟨e, q1, q2⟩
      · omega
      · omega
      · omega
      · rw [val_4 e, val_4 e, show (240 + z) % 8 = z from by omega, show (128 + y1) % 64 = y1 from by omega, show (128 + y2) % 64 = y2 from by omega, show 128 % 64 = 0 from rfl, show 191 % 64 = 63 from rfl]
        clear ht h0 h1 h2
        have hb : (z = 0 ∧ Rn.lo (240 + z) = 144 ∧ Rn.hi (240 + z) = 191) ∨ (z = 4 ∧ Rn.lo (240 + z) = 128 ∧ Rn.hi (240 + z) = 143) ∨ (1 ≤ z ∧ z ≤ 3 ∧ Rn.lo (240 + z) = 128 ∧ Rn.hi (240 + z) = 191) := by omega
        generalize Rn.lo (240 + z) = L at *
        generalize Rn.hi (240 + z) = M at *
        generalize Rn.size (240 + z) = S at *
        clear h q1 q2 g1 g2
        split
        · next hc =>
          rcases hb with ⟨p1, p2, p3⟩ | ⟨p1, p2, p3⟩ | ⟨p1, p4, p2, p3⟩
          · omega
          · omega
          · omega
        · next hc =>
          rcases hb with ⟨p1, p2, p3⟩ | ⟨p1, p2, p3⟩ | ⟨p1, p4, p2, p3⟩
          · omega
          · omega
          · omega
      · rw [if_neg (by omega)]
        omega
    · refine same_none (fun h => ?_) (span_short f 3 (.inr (.inr (by omega))))
      have hh := hfk.1 h
      have hs := size_kd (f 0)
      omega
    · refine same_none (fun h => ?_) (span_short f 3 (.inr (.inr (by omega))))
      have hh := hfk.1 h
      have hs := size_kd (f 0)
      omega
set_option maxRecDepth 100000 in
set_option maxHeartbeats 1000000 in
theorem same_4 (f : Nat → Nat) (hf : ∀ j, f j < 256) : Same f 4 := by
  have h0 := hf 0
  have h1 := hf 1
  have h2 := hf 2
  have h3 := hf 3
  have hfk := fk4 f
  cases ht : tails f (4 - 1)
  · refine same_none (fun h => ?_) (span_tails f 4 ht)
    have hh := hfk.1 h
    have hl := lo_hi (f 0)
    rw [show 4 - 1 = 3 from rfl, tails3] at ht
    simp at ht
    omega
  · rcases kd_cases (f 0) with ⟨g1, hK, hF, hL⟩ | ⟨g1, g2, hK, hF, hL⟩ | ⟨g1, g2, hK, hF, hL⟩ | ⟨g1, g2, hK, hF, hL⟩ | ⟨g1, g2, hK, hF, hL⟩ | ⟨g1, hK, hF, hL⟩
    · refine same_none (fun h => ?_) (span_short f 4 (.inr (.inr (by omega))))
      have hh := hfk.1 h
      have hs := size_kd (f 0)
      omega
    · refine same_none (fun h => ?_) (span_short f 4 (.inr (.inr (by omega))))
      have hh := hfk.1 h
      have hs := size_kd (f 0)
      omega
    · refine same_none (fun h => ?_) (span_short f 4 (.inr (.inr (by omega))))
      have hh := hfk.1 h
      have hs := size_kd (f 0)
      omega
    · obtain ⟨s1, s2⟩ := span_in f 4 (by omega) ht
      rw [hK, hL] at s1
      simp only [Nat.reduceSub] at s1
      rw [up0, fst3, hF] at s1
      rw [hK] at s2
      simp only [Nat.reduceSub] at s2
      rw [dn0, fst3, hF] at s2
      rw [show 4 - 1 = 3 from rfl, tails3] at ht
      simp at ht
      unfold Same
      rw [low_4, high_4]
      simp only [hfk]
      generalize span f 4 = sp at *
      generalize f 0 = x0 at *
      generalize f 1 = x1 at *
      generalize f 2 = x2 at *
      generalize f 3 = x3 at *
      clear hfk hK hF hL
      obtain ⟨z, rfl⟩ : ∃ z, x0 = 240 + z := ⟨x0 - 240, by omega⟩
      obtain ⟨y1, rfl⟩ : ∃ y, x1 = 128 + y := ⟨x1 - 128, by omega⟩
      obtain ⟨y2, rfl⟩ : ∃ y, x2 = 128 + y := ⟨x2 - 128, by omega⟩
      obtain ⟨y3, rfl⟩ : ∃ y, x3 = 128 + y := ⟨x3 - 128, by omega⟩
      have hy1 : y1 < 64 := by omega
      have hy2 : y2 < 64 := by omega
      have hy3 : y3 < 64 := by omega
      rw [show 240 + z - 240 = z from by omega, show 128 + y1 - 128 = y1 from by omega, show 128 + y2 - 128 = y2 from by omega, show 128 + y3 - 128 = y3 from by omega] at s1 s2
      rcases Rn.size_cases (240 + z) with ⟨e, q⟩ | ⟨e, q1, q2, l, h⟩ | ⟨e, q1, q2, h⟩ | ⟨e, q1, q2, h⟩ | ⟨e, q1, q2⟩
      · omega
      · omega
      · omega
      · rw [val_4 e, show (240 + z) % 8 = z from by omega, show (128 + y1) % 64 = y1 from by omega, show (128 + y2) % 64 = y2 from by omega, show (128 + y3) % 64 = y3 from by omega]
        clear ht h0 h1 h2 h3
        have hb : (z = 0 ∧ Rn.lo (240 + z) = 144 ∧ Rn.hi (240 + z) = 191) ∨ (z = 4 ∧ Rn.lo (240 + z) = 128 ∧ Rn.hi (240 + z) = 143) ∨ (1 ≤ z ∧ z ≤ 3 ∧ Rn.lo (240 + z) = 128 ∧ Rn.hi (240 + z) = 191) := by omega
        generalize Rn.lo (240 + z) = L at *
        generalize Rn.hi (240 + z) = M at *
        generalize Rn.size (240 + z) = S at *
        clear h q1 q2 g1 g2
        split
        · next hc =>
          rcases hb with ⟨p1, p2, p3⟩ | ⟨p1, p2, p3⟩ | ⟨p1, p4, p2, p3⟩
          · omega
          · omega
          · omega
        · next hc =>
          rcases hb with ⟨p1, p2, p3⟩ | ⟨p1, p2, p3⟩ | ⟨p1, p4, p2, p3⟩
          · omega
          · omega
          · omega
      · rw [if_neg (by omega)]
        omega
    · refine same_none (fun h => ?_) (span_short f 4 (.inr (.inr (by omega))))
      have hh := hfk.1 h
      have hs := size_kd (f 0)
      omega
    · refine same_none (fun h => ?_) (span_short f 4 (.inr (.inr (by omega))))
      have hh := hfk.1 h
      have hs := size_kd (f 0)
      omega
theorem same_all (f : Nat → Nat) (n : Nat) (hf : ∀ j, f j < 256) (hn : 0 < n) : Same f n := by
  by_cases h : 4 < n
  · refine same_none (fun hk => ?_) (span_short f n (.inr (.inl h)))
    have := Rn.fk_le_fs f n
    have := Rn.fs_le f n
    omega
  · have h4 : n = 1 ∨ n = 2 ∨ n = 3 ∨ n = 4 := by omega
    rcases h4 with rfl | rfl | rfl | rfl
    · exact same_1 f hf
    · exact same_2 f hf
    · exact same_3 f hf
    · exact same_4 f hf
/-- Begins, by the program and by the document -/
theorem beg_eq (c : Int) (f : Nat → Nat) (n : Nat) (hf : ∀ j, f j < 256) : begP c f n = ovR (rg c) (span f n).1 (span f n).2 := by
  by_cases h0 : n = 0
  · subst h0
    rw [span_short f 0 (.inl rfl)]
    unfold begP
    rw [if_neg (by omega), ovR_empty _ (by decide)]
  · have h := same_all f n hf (by omega)
    unfold Same at h
    unfold begP
    by_cases hk : Rn.fk f n = n
    · rw [if_pos hk] at h
      rw [if_pos ⟨by omega, hk⟩, nextT_eq]
      have e := next_ov (rg_rise c) (low f n) (high f n)
      rw [h.1]
      rcases h.2 with h2 | ⟨h2, h3⟩
      · rw [h2]; exact e
      · rw [h2, ovR_upto (rg_gap c)]
        rw [h3] at e ⊢
        exact e
    · rw [if_neg hk] at h
      rw [if_neg (fun q => hk q.2)]
      rcases h with h | ⟨h, h'⟩
      · rw [ovR_empty _ h]
      · rw [ovR_gap (rg_gap c) h h']
end Go.Proofs.YtcmjipgigkalcaaDoor.Ch
/-
  Plain mathematics: are bytes characters all through, step by step; what a U+FFFD of Go's range stands for.
-/
namespace Go.Proofs.YtcmjipgigkalcaaDoor.Ch
open Go.Lib

/-- are the bytes from a place on characters all through? -/
def V (f : Nat → Nat) (n p : Nat) : Bool := validD ((Rn.arr f n).data.toList.drop p)
theorem V_zero (f : Nat → Nat) (n : Nat) : V f n 0 = valid f n := by simp [V, valid]
theorem arr_len (f : Nat → Nat) (n : Nat) : (Rn.arr f n).data.toList.length = n := by simp [Rn.arr]
theorem V_end (f : Nat → Nat) (n p : Nat) (h : ¬ p < n) : V f n p = true := by
  unfold V
  rw [List.drop_eq_nil_of_le (by rw [arr_len]; omega)]
  rfl
theorem V_step (f : Nat → Nat) (n p : Nat) (hf : ∀ j, f j < 256) (h : p < n) :
    V f n p = if (Rn.dec (Rn.off f p) (n - p)).1 = 65533 ∧ (Rn.dec (Rn.off f p) (n - p)).2 = 1 then false else V f n (p + (Rn.dec (Rn.off f p) (n - p)).2) := by
  unfold V
  rw [validD_step _ (by intro e; have := congrArg List.length e; rw [List.length_drop, arr_len] at this; simp at this; omega), decodeL_drop, Rn.arr_decode f n p hf h, List.drop_drop]
/-- .. by the front -/
theorem dec_wrong (f : Nat → Nat) (n : Nat) (hf : ∀ j, f j < 256) (h : 0 < n) : ((Rn.dec f n).1 = 65533 ∧ (Rn.dec f n).2 = 1) ↔ Rn.whole f n = false := by
  rw [Rn.dec_whole f n hf h]
  cases hw : Rn.whole f n
  · simp
  · simp only [if_true, Bool.true_eq_false, iff_false]
    rintro ⟨h1, h2⟩
    have := Rn.whole_one f n h2
    omega
/-- U+FFFD that is written out -/
theorem dec_fffd (f : Nat → Nat) (n : Nat) (hf : ∀ j, f j < 256) (h : 0 < n) (hr : (Rn.dec f n).1 = 65533) :
    ((Rn.dec f n).2 = 1 ∧ ¬ (2 < n ∧ f 0 = 239 ∧ f 1 = 191 ∧ f 2 = 189)) ∨ ((Rn.dec f n).2 = 3 ∧ 2 < n ∧ f 0 = 239 ∧ f 1 = 191 ∧ f 2 = 189) := by
  have f0 := hf 0
  have f1 := hf 1
  have f2 := hf 2
  have f3 := hf 3
  rw [Rn.dec_whole f n hf h] at hr ⊢
  cases hw : Rn.whole f n
  · simp only [Bool.false_eq_true, if_false]
    refine .inl ⟨trivial, ?_⟩
    rintro ⟨h1, h2, h3, h4⟩
    rw [Rn.whole, decide_eq_false_iff_not] at hw
    apply hw
    have es : Rn.fs f n = 3 := by
      unfold Rn.fs
      rw [if_neg (by omega), h2]
      rfl
    rw [es]
    refine ⟨by omega, ?_⟩
    unfold Rn.fk
    rw [Rn.len3 (by rw [h2]; rfl), h2, h3, h4]
    exact ⟨h1, by decide, by decide, by decide, by decide⟩
  · rw [hw] at hr
    simp only [if_true] at hr ⊢
    rw [Rn.whole, decide_eq_true_eq] at hw
    have es : Rn.fs f n = Rn.size (f 0) := by
      unfold Rn.fs
      rw [if_neg (by omega)]
    rw [es] at hw ⊢
    unfold Rn.fv Rn.val at hr
    unfold Rn.fk at hw
    rcases Rn.size_cases (f 0) with ⟨e, c⟩ | ⟨e, c, d, _⟩ | ⟨e, c, d, _⟩ | ⟨e, c, d, hh⟩ | ⟨e, c⟩
    · rw [e] at hr; simp at hr; omega
    · rw [e] at hr; simp at hr; omega
    · rw [e] at hr hw ⊢
      rw [Rn.len3 e] at hw
      simp at hr
      right
      have hx := hw.2
      refine ⟨rfl, by omega, ?_⟩
      have hlo : 128 ≤ f 1 ∧ f 1 ≤ 191 := by
        have h1 := hx.2.1
        have h2 := hx.2.2.1
        unfold Rn.lo at h1
        unfold Rn.hi at h2
        constructor
        · split at h1
          · omega
          · split at h1 <;> omega
        · split at h2
          · omega
          · split at h2 <;> omega
      omega
    · rw [e] at hr hw
      rw [Rn.len4 e] at hw
      simp at hr
      exfalso
      have hx := hw.2
      have hlo : (f 0 = 240 → 144 ≤ f 1) ∧ f 1 ≤ 191 ∧ 128 ≤ f 1 := by
        rcases hh with ⟨a, b, c⟩ | ⟨a, b, c⟩ | ⟨a, b, c, d⟩ <;> omega
      omega
    · rw [e] at hw; omega
end Go.Proofs.YtcmjipgigkalcaaDoor.Ch
