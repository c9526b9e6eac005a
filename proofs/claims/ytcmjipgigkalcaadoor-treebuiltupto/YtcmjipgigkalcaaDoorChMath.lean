/-
  Plain mathematics: the classes' ranges of characters; what Is, Next and Count say by a list of ranges.
-/
import Derived.Test.YtcmjipgigkalcaaDoorRnPlain
namespace Go.Proofs.YtcmjipgigkalcaaDoor.Ch

/-- a range of a class: the class, its least and its greatest character -/
abbrev Sp := Nat × Nat × Nat
/-- the program's table -/
def tab : List Sp := [(0, 9, 10), (0, 13, 13), (0, 32, 55295), (0, 57344, 65533), (0, 65536, 1114111),
  (1, 9, 10), (1, 13, 13), (1, 32, 32),
  (2, 65, 90), (2, 95, 95), (2, 97, 122), (2, 192, 214), (2, 216, 246), (2, 248, 767), (2, 880, 893), (2, 895, 8191), (2, 8204, 8205), (2, 8304, 8591), (2, 11264, 12271), (2, 12289, 55295), (2, 63744, 64975), (2, 65008, 65533), (2, 65536, 983039),
  (3, 45, 46), (3, 48, 57), (3, 65, 90), (3, 95, 95), (3, 97, 122), (3, 183, 183), (3, 192, 214), (3, 216, 246), (3, 248, 893), (3, 895, 8191), (3, 8204, 8205), (3, 8255, 8256), (3, 8304, 8591), (3, 11264, 12271), (3, 12289, 55295), (3, 63744, 64975), (3, 65008, 65533), (3, 65536, 983039),
  (4, 48, 57), (5, 48, 57), (5, 65, 70), (5, 97, 102)]
theorem tab_length : tab.length = 45 := by decide
theorem tab_small : ∀ s ∈ tab, s.1 ≤ 5 ∧ s.2.1 ≤ s.2.2 ∧ s.2.2 ≤ 1114111 := by decide

/-- what the three calls say of a list of ranges of many classes -/
def isT : List Sp → Int → Int → Bool
  | [], _, _ => false
  | s :: t, c, r => if (s.1 : Int) = c ∧ (s.2.1 : Int) ≤ r ∧ r ≤ (s.2.2 : Int) then true else isT t c r
def nextT : List Sp → Int → Int → Int × Bool
  | [], _, _ => (0, false)
  | s :: t, c, r => if (s.1 : Int) = c ∧ r < (s.2.2 : Int) then (max (s.2.1 : Int) (r + 1), true) else nextT t c r
def countT : List Sp → Int → Int → Int
  | [], _, _ => 0
  | s :: t, c, r => (if (s.1 : Int) = c ∧ (s.2.1 : Int) ≤ r then min (s.2.2 : Int) r - s.2.1 + 1 else 0) + countT t c r

theorem isT_cons (s : Sp) (t : List Sp) (c r : Int) : isT (s :: t) c r = if (s.1 : Int) = c ∧ (s.2.1 : Int) ≤ r ∧ r ≤ (s.2.2 : Int) then true else isT t c r := rfl
theorem nextT_cons (s : Sp) (t : List Sp) (c r : Int) : nextT (s :: t) c r = if (s.1 : Int) = c ∧ r < (s.2.2 : Int) then (max (s.2.1 : Int) (r + 1), true) else nextT t c r := rfl
theorem countT_cons (s : Sp) (t : List Sp) (c r : Int) : countT (s :: t) c r = (if (s.1 : Int) = c ∧ (s.2.1 : Int) ≤ r then min (s.2.2 : Int) r - s.2.1 + 1 else 0) + countT t c r := rfl

/-- .. and of one class's ranges -/
def isR : List (Nat × Nat) → Int → Bool
  | [], _ => false
  | p :: t, r => if (p.1 : Int) ≤ r ∧ r ≤ (p.2 : Int) then true else isR t r
def nextR : List (Nat × Nat) → Int → Int × Bool
  | [], _ => (0, false)
  | p :: t, r => if r < (p.2 : Int) then (max (p.1 : Int) (r + 1), true) else nextR t r
def countR : List (Nat × Nat) → Int → Int
  | [], _ => 0
  | p :: t, r => (if (p.1 : Int) ≤ r then min (p.2 : Int) r - p.1 + 1 else 0) + countR t r

/-- the ranges of a class -/
def pick (l : List Sp) (c : Int) : List (Nat × Nat) := (l.filter fun s => decide ((s.1 : Int) = c)).map (·.2)
theorem pick_cons (s : Sp) (l : List Sp) (c : Int) : pick (s :: l) c = if (s.1 : Int) = c then s.2 :: pick l c else pick l c := by
  unfold pick
  by_cases h : (s.1 : Int) = c
  · simp [h]
  · simp [h]
theorem isT_eq : ∀ (l : List Sp) (c r : Int), isT l c r = isR (pick l c) r
  | [], _, _ => rfl
  | s :: l, c, r => by
    rw [pick_cons]
    unfold isT
    by_cases h : (s.1 : Int) = c
    · simp only [h, true_and, if_true]; unfold isR; rw [isT_eq l c r]
    · simp only [h, false_and, if_false]; exact isT_eq l c r
theorem nextT_eq : ∀ (l : List Sp) (c r : Int), nextT l c r = nextR (pick l c) r
  | [], _, _ => rfl
  | s :: l, c, r => by
    rw [pick_cons]
    unfold nextT
    by_cases h : (s.1 : Int) = c
    · simp only [h, true_and, if_true]; unfold nextR; rw [nextT_eq l c r]
    · simp only [h, false_and, if_false]; exact nextT_eq l c r
theorem countT_eq : ∀ (l : List Sp) (c r : Int), countT l c r = countR (pick l c) r
  | [], _, _ => rfl
  | s :: l, c, r => by
    rw [pick_cons]
    unfold countT
    by_cases h : (s.1 : Int) = c
    · simp only [h, true_and, if_true]; unfold countR; rw [countT_eq l c r]
    · simp only [h, false_and, if_false]; rw [countT_eq l c r]; omega

/-- a class's ranges -/
def rg (c : Int) : List (Nat × Nat) := pick tab c
theorem rg_none (c : Int) (h : c < 0 ∨ 5 < c) : rg c = [] := by
  unfold rg pick
  rw [List.map_eq_nil_iff, List.filter_eq_nil_iff]
  intro s hs
  have := (tab_small s hs).1
  simp
  omega
def rg0 : List (Nat × Nat) := [(9, 10), (13, 13), (32, 55295), (57344, 65533), (65536, 1114111)]
def rg1 : List (Nat × Nat) := [(9, 10), (13, 13), (32, 32)]
def rg2 : List (Nat × Nat) := [(65, 90), (95, 95), (97, 122), (192, 214), (216, 246), (248, 767), (880, 893), (895, 8191), (8204, 8205), (8304, 8591), (11264, 12271), (12289, 55295), (63744, 64975), (65008, 65533), (65536, 983039)]
def rg3 : List (Nat × Nat) := [(45, 46), (48, 57), (65, 90), (95, 95), (97, 122), (183, 183), (192, 214), (216, 246), (248, 893), (895, 8191), (8204, 8205), (8255, 8256), (8304, 8591), (11264, 12271), (12289, 55295), (63744, 64975), (65008, 65533), (65536, 983039)]
def rg4 : List (Nat × Nat) := [(48, 57)]
def rg5 : List (Nat × Nat) := [(48, 57), (65, 70), (97, 102)]
theorem rg_0 : rg 0 = rg0 := by decide +kernel
theorem rg_1 : rg 1 = rg1 := by decide +kernel
theorem rg_2 : rg 2 = rg2 := by decide +kernel
theorem rg_3 : rg 3 = rg3 := by decide +kernel
theorem rg_4 : rg 4 = rg4 := by decide +kernel
theorem rg_5 : rg 5 = rg5 := by decide +kernel
theorem rg_cases (c : Int) : (c = 0 ∧ rg c = rg0) ∨ (c = 1 ∧ rg c = rg1) ∨ (c = 2 ∧ rg c = rg2) ∨ (c = 3 ∧ rg c = rg3) ∨ (c = 4 ∧ rg c = rg4) ∨ (c = 5 ∧ rg c = rg5) ∨ ((c < 0 ∨ 5 < c) ∧ rg c = []) := by
  by_cases h : c < 0 ∨ 5 < c
  · exact .inr (.inr (.inr (.inr (.inr (.inr ⟨h, rg_none c h⟩)))))
  · have h6 : c = 0 ∨ c = 1 ∨ c = 2 ∨ c = 3 ∨ c = 4 ∨ c = 5 := by omega
    rcases h6 with rfl | rfl | rfl | rfl | rfl | rfl
    · exact .inl ⟨rfl, rg_0⟩
    · exact .inr (.inl ⟨rfl, rg_1⟩)
    · exact .inr (.inr (.inl ⟨rfl, rg_2⟩))
    · exact .inr (.inr (.inr (.inl ⟨rfl, rg_3⟩)))
    · exact .inr (.inr (.inr (.inr (.inl ⟨rfl, rg_4⟩))))
    · exact .inr (.inr (.inr (.inr (.inr (.inl ⟨rfl, rg_5⟩)))))

/-- the ranges rise, from b on -/
def rise : Nat → List (Nat × Nat) → Bool
  | _, [] => true
  | b, p :: t => decide (b ≤ p.1 ∧ p.1 ≤ p.2 ∧ p.2 ≤ 1114111) && rise (p.2 + 1) t
theorem rg_rise (c : Int) : rise 0 (rg c) = true := by
  rcases rg_cases c with ⟨_, h⟩ | ⟨_, h⟩ | ⟨_, h⟩ | ⟨_, h⟩ | ⟨_, h⟩ | ⟨_, h⟩ | ⟨_, h⟩ <;> rw [h] <;> decide +kernel
theorem rise_cons {b : Nat} {p : Nat × Nat} {t : List (Nat × Nat)} (h : rise b (p :: t) = true) : b ≤ p.1 ∧ p.1 ≤ p.2 ∧ p.2 ≤ 1114111 ∧ rise (p.2 + 1) t = true := by
  simp only [rise, Bool.and_eq_true, decide_eq_true_eq] at h
  exact ⟨h.1.1, h.1.2.1, h.1.2.2, h.2⟩

/-- below the first range nothing is -/
theorem isR_low {b : Nat} {l : List (Nat × Nat)} (h : rise b l = true) {r : Int} (hr : r < b) : isR l r = false := by
  induction l generalizing b with
  | nil => rfl
  | cons p t ih =>
    obtain ⟨h1, h2, h3, h4⟩ := rise_cons h
    unfold isR
    rw [if_neg (by omega)]
    exact ih h4 (by omega)
theorem countR_low {b : Nat} {l : List (Nat × Nat)} (h : rise b l = true) {r : Int} (hr : r < b) : countR l r = 0 := by
  induction l generalizing b with
  | nil => rfl
  | cons p t ih =>
    obtain ⟨h1, h2, h3, h4⟩ := rise_cons h
    unfold countR
    rw [if_neg (by omega), ih h4 (by omega)]
    rfl
/-- Count grows just where Is holds -/
theorem countR_step {b : Nat} {l : List (Nat × Nat)} (h : rise b l = true) (r : Int) : countR l r - countR l (r - 1) = if isR l r then 1 else 0 := by
  induction l generalizing b with
  | nil => rfl
  | cons p t ih =>
    obtain ⟨h1, h2, h3, h4⟩ := rise_cons h
    have e := ih h4
    unfold countR isR
    by_cases c1 : (p.1 : Int) ≤ r
    · by_cases c2 : r ≤ (p.2 : Int)
      · rw [countR_low h4 (by omega), countR_low h4 (by omega), if_pos c1, if_pos (⟨c1, c2⟩ : _ ∧ _)]
        by_cases c3 : (p.1 : Int) ≤ r - 1
        · rw [if_pos c3]; simp only [if_true]; omega
        · rw [if_neg c3]; simp only [if_true]; omega
      · rw [if_pos c1, if_pos (show (p.1 : Int) ≤ r - 1 by omega), if_neg (show ¬ ((p.1 : Int) ≤ r ∧ r ≤ (p.2 : Int)) by omega), ← e]
        omega
    · rw [if_neg c1, if_neg (show ¬ (p.1 : Int) ≤ r - 1 by omega), if_neg (show ¬ ((p.1 : Int) ≤ r ∧ r ≤ (p.2 : Int)) by omega), ← e]
      omega
/-- Next: the least one above -/
theorem nextR_none {b : Nat} {l : List (Nat × Nat)} (h : rise b l = true) {r : Int} (hn : (nextR l r).2 = false) : (nextR l r).1 = 0 ∧ ∀ r', r ≤ r' → countR l r' = countR l r := by
  induction l generalizing b with
  | nil => exact ⟨rfl, fun _ _ => rfl⟩
  | cons p t ih =>
    obtain ⟨h1, h2, h3, h4⟩ := rise_cons h
    unfold nextR at hn ⊢
    by_cases c : r < (p.2 : Int)
    · rw [if_pos c] at hn
      simp at hn
    · rw [if_neg c] at hn ⊢
      obtain ⟨e1, e2⟩ := ih h4 hn
      refine ⟨e1, fun r' hr => ?_⟩
      unfold countR
      rw [e2 r' hr, if_pos (by omega), if_pos (by omega)]
      omega
theorem nextR_some {b : Nat} {l : List (Nat × Nat)} (h : rise b l = true) {r : Int} (hn : (nextR l r).2 = true) :
    r < (nextR l r).1 ∧ (b : Int) ≤ (nextR l r).1 ∧ (nextR l r).1 ≤ 1114111 ∧ isR l (nextR l r).1 = true ∧ countR l (nextR l r).1 = countR l r + 1 ∧ countR l ((nextR l r).1 - 1) = countR l r := by
  induction l generalizing b with
  | nil => simp [nextR] at hn
  | cons p t ih =>
    obtain ⟨h1, h2, h3, h4⟩ := rise_cons h
    unfold nextR at hn ⊢
    by_cases c : r < (p.2 : Int)
    · rw [if_pos c]
      simp only
      have g1 : countR t r = 0 := countR_low h4 (by omega)
      have g2 : countR t (max (p.1 : Int) (r + 1)) = 0 := countR_low h4 (by omega)
      have g3 : countR t (max (p.1 : Int) (r + 1) - 1) = 0 := countR_low h4 (by omega)
      refine ⟨by omega, by omega, by omega, ?_, ?_, ?_⟩
      · unfold isR
        rw [if_pos (by omega)]
      · unfold countR
        rw [g1, g2, if_pos (by omega)]
        split <;> omega
      · unfold countR
        rw [g1, g3]
        split <;> split <;> omega
    · rw [if_neg c] at hn ⊢
      obtain ⟨e1, e2, e3, e4, e5, e6⟩ := ih h4 hn
      refine ⟨e1, by omega, e3, ?_, ?_, ?_⟩
      · unfold isR
        rw [e4]
        simp
      · unfold countR
        rw [e5, if_pos (by omega), if_pos (by omega)]
        omega
      · unfold countR
        rw [e6, if_pos (by omega), if_pos (by omega)]
        omega
theorem countR_bound {b : Nat} {l : List (Nat × Nat)} (h : rise b l = true) (r : Int) : 0 ≤ countR l r ∧ (countR l r + b ≤ 1114112 ∨ countR l r = 0) := by
  induction l generalizing b with
  | nil => exact ⟨Int.le_refl _, .inr rfl⟩
  | cons p t ih =>
    obtain ⟨h1, h2, h3, h4⟩ := rise_cons h
    have e := ih h4
    unfold countR
    split <;> omega
end Go.Proofs.YtcmjipgigkalcaaDoor.Ch
