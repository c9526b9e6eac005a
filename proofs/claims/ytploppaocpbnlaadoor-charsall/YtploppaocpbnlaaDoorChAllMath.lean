/-
  Plain mathematics: the characters of a class as a rising list; what Next and Count say of it.
-/
import Derived.Test.YtploppaocpbnlaaDoorChAllIt
namespace Go.Proofs.YtploppaocpbnlaaDoor.Ch

/-- the last one of a list, -1 of none -/
def lastI (l : List Nat) : Int := match l.getLast? with
  | some x => (x : Int)
  | none => -1
theorem lastI_nil : lastI [] = -1 := rfl
theorem lastI_snoc (l : List Nat) (x : Nat) : lastI (l ++ [x]) = (x : Int) := by simp [lastI]
theorem lastI_low (l : List Nat) : -1 ≤ lastI l := by
  unfold lastI
  split <;> omega

/-- the first one of a list above a number -/
def nx (L : List Nat) (r : Int) : Int × Bool := match L.find? (fun (x : Nat) => decide (r < (x : Int))) with
  | some y => ((y : Int), true)
  | none => (0, false)
theorem find_rng (hi : Nat) (r : Int) : ∀ (d lo : Nat), hi = lo + d → (rng lo hi).find? (fun (x : Nat) => decide (r < (x : Int))) = if r < (hi : Int) then some (max (lo : Int) (r + 1)).toNat else none
  | 0, lo, h => by
    rw [rng_step (by omega), rng_empty (by omega), List.find?_cons]
    by_cases c : r < (lo : Int)
    · rw [decide_eq_true c, if_pos (by omega)]
      simp only
      congr 1
      omega
    · rw [decide_eq_false c, if_neg (by omega)]
      rfl
  | d + 1, lo, h => by
    rw [rng_step (by omega), List.find?_cons]
    by_cases c : r < (lo : Int)
    · rw [decide_eq_true c, if_pos (by omega)]
      simp only
      congr 1
      omega
    · rw [decide_eq_false c]
      simp only
      rw [find_rng hi r d (lo + 1) (by omega)]
      split
      · congr 1
        omega
      · rfl
theorem nextR_find {b : Nat} {l : List (Nat × Nat)} (h : rise b l = true) (r : Int) : nextR l r = nx (fl l) r := by
  induction l generalizing b with
  | nil => rfl
  | cons p t ih =>
    obtain ⟨h1, h2, h3, h4⟩ := rise_cons h
    have e := ih h4
    unfold nx at e ⊢
    rw [fl_cons, List.find?_append, find_rng p.2 r (p.2 - p.1) p.1 (by omega)]
    unfold nextR
    by_cases c : r < (p.2 : Int)
    · rw [if_pos c, if_pos c]
      simp only [Option.some_or]
      congr 1
      omega
    · rw [if_neg c, if_neg c, e]
      simp only [Option.none_or]
theorem fl_sorted {b : Nat} {l : List (Nat × Nat)} (h : rise b l = true) : (fl l).Pairwise (· < ·) ∧ ∀ x ∈ fl l, b ≤ x := by
  induction l generalizing b with
  | nil => exact ⟨List.Pairwise.nil, fun x hx => by cases hx⟩
  | cons p t ih =>
    obtain ⟨h1, h2, h3, h4⟩ := rise_cons h
    obtain ⟨e1, e2⟩ := ih h4
    have hr : ∀ x ∈ rng p.1 p.2, p.1 ≤ x ∧ x ≤ p.2 := by
      intro x hx
      unfold rng at hx
      rw [List.mem_range'_1] at hx
      omega
    rw [fl_cons]
    refine ⟨List.pairwise_append.2 ⟨List.pairwise_lt_range' .., e1, fun a ha c hc => ?_⟩, fun x hx => ?_⟩
    · have := hr a ha
      have := e2 c hc
      omega
    · rcases List.mem_append.1 hx with hx | hx
      · have := hr x hx; omega
      · have := e2 x hx; omega
/-- behind a beginning, Next gives the one that comes -/
def hd2 : List Nat → Int × Bool
  | [] => (0, false)
  | y :: _ => ((y : Int), true)
theorem hd2_nil : hd2 [] = (0, false) := rfl
theorem hd2_cons (y : Nat) (t : List Nat) : hd2 (y :: t) = ((y : Int), true) := rfl
theorem next_pre (c : Int) (pre t : List Nat) (h : pre ++ t = cl c) : nextR (rg c) (lastI pre) = hd2 t := by
  have hs := (fl_sorted (rg_rise c)).1
  rw [nextR_find (rg_rise c)]
  rw [show fl (rg c) = pre ++ t from h.symm] at hs ⊢
  obtain ⟨s1, s2, s3⟩ := List.pairwise_append.1 hs
  unfold nx
  rw [List.find?_append]
  have h1 : pre.find? (fun (x : Nat) => decide (lastI pre < (x : Int))) = none := by
    rw [List.find?_eq_none]
    intro x hx
    rcases List.eq_nil_or_concat pre with rfl | ⟨q, y, e⟩
    · cases hx
    · rw [List.concat_eq_append] at e
      subst e
      rw [lastI_snoc]
      rcases List.mem_append.1 hx with hx | hx
      · have := (List.pairwise_append.1 s1).2.2 x hx y (by simp)
        simp
        omega
      · simp at hx
        simp [hx]
  rw [h1, Option.none_or]
  cases t with
  | nil => rfl
  | cons y t' =>
    have : lastI pre < (y : Int) := by
      rcases List.eq_nil_or_concat pre with rfl | ⟨q, z, e⟩
      · rw [lastI_nil]; omega
      · rw [List.concat_eq_append] at e
        subst e
        rw [lastI_snoc]
        have := s3 z (by simp) y (by simp)
        omega
    rw [List.find?_cons, decide_eq_true this, hd2_cons]
theorem count_all {b : Nat} {l : List (Nat × Nat)} (h : rise b l = true) : countR l 2147483647 = ((fl l).length : Int) := by
  induction l generalizing b with
  | nil => rfl
  | cons p t ih =>
    obtain ⟨h1, h2, h3, h4⟩ := rise_cons h
    unfold countR
    rw [ih h4, fl_cons, List.length_append, rng_length, if_pos (by omega)]
    omega
theorem not_pre_end (c : Int) (pre : List Nat) (x : Nat) (h : pre = cl c) : ¬ (pre ++ [x] <+: cl c) := fun e => by
  have := e.length_le
  rw [← h] at this
  simp at this
  omega
theorem not_pre_other (c : Int) (pre t : List Nat) (x y : Nat) (h : pre ++ y :: t = cl c) (hxy : x ≠ y) : ¬ (pre ++ [x] <+: cl c) := by
  rintro ⟨u, e⟩
  rw [← h, List.append_assoc] at e
  have := List.append_cancel_left e
  simp at this
  exact hxy this.1
end Go.Proofs.YtploppaocpbnlaaDoor.Ch
