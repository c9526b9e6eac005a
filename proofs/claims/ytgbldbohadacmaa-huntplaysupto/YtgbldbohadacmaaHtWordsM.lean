/-
  WHAT Truth SAYS OF A WHOLE TEXT, in layer 3's words.
-/
import Derived.Test.YtgbldbohadacmaaHtAsk
namespace Go.Proofs.Ytgbldbohadacmaa
open Go.RowKit Go.Lib
namespace Ht
theorem hd_end (M : List Nat) : Wd.hd M = -1 ↔ M = [] := by
  cases M with
  | nil => simp [Wd.hd]
  | cons a M => simp [Wd.hd]
theorem fu_pre : ∀ L M : List Nat, (Wd.fu L M).2 = -1 ↔ M <+: L
  | [], M => by rw [Wd.fu_nil, hd_end]; simp
  | a :: L, [] => by rw [Wd.fu_ne a L [] (by simp [Wd.hd])]; simp [Wd.hd]
  | a :: L, b :: M => by
    by_cases e : a = b
    · subst e
      rw [Wd.fu_eq, fu_pre L M]
      simp
    · rw [Wd.fu_ne a L (b :: M) (by simp [Wd.hd]; omega)]
      simp [Wd.hd, Ne.symm e]
theorem fu_same : ∀ L M : List Nat, (Wd.fu L M).1 = (Wd.fu L M).2 ↔ L = M
  | [], M => by
    rw [Wd.fu_nil]
    constructor
    · intro h; exact ((hd_end M).1 h.symm).symm
    · intro h; exact ((hd_end M).2 h.symm).symm
  | a :: L, [] => by rw [Wd.fu_ne a L [] (by simp [Wd.hd])]; simp [Wd.hd]
  | a :: L, b :: M => by
    by_cases e : a = b
    · subst e
      rw [Wd.fu_eq, fu_same L M]
      simp
    · rw [Wd.fu_ne a L (b :: M) (by simp [Wd.hd]; omega)]
      simp [Wd.hd, e]
      omega
theorem cmp_same (L M : List Nat) : Wd.cmp L M = 0 ↔ L = M := by
  rw [← fu_same]
  unfold Wd.cmp Wd.cm
  repeat' split
  all_goals simp
  all_goals omega
theorem st_infix {X T : List Nat} : (∃ n, n + T.length ≤ X.length ∧ Wd.St (lg X) (lg T) T.length n) ↔ T <:+: X := by
  constructor
  · rintro ⟨n, h1, h2⟩
    refine ⟨X.take n, X.drop (n + T.length), ?_⟩
    have : T = (X.drop n).take T.length := by
      refine List.ext_getElem? fun i => ?_
      by_cases hi : i < T.length
      · rw [List.getElem?_take_of_lt hi, List.getElem?_drop, lg_some hi, lg_some (by omega), h2 i hi]
      · rw [List.getElem?_eq_none (by omega), List.getElem?_eq_none (by rw [List.length_take]; omega)]
    have e2 : X.drop (n + T.length) = (X.drop n).drop T.length := by rw [List.drop_drop]
    rw [e2, List.append_assoc]
    conv => lhs; rhs; lhs; rw [this]
    rw [List.take_append_drop, List.take_append_drop]
  · rintro ⟨s, t, rfl⟩
    refine ⟨s.length, by simp, fun i hi => ?_⟩
    unfold lg
    rw [List.append_assoc, List.getElem?_append_right (by omega), Nat.add_sub_cancel_left, List.getElem?_append_left hi]
theorem fis_infix {X T : List Nat} {z : Int} (h : Wd.FIs (lg X) X.length (lg T) T.length z) : 0 ≤ z ↔ T <:+: X := by
  rw [← st_infix]
  rcases h with ⟨rfl, h⟩ | ⟨n, rfl, h1, h2, _⟩
  · exact ⟨fun h => by omega, fun ⟨n, h1, h2⟩ => absurd h2 (h n h1)⟩
  · exact ⟨fun _ => ⟨n, h1, h2⟩, fun _ => by omega⟩
theorem st_suffix {X T : List Nat} : (T.length ≤ X.length ∧ Wd.St (lg X) (lg T) T.length (X.length - T.length)) ↔ T <:+ X := by
  rw [← suf_iff]
  exact ⟨fun ⟨h1, h2⟩ => (Wd.suf_st h1).2 h2, fun h => ⟨h.1, (Wd.suf_st h.1).1 h⟩⟩
/-- what is asked of a whole text -/
def wantP (c : Nat) (T X : List Nat) (K : Int) : Prop :=
  if c = 0 then True else if c = 1 then X = T else if c = 2 then X ≠ T else if c = 3 then T <+: X else if c = 4 then T <:+ X else if c = 5 then T <:+: X else if c = 6 then (X.length : Int) = K else if c = 7 then K < X.length else (X.length : Int) < K
theorem tru_want {c : Nat} (hc : c < 9) (T X : List Nat) (K : Int) (P : Bool) (h : P = true ↔ wantP c T X K) : tru (cc c) (tdc c) (cn c K) T X true = if P then 2 else 0 := by
  have key : ∀ {Q : Prop} [Decidable Q] (a b : Int), (P = true ↔ Q) → (if Q then a else b) = if P then a else b := fun {Q} _ a b h => by
    cases P
    · have : ¬ Q := fun q => by have := h.2 q; cases this
      simp [this]
    · simp [h.1 rfl]
  have neg : ∀ {Q : Prop} [Decidable Q], (P = true ↔ ¬ Q) → no (if Q then 2 else 0) = if P then 2 else 0 := fun {Q} _ h => by
    cases P
    · have : Q := Decidable.by_contra fun q => by have := h.2 q; cases this
      simp [this, no]
    · simp [h.1 rfl, no]
  rcases (show c = 0 ∨ c = 1 ∨ c = 2 ∨ c = 3 ∨ c = 4 ∨ c = 5 ∨ c = 6 ∨ c = 7 ∨ c = 8 by omega) with rfl | rfl | rfl | rfl | rfl | rfl | rfl | rfl | rfl
  · simp [wantP] at h; simp [tru, cc, tdc, fin, h]
  · simp [wantP] at h; simp only [tru, cc, tdc, cn, fin]; exact key _ _ h
  · simp [wantP] at h; simp only [tru, cc, tdc, cn, fin]; exact neg h
  · simp [wantP] at h; simp only [tru, cc, tdc, cn, fin]; exact key _ _ h
  · simp [wantP] at h; simp only [tru, cc, tdc, cn, fin]; exact key _ _ h
  · simp [wantP] at h; simp only [tru, cc, tdc, cn, fin]; exact key _ _ h
  · simp [wantP] at h; simp only [tru, cc, tdc, cn, fin]; exact key _ _ h
  · simp [wantP] at h; simp only [tru, cc, tdc, cn, fin]; exact key _ _ h
  · simp [wantP] at h; simp only [tru, cc, tdc, cn, fin]; exact neg (Q := K - 1 < X.length) (h.trans (by omega))
end Ht
end Go.Proofs.Ytgbldbohadacmaa
