/-
  The mathematics of the axes: numbers one behind the other, the children of a node.
-/
import Derived.Test.YtfkmeghddobgcaaDoorTrIter
namespace Go.Proofs.YtfkmeghddobgcaaDoor
open Go.RowKit
namespace Tr
theorem numL_app {a b c : Int} (h1 : a ≤ b) (h2 : b ≤ c) : numL a c = numL a b ++ numL b c := by
  obtain ⟨k, hk⟩ : ∃ k : Nat, b = a + k := ⟨(b - a).toNat, by omega⟩
  subst hk
  clear h1
  induction k generalizing a with
  | zero => rw [show a + ((0 : Nat) : Int) = a by omega, numL_nil (a := a) (b := a) (by omega)]; rfl
  | succ k ih =>
    have e : a + ((k + 1 : Nat) : Int) = a + 1 + (k : Nat) := by omega
    rw [e] at h2 ⊢
    rw [numL_step (show a < c by omega), numL_step (show a < a + 1 + (k : Nat) by omega), List.cons_append, ← ih h2]
theorem numL_get (a b : Int) (i : Nat) (h : i < (b - a).toNat) : (numL a b)[i]? = some (a + i) := by
  unfold numL
  rw [List.getElem?_map, List.getElem?_range h]
  rfl
theorem numL_mem {a b x : Int} : x ∈ numL a b ↔ a ≤ x ∧ x < b := by
  unfold numL
  rw [List.mem_map]
  constructor
  · rintro ⟨k, h1, rfl⟩
    have := List.mem_range.1 h1
    omega
  · rintro ⟨h1, h2⟩
    exact ⟨(x - a).toNat, List.mem_range.2 (by omega), by omega⟩
/-- the children from x on: each is found behind all that is in the one ahead of it -/
def chF (E : Nat → Ev Value) (n nd : Nat) (a b : Int) : Nat → Int → List (Num a b)
  | 0, _ => []
  | f + 1, x => if h : a ≤ x ∧ x < b then ⟨x, h⟩ :: chF E n nd a b f (bh E n nd x) else []
def chS (E : Nat → Ev Value) (n nd : Nat) (k : Int) : List (Num (k + 1) (bh E n nd k)) := chF E n nd (k + 1) (bh E n nd k) (bh E n nd k - (k + 1)).toNat (k + 1)
theorem bh_up {E : Nat → Ev Value} {n nd : Nat} (h : Shape E (grun E n) nd n) {x : Int} (h0 : -1 ≤ x) (h1 : x < nd) : x < bh E n nd x ∧ bh E n nd x ≤ nd := by
  unfold bh
  split
  · omega
  · obtain ⟨b, z, a1, _, _, _, a5, a6, _⟩ := h.beh x.toNat (by omega)
    omega
theorem bh_in {E : Nat → Ev Value} {n nd : Nat} (h : Shape E (grun E n) nd n) {k x : Int} (h0 : -1 ≤ k) (hk : k < nd) (h1 : k < x) (h2 : x < bh E n nd k) : bh E n nd x ≤ bh E n nd k := by
  have hk2 := (bh_up h h0 hk).2
  by_cases c : k < 0
  · have := (bh_up h (show -1 ≤ x by omega) (by omega)).2
    unfold bh at *
    rw [if_pos c] at *
    exact this
  · have e : bh E n nd k = ((grun E n).nth k.toNat).beh := by unfold bh; rw [if_neg c]
    have e2 : bh E n nd x = ((grun E n).nth x.toNat).beh := by unfold bh; rw [if_neg (by omega)]
    rw [e] at h2 ⊢
    rw [e2]
    exact (h.within (p := k.toNat) (m := x.toNat) (by omega) (by omega) (by omega)).1
theorem chF_fuel {E : Nat → Ev Value} {n nd : Nat} (h : Shape E (grun E n) nd n) {a b : Int} (ha : 0 ≤ a) (hb : b ≤ nd) : ∀ (f f' : Nat) (x : Int), a ≤ x → (b - x).toNat ≤ f → (b - x).toNat ≤ f' → chF E n nd a b f x = chF E n nd a b f' x
  | 0, 0, _, _, _, _ => rfl
  | 0, f' + 1, x, hx, h1, _ => by
    unfold chF
    rw [dif_neg (by omega)]
  | f + 1, 0, x, hx, _, h1 => by
    unfold chF
    rw [dif_neg (by omega)]
  | f + 1, f' + 1, x, hx, h1, h2 => by
    unfold chF
    by_cases c : a ≤ x ∧ x < b
    · rw [dif_pos c, dif_pos c]
      have := (bh_up h (show -1 ≤ x by omega) (by omega)).1
      rw [chF_fuel h ha hb f f' _ (by omega) (by omega) (by omega)]
    · rw [dif_neg c, dif_neg c]
theorem chF_step {E : Nat → Ev Value} {n nd : Nat} (h : Shape E (grun E n) nd n) {a b : Int} (ha : 0 ≤ a) (hb : b ≤ nd) {x : Int} (h1 : a ≤ x) (h2 : x < b) : chF E n nd a b (b - x).toNat x = ⟨x, h1, h2⟩ :: chF E n nd a b (b - bh E n nd x).toNat (bh E n nd x) := by
  have hu := (bh_up h (show -1 ≤ x by omega) (by omega)).1
  rw [chF_fuel h ha hb (b - x).toNat ((b - x).toNat - 1 + 1) x h1 (Nat.le_refl _) (by omega)]
  show (if h : a ≤ x ∧ x < b then _ else _) = _
  rw [dif_pos ⟨h1, h2⟩, chF_fuel h ha hb ((b - x).toNat - 1) (b - bh E n nd x).toNat _ (by omega) (by omega) (Nat.le_refl _)]
theorem chF_end {E : Nat → Ev Value} {n nd : Nat} {a b x : Int} (h : ¬ x < b) : chF E n nd a b (b - x).toNat x = [] := by
  rw [show (b - x).toNat = 0 by omega]
  rfl
/-- the children's numbers -/
def chL (E : Nat → Ev Value) (n nd : Nat) (k : Int) : List Int := (chS E n nd k).map (·.1)
/-- the children, each with what is in it, are all that is in the node -/
theorem chF_flat {E : Nat → Ev Value} {n nd : Nat} (h : Shape E (grun E n) nd n) {k : Int} (h0 : -1 ≤ k) (hk : k < nd) : ∀ (f : Nat) (x : Int), k + 1 ≤ x → x ≤ bh E n nd k → (bh E n nd k - x).toNat = f →
    ((chF E n nd (k + 1) (bh E n nd k) (bh E n nd k - x).toNat x).map (·.1)).flatMap (fun c => c :: numL (c + 1) (bh E n nd c)) = numL x (bh E n nd k) := by
  intro f
  induction f using Nat.strongRecOn with
  | _ f ih =>
    intro x h1 h2 hf
    have hb2 := (bh_up h h0 hk).2
    by_cases c : x < bh E n nd k
    · have hu := (bh_up h (show -1 ≤ x by omega) (by omega)).1
      have hi := bh_in h h0 hk (x := x) (by omega) c
      rw [chF_step h (by omega) hb2 h1 c, List.map_cons, List.flatMap_cons, ih (bh E n nd k - bh E n nd x).toNat (by omega) (bh E n nd x) (by omega) hi rfl]
      dsimp only
      rw [← numL_step hu, ← numL_app (by omega) hi]
    · rw [chF_end c, numL_nil c]
      rfl
theorem chL_flat {E : Nat → Ev Value} {n nd : Nat} (h : Shape E (grun E n) nd n) {k : Int} (h0 : -1 ≤ k) (hk : k < nd) : (chL E n nd k).flatMap (fun c => c :: numL (c + 1) (bh E n nd c)) = numL (k + 1) (bh E n nd k) :=
  chF_flat h h0 hk _ (k + 1) (Int.le_refl _) (by have := (bh_up h h0 hk).1; omega) rfl
/-- what a child's parent is -/
theorem chF_par {E : Nat → Ev Value} {n nd : Nat} (h : Shape E (grun E n) nd n) {k : Int} (h0 : -1 ≤ k) (hk : k < nd) : ∀ (f : Nat) (x : Int), k + 1 ≤ x → (x < bh E n nd k → ((grun E n).nth x.toNat).par = k) → (bh E n nd k - x).toNat = f →
    ∀ c ∈ (chF E n nd (k + 1) (bh E n nd k) (bh E n nd k - x).toNat x).map (·.1), ((grun E n).nth c.toNat).par = k := by
  intro f
  induction f using Nat.strongRecOn with
  | _ f ih =>
    intro x h1 h2 hf
    have hb2 := (bh_up h h0 hk).2
    by_cases c : x < bh E n nd k
    · have hu := bh_up h (show -1 ≤ x by omega) (by omega)
      rw [chF_step h (by omega) hb2 h1 c, List.map_cons]
      intro y hy
      rcases List.mem_cons.1 hy with rfl | hy
      · exact h2 c
      · refine ih (bh E n nd k - bh E n nd x).toNat (by omega) (bh E n nd x) (by omega) (fun hlt => ?_) rfl y hy
        by_cases c0 : k < 0
        · obtain rfl : k = -1 := by omega
          have hp := h2 c
          rcases h.par x.toNat (by omega) with ⟨e, _⟩ | ⟨p, _, e, _⟩
          · have er := h.root.1
            unfold bh at hlt
            rw [if_neg (by omega), if_pos (by omega), e, er] at hlt
            omega
          · rw [e] at hp
            omega
        · have ek : bh E n nd k = ((grun E n).nth k.toNat).beh := by unfold bh; rw [if_neg c0]
          have ex : bh E n nd x = ((grun E n).nth x.toNat).beh := by unfold bh; rw [if_neg (by omega)]
          obtain ⟨j, e1, e2, e3⟩ := h.next (p := k.toNat) (m := x.toNat) (by omega) (by omega) (by rw [h2 c]; omega) (by rw [← ek, ← ex]; exact hlt)
          rw [ex, e1, Int.toNat_natCast, e3]
          omega
    · rw [chF_end c]
      intro y hy
      cases hy
theorem chL_par {E : Nat → Ev Value} {n nd : Nat} (h : Shape E (grun E n) nd n) {k : Int} (h0 : -1 ≤ k) (hk : k < nd) : ∀ c ∈ chL E n nd k, ((grun E n).nth c.toNat).par = k := by
  refine chF_par h h0 hk _ (k + 1) (Int.le_refl _) (fun hlt => ?_) rfl
  by_cases c0 : k < 0
  · obtain rfl : k = -1 := by omega
    exact h.root.2
  · have ek : bh E n nd k = ((grun E n).nth k.toNat).beh := by unfold bh; rw [if_neg c0]
    rw [ek] at hlt
    have := h.child (p := k.toNat) (by omega) (by omega)
    rw [show (k + 1).toNat = k.toNat + 1 by omega, this]
    omega
theorem chL_mem {E : Nat → Ev Value} {n nd : Nat} {k c : Int} (hc : c ∈ chL E n nd k) : k + 1 ≤ c ∧ c < bh E n nd k := by
  unfold chL at hc
  rw [List.mem_map] at hc
  obtain ⟨⟨x, h1, h2⟩, _, rfl⟩ := hc
  exact ⟨h1, h2⟩
theorem chF_len (E : Nat → Ev Value) (n nd : Nat) (a b : Int) : ∀ (f : Nat) (x : Int), (chF E n nd a b f x).length ≤ f
  | 0, _ => Nat.le_refl _
  | f + 1, x => by
    unfold chF
    split
    · have := chF_len E n nd a b f (bh E n nd x)
      simp
      omega
    · simp
theorem chL_len {E : Nat → Ev Value} {n nd : Nat} {k : Int} : (chL E n nd k).length ≤ (bh E n nd k - (k + 1)).toNat := by
  unfold chL
  rw [List.length_map]
  exact chF_len _ _ _ _ _ _ _
end Tr
end Go.Proofs.YtfkmeghddobgcaaDoor
