/-
  WALKS over the document's Bytes, Read and All; the mathematics of reading a character.
-/
import Derived.Test.YtbbbokkfhfmoeaaDoorChSpan
import Derived.Test.YtbbbokkfhfmoeaaDoorChBegMath
import Derived.Test.YtbbbokkfhfmoeaaDoorChValid
import Derived.Test.YtbbbokkfhfmoeaaDoorRnMm
namespace Go.Proofs.YtbbbokkfhfmoeaaDoor
open Go.RowKit Go.Lib

namespace Ch
/-- the document's bytes of a number -/
def rl (v : Nat) : Nat := if v < 128 then 1 else if v < 2048 then 2 else if v < 65536 then 3 else 4
def rb (v : Nat) : Nat → Nat := fun j =>
  if v < 128 then v
  else if v < 2048 then (if j = 0 then 192 + v / 64 else 128 + v % 64)
  else if v < 65536 then (if j = 0 then 224 + v / 4096 else if j = 1 then 128 + v / 64 % 64 else 128 + v % 64)
  else (if j = 0 then 240 + v / 262144 else if j = 1 then 128 + v / 4096 % 64 else if j = 2 then 128 + v / 64 % 64 else 128 + v % 64)
theorem rb_lt (v : Nat) (hv : v ≤ 1114111) : ∀ j, rb v j < 256 := by
  intro j
  unfold rb
  repeat' split
  all_goals omega
/-- bytes that are the document's of a number are its encoding, but for the gap -/
theorem enc_of_rb (g : Nat → Nat) (n v : Nat) (hv : v ≤ 1114111) (hn : rl v = n) (h : ∀ j, j < n → rb v j = g j) (hs : ¬ (55296 ≤ v ∧ v ≤ 57343)) : Rn.Enc g n v := by
  have a0 := h 0
  have a1 := h 1
  have a2 := h 2
  have a3 := h 3
  unfold rl at hn
  unfold rb at a0 a1 a2 a3
  by_cases c1 : v < 128
  · simp only [c1, if_true] at hn a0
    exact .one (by omega) (by rw [← a0 (by omega)]) c1
  · by_cases c2 : v < 2048
    · simp only [c1, c2, if_false, if_true] at hn a0 a1
      exact .two (by omega) (by rw [← a0 (by omega)]) (by rw [← a1 (by omega)]; rfl) (by omega) c2
    · by_cases c3 : v < 65536
      · simp only [c1, c2, c3, if_false, if_true] at hn a0 a1 a2
        exact .three (by omega) (by rw [← a0 (by omega)]) (by rw [← a1 (by omega)]; rfl) (by rw [← a2 (by omega)]; rfl) (by omega) c3 (by omega)
      · simp only [c1, c2, c3, if_false, if_true] at hn a0 a1 a2 a3
        exact .four (by omega) (by rw [← a0 (by omega)]) (by rw [← a1 (by omega)]; rfl) (by rw [← a2 (by omega)]; rfl) (by rw [← a3 (by omega)]; rfl) (by omega) (by omega)
theorem rb_of_enc {g : Nat → Nat} {n v : Nat} (h : Rn.Enc g n v) : rl v = n ∧ ∀ j, j < n → rb v j = g j := by
  have four : ∀ {n j : Nat}, j < n → n ≤ 4 → j = 0 ∨ j = 1 ∨ j = 2 ∨ j = 3 := by omega
  cases h with
  | one hn h0 hv =>
    subst hn
    refine ⟨by unfold rl; rw [if_pos hv], fun j hj => ?_⟩
    obtain rfl : j = 0 := by omega
    unfold rb; rw [if_pos hv, h0]
  | two hn h0 h1 hv hv2 =>
    subst hn
    refine ⟨by unfold rl; rw [if_neg (by omega), if_pos hv2], fun j hj => ?_⟩
    have hj2 : j = 0 ∨ j = 1 := by omega
    unfold rb; rw [if_neg (by omega), if_pos hv2]
    rcases hj2 with rfl | rfl
    · rw [h0]; rfl
    · rw [h1]; rfl
  | three hn h0 h1 h2 hv hv2 hv3 =>
    subst hn
    refine ⟨by unfold rl; rw [if_neg (by omega), if_neg (by omega), if_pos hv2], fun j hj => ?_⟩
    have hj2 : j = 0 ∨ j = 1 ∨ j = 2 := by omega
    unfold rb; rw [if_neg (by omega), if_neg (by omega), if_pos hv2]
    rcases hj2 with rfl | rfl | rfl
    · rw [h0]; rfl
    · rw [h1]; rfl
    · rw [h2]; rfl
  | four hn h0 h1 h2 h3 hv hv2 =>
    subst hn
    refine ⟨by unfold rl; rw [if_neg (by omega), if_neg (by omega), if_neg (by omega)], fun j hj => ?_⟩
    have hj2 := four hj (Nat.le_refl _)
    unfold rb; rw [if_neg (by omega), if_neg (by omega), if_neg (by omega)]
    rcases hj2 with rfl | rfl | rfl | rfl
    · rw [h0]; rfl
    · rw [h1]; rfl
    · rw [h2]; rfl
    · rw [h3]; rfl
theorem enc_congr {f g : Nat → Nat} {n v : Nat} (h : Rn.Enc f n v) (e : ∀ j, j < n → f j = g j) : Rn.Enc g n v := by
  cases h with
  | one hn h0 hv => exact .one hn (by rw [← e 0 (by omega)]; exact h0) hv
  | two hn h0 h1 hv hv2 => exact .two hn (by rw [← e 0 (by omega)]; exact h0) (by rw [← e 1 (by omega)]; exact h1) hv hv2
  | three hn h0 h1 h2 hv hv2 hv3 => exact .three hn (by rw [← e 0 (by omega)]; exact h0) (by rw [← e 1 (by omega)]; exact h1) (by rw [← e 2 (by omega)]; exact h2) hv hv2 hv3
  | four hn h0 h1 h2 h3 hv hv2 => exact .four hn (by rw [← e 0 (by omega)]; exact h0) (by rw [← e 1 (by omega)]; exact h1) (by rw [← e 2 (by omega)]; exact h2) (by rw [← e 3 (by omega)]; exact h3) hv hv2
/-- an encoding at the front -/
theorem whole_more {g : Nat → Nat} {n v L : Nat} (h : Rn.Enc g n v) (hL : n ≤ L) : Rn.whole g L = true ∧ Rn.fs g L = n ∧ Rn.fv g = v := by
  have hp := h.pos
  have hs := h.fs
  have hk := h.fk
  have e := Rn.fk_min g hL (by omega)
  have e2 := Rn.fk_le_fs g L
  have e3 : Rn.fs g L = n := by unfold Rn.fs; rw [if_neg (by omega)]; exact hs
  exact ⟨by simp only [Rn.whole, decide_eq_true_eq]; omega, e3, h.fv⟩
theorem enc_whole {g : Nat → Nat} {L : Nat} (h : Rn.whole g L = true) : Rn.Enc g (Rn.fs g L) (Rn.fv g) := by
  obtain ⟨h1, h2⟩ := Rn.enc_fv g L h
  have hsc := Rn.fv_scal g L h
  have hw : (Rn.want (Rn.fv g : Nat)).toNat = Rn.fv g := by
    unfold Rn.want
    unfold Rn.scal at hsc
    rw [if_neg (by omega)]
    omega
  have E := Rn.eb_enc (Rn.fv g : Nat)
  rw [hw, h1] at E
  exact enc_congr E h2
/-- of an encoding the document's two numbers are one -/
theorem span_enc {g : Nat → Nat} {n v : Nat} (h : Rn.Enc g n v) : span g n = ((v : Int), (v : Int)) := by
  have key : ∀ K, kdK (g 0) = K → n = K → tails g (n - 1) = true → fst g (n - 1) = v → kdL (g 0) ≤ v → v ≤ 1114111 → 0 < n → n ≤ 4 → span g n = ((v : Int), (v : Int)) := by
    intro K h1 h2 h3 h4 h5 h6 h7 h8
    have hh := span_in g n (by omega) h3
    rw [h4, h1, ← h2, Nat.sub_self, up0, dn0] at hh
    exact Prod.ext (by rw [hh.1]; simp only; omega) (by rw [hh.2]; simp only; omega)
  cases h with
  | one hn h0 hv =>
    subst hn
    rcases kd_cases (g 0) with ⟨g1, hK, hF, hL⟩ | ⟨g1, g2, hK, hF, hL⟩ | ⟨g1, g2, hK, hF, hL⟩ | ⟨g1, g2, hK, hF, hL⟩ | ⟨g1, g2, hK, hF, hL⟩ | ⟨g1, hK, hF, hL⟩
    · exact key 1 hK rfl rfl (by rw [show (1 - 1) = 0 from rfl, fst0]; omega) (by omega) (by omega) (by omega) (by omega)
    all_goals omega
  | two hn h0 h1 hv hv2 =>
    subst hn
    rcases kd_cases (g 0) with ⟨g1, hK, hF, hL⟩ | ⟨g1, g2, hK, hF, hL⟩ | ⟨g1, g2, hK, hF, hL⟩ | ⟨g1, g2, hK, hF, hL⟩ | ⟨g1, g2, hK, hF, hL⟩ | ⟨g1, hK, hF, hL⟩
    · omega
    · exact key 2 hK rfl (by rw [show (2 - 1) = 1 from rfl, tails1, decide_eq_true (by omega)]) (by rw [show (2 - 1) = 1 from rfl, fst1]; omega) (by omega) (by omega) (by omega) (by omega)
    all_goals omega
  | three hn h0 h1 h2 hv hv2 hv3 =>
    subst hn
    rcases kd_cases (g 0) with ⟨g1, hK, hF, hL⟩ | ⟨g1, g2, hK, hF, hL⟩ | ⟨g1, g2, hK, hF, hL⟩ | ⟨g1, g2, hK, hF, hL⟩ | ⟨g1, g2, hK, hF, hL⟩ | ⟨g1, hK, hF, hL⟩
    · omega
    · omega
    · exact key 3 hK rfl (by rw [show (3 - 1) = 2 from rfl, tails2, decide_eq_true (by omega), decide_eq_true (by omega)]; rfl) (by rw [show (3 - 1) = 2 from rfl, fst2]; omega) (by omega) (by omega) (by omega) (by omega)
    all_goals omega
  | four hn h0 h1 h2 h3 hv hv2 =>
    subst hn
    rcases kd_cases (g 0) with ⟨g1, hK, hF, hL⟩ | ⟨g1, g2, hK, hF, hL⟩ | ⟨g1, g2, hK, hF, hL⟩ | ⟨g1, g2, hK, hF, hL⟩ | ⟨g1, g2, hK, hF, hL⟩ | ⟨g1, hK, hF, hL⟩
    · omega
    · omega
    · omega
    · exact key 4 hK rfl (by rw [show (4 - 1) = 3 from rfl, tails3, decide_eq_true (by omega), decide_eq_true (by omega), decide_eq_true (by omega)]; rfl) (by rw [show (4 - 1) = 3 from rfl, fst3]; omega) (by omega) (by omega) (by omega) (by omega)
    all_goals omega
/-- the document's two numbers lie where numbers lie -/
theorem span_range (g : Nat → Nat) (n : Nat) (h : (span g n).1 = (span g n).2) : 0 ≤ (span g n).1 ∧ (span g n).1 ≤ 1114111 := by
  unfold span at h ⊢
  split
  · next c => rw [if_pos c] at h; simp at h
  · next c =>
    rw [if_neg c] at h
    split
    · next t => rw [t] at h; simp only [if_true] at h ⊢; omega
    · next t => simp only [Bool.not_eq_true] at t; rw [t] at h; simp at h
/-- what stands in the gap is no character -/
theorem gap_bad {g : Nat → Nat} {n v L : Nat} (hn : rl v = n) (h : ∀ j, j < n → rb v j = g j) (hs : 55296 ≤ v ∧ v ≤ 57343) : Rn.whole g L = false := by
  have e3 : rl v = 3 := by unfold rl; rw [if_neg (by omega), if_neg (by omega), if_pos (by omega)]
  have a0 := h 0 (by omega)
  have a1 := h 1 (by omega)
  unfold rb at a0 a1
  rw [if_neg (by omega), if_neg (by omega), if_pos (by omega)] at a0 a1
  simp at a0 a1
  cases hw : Rn.whole g L
  · rfl
  · have E := enc_whole hw
    have h0 : g 0 = 237 := by omega
    exfalso
    cases E with
    | one hn h0 hv => omega
    | two hn h0 h1 hv hv2 => omega
    | three hn h0 h1 h2 hv hv2 hv3 => omega
    | four hn h0 h1 h2 h3 hv hv2 => omega
end Ch
end Go.Proofs.YtbbbokkfhfmoeaaDoor
