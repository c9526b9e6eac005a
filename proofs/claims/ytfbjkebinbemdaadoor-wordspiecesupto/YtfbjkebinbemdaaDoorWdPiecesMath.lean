/-
  Plain mathematics: pieces of texts, and what Find, Begins and Ends say of one another; ValidString of texts that are characters all through.
-/
import Derived.Test.YtfbjkebinbemdaaDoorWhOrder
import Derived.Test.YtfbjkebinbemdaaDoorWdLawFound
import Derived.Test.YtfbjkebinbemdaaDoorChValid
namespace Go.Proofs.YtfbjkebinbemdaaDoor
open Go.RowKit

namespace Wd
theorem V_gb (f : Nat → Nat) (n : Nat) (hf : ∀ j, f j < 256) : ∀ fuel p, n ≤ p + fuel → Ch.V f n p = gb f n fuel p
  | 0, p, h => by rw [Ch.V_end f n p (by omega)]; rfl
  | fuel + 1, p, h => by
    by_cases hlt : p < n
    · have hd := Rn.dec_pos (Rn.off f p) (n - p) (fun _ => hf _) (by omega)
      rw [Ch.V_step f n p hf hlt, gb_step _ _ _ _ hlt, V_gb f n hf fuel _ (by omega)]
      by_cases e : (Rn.dec (Rn.off f p) (n - p)).1 = 65533 ∧ (Rn.dec (Rn.off f p) (n - p)).2 = 1
      · rw [if_pos e, decide_eq_true e]; rfl
      · rw [if_neg e, decide_eq_false e]; rfl
    · rw [Ch.V_end f n p hlt, gb_end _ _ _ _ hlt]
theorem valid_gb (f : Nat → Nat) (n : Nat) (hf : ∀ j, f j < 256) : Lib.validD (Rn.arr f n).data.toList = gb f n n 0 := by
  rw [← V_gb f n hf n 0 (by omega), Ch.V_zero]
  rfl
theorem gb_cat (l : List UInt8) : ∀ (L : List Nat), (∀ r ∈ L, Rn.scal r) → ∀ (A : List UInt8) (fuel : Nat), l = A ++ Rn.cat L → gb (Rn.lf l) l.length fuel A.length = true
  | [], _, A, fuel, hl => gb_end _ _ _ _ (by rw [hl]; simp [Rn.cat])
  | r :: L, hL, A, 0, hl => rfl
  | r :: L, hL, A, fuel + 1, hl => by
    have hp := Rn.el_pos r
    have hr := hL r (by simp)
    rw [Rn.cat_cons] at hl
    have hlen : l.length = A.length + (Rn.el r + (Rn.cat L).length) := by rw [hl]; simp [Rn.enc_length]
    have hd : Rn.dec (Rn.off (Rn.lf l) A.length) (l.length - A.length) = (r, Rn.el r) := by
      refine Rn.dec_enc r hr _ _ (fun _ => Rn.lf_lt l _) (by omega) (fun j hj => ?_)
      rw [hl, Rn.off_lf, ← Rn.enc_get]
      unfold Rn.lf
      rw [List.getElem?_append_left (by rw [Rn.enc_length]; exact hj)]
    have ih := gb_cat l L (fun q hq => hL q (by simp [hq])) (A ++ Lib.encodeRune r) fuel (by rw [hl]; simp)
    rw [List.length_append, Rn.enc_length] at ih
    rw [gb_step _ _ _ _ (by omega), hd, Bool.and_eq_true]
    refine ⟨?_, ih⟩
    rw [Bool.not_eq_true', decide_eq_false_iff_not]
    rintro ⟨h1, h2⟩
    simp only [] at h1 h2
    rw [h1] at h2
    revert h2
    decide
theorem valid_tx (L : List Nat) (hL : ∀ r ∈ L, Rn.scal r) : Lib.validD (Rn.tx L).data.toList = true := by
  unfold Rn.tx
  rw [valid_gb _ _ (Rn.lf_lt _)]
  exact gb_cat (Rn.cat L) L hL [] _ rfl

theorem tx_append (A B : List Nat) : Rn.tx A ++ Rn.tx B = Rn.tx (A ++ B) := by
  rw [tx_eq, tx_eq, tx_eq, Rn.cat_append]
  exact ByteArray.mk_append_mk _ _
theorem tx_size (A : List Nat) : (Rn.tx A).size = (Rn.cat A).length := by
  unfold Rn.tx
  rw [Rn.arr_size]
theorem cmpU_self (L : List Nat) : cmpU L L = 0 := by
  unfold cmpU
  rw [fu_same]
  exact cm_eq _
theorem find_self (L : List Nat) : FIs (lg L) L.length (lg L) L.length 0 :=
  .inr ⟨0, rfl, by omega, fun i _ => by rw [Nat.zero_add], fun k hk => absurd hk (Nat.not_lt_zero _)⟩
theorem lg_ext {A B : List Nat} (h : A.length = B.length) (hj : ∀ j, j < A.length → lg A j = lg B j) : A = B := by
  apply List.ext_getElem h
  intro i h1 h2
  have := hj i h1
  simpa [lg, h1, h2] using this
theorem lg_take (L : List Nat) (k i : Nat) (h : i < k) : lg (L.take k) i = lg L i := by
  unfold lg
  rw [List.getElem?_take, if_pos h]
/-- where t stands, the piece is t -/
theorem sub_stands {L M : List Nat} {n : Nat} (h1 : n + M.length ≤ L.length) (h2 : St (lg L) (lg M) M.length n) : sub L n M.length = M := by
  unfold sub
  rw [show ((n : Int) + (M.length : Int)).toNat = n + M.length by omega, Int.toNat_natCast]
  apply lg_ext
  · rw [List.length_drop, List.length_take]; omega
  · intro j hj
    rw [List.length_drop, List.length_take] at hj
    rw [lg_drop, lg_take _ _ _ (by omega), h2 j (by omega)]
/-- and no sooner -/
theorem find_sooner {L M : List Nat} {n : Nat} {z : Int} (h1 : n + M.length ≤ L.length) (h0 : 0 < n) (h3 : ∀ k, k < n → ¬ St (lg L) (lg M) M.length k)
    (hz : FIs (lg (sub L 0 ((n : Int) + M.length - 1))) (sub L 0 ((n : Int) + M.length - 1)).length (lg M) M.length z) : z = -1 := by
  have hM : 0 < M.length := by
    rcases Nat.eq_zero_or_pos M.length with h | h
    · exact absurd (fun i hi => absurd hi (by omega)) (h3 0 h0)
    · exact h
  have e : sub L 0 ((n : Int) + M.length - 1) = L.take (n + M.length - 1) := by
    unfold sub
    rw [show (0 + ((n : Int) + (M.length : Int) - 1)).toNat = n + M.length - 1 by omega]
    rfl
  rw [e] at hz
  rcases hz with ⟨h, _⟩ | ⟨k, _, k1, k2, _⟩
  · exact h
  · rw [List.length_take] at k1
    refine absurd (fun i hi => ?_) (h3 k (by omega))
    rw [← k2 i hi, lg_take _ _ _ (by omega)]
/-- Begins, and Find's 0 -/
theorem begins_find {L M : List Nat} {z : Int} (hz : FIs (lg L) L.length (lg M) M.length z) : decide ((fu L M).2 = -1) = (z == 0) := by
  rw [Bool.eq_iff_iff, decide_eq_true_eq, fu_begins]
  simp only [beq_iff_eq]
  constructor
  · rintro ⟨h1, h2⟩
    exact hz.uniq (.inr ⟨0, rfl, h1, h2, fun k hk => absurd hk (Nat.not_lt_zero _)⟩)
  · rintro rfl
    rcases hz with ⟨h, _⟩ | ⟨n, h, h1, h2, _⟩
    · cases h
    · obtain rfl : n = 0 := by omega
      exact ⟨h1, h2⟩
theorem lg_rev (L : List Nat) (i : Nat) (h : i < L.length) : lg L.reverse i = lg L (L.length - 1 - i) := by
  unfold lg
  rw [List.getElem?_reverse h]
/-- Ends, and Begins of both reversed -/
theorem ends_begins (L M : List Nat) : (M.length ≤ L.length ∧ St (lg L) (lg M) M.length (L.length - M.length)) ↔ (fu L.reverse M.reverse).2 = -1 := by
  rw [fu_begins, List.length_reverse, List.length_reverse]
  constructor
  · rintro ⟨h1, h2⟩
    refine ⟨by omega, fun i hi => ?_⟩
    have := h2 (M.length - 1 - i) (by omega)
    rw [Nat.zero_add, lg_rev L i (by omega), lg_rev M i hi, ← this]
    congr 1
    omega
  · rintro ⟨h1, h2⟩
    refine ⟨by omega, fun i hi => ?_⟩
    have := h2 (M.length - 1 - i) (by omega)
    rw [Nat.zero_add, lg_rev L _ (by omega), lg_rev M _ (by omega)] at this
    rw [show L.length - M.length + i = L.length - 1 - (M.length - 1 - i) by omega, this]
    congr 1
    omega
theorem sub_length (L : List Nat) (a b : Int) : (sub L a b).length ≤ L.length := by
  simp only [sub, List.length_drop, List.length_take]
  omega
theorem sub_zero (L : List Nat) : sub L 0 0 = [] := by simp [sub]
theorem sub_parts (L : List Nat) (k : Nat) : sub L 0 k ++ sub L k L.length = L := by
  unfold sub
  rw [show ((k : Int) + (L.length : Int)).toNat = k + L.length by omega, Int.toNat_natCast, List.take_of_length_le (show L.length ≤ k + L.length by omega), Int.zero_add, Int.toNat_natCast]
  exact List.take_append_drop k L
theorem sub_scal {L : List Nat} (hL : ∀ r ∈ L, Rn.scal r) (a b : Int) : ∀ r ∈ sub L a b, Rn.scal r := fun r hr => hL r (List.mem_of_mem_take (List.mem_of_mem_drop hr))
end Wd
end Go.Proofs.YtfbjkebinbemdaaDoor
