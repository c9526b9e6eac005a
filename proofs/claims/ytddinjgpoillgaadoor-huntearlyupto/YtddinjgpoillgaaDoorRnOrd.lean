/-
  Plain mathematics: of characters the order by bytes is the order by their numbers.
-/
import Derived.Test.YtddinjgpoillgaaDoorRnCat
namespace Go.Proofs.YtddinjgpoillgaaDoor.Rn
open Go.Lib

/-- less, not greater, not the same, whatever follows -/
def Lt (a b : List UInt8) : Prop := ∀ s t : List UInt8, Op.bytesLess (a ++ s) (b ++ t) = true ∧ Op.bytesLess (b ++ t) (a ++ s) = false ∧ a ++ s ≠ b ++ t
theorem lt_head {x y : UInt8} {a b : List UInt8} (h : x.toNat < y.toNat) : Lt (x :: a) (y :: b) := by
  intro s t
  have h1 : x < y := h
  have h2 : ¬ y < x := fun k => by have : y.toNat < x.toNat := k; omega
  have h3 : ¬ x = y := fun k => by subst k; omega
  refine ⟨?_, ?_, ?_⟩
  · simp [Op.bytesLess, h1]
  · simp [Op.bytesLess, h2, Ne.symm h3]
  · simp [h3]
theorem lt_same {x y : UInt8} {a b : List UInt8} (e : x.toNat = y.toNat) (h : Lt a b) : Lt (x :: a) (y :: b) := by
  obtain rfl : x = y := UInt8.toNat_inj.1 e
  intro s t
  obtain ⟨h1, h2, h3⟩ := h s t
  refine ⟨?_, ?_, ?_⟩
  · simp [Op.bytesLess, h1]
  · have : ¬ x < x := fun k => by have : x.toNat < x.toNat := k; omega
    simp [Op.bytesLess, h2, this]
  · simp [h3]
theorem lt_prefix {a b : List UInt8} (h : Lt a b) : ∀ p : List UInt8, Lt (p ++ a) (p ++ b)
  | [] => h
  | _ :: p => lt_same rfl (lt_prefix h p)
theorem toNat_of {z : Int} (_h0 : 0 ≤ z) (h1 : z < 256) : (z.toNat.toUInt8).toNat = z.toNat := by
  simp
  omega

set_option maxHeartbeats 1000000 in
theorem enc_lt (a b : Nat) (ha : scal a) (hb : scal b) (h : a < b) : Lt (encodeRune a) (encodeRune b) := by
  unfold scal at ha hb
  unfold encodeRune
  have o1 : ∀ r : Nat, r ≤ 127 → encodeRuneZ r = [(r : Int)] := fun r k => encodeRuneZ_one (by omega) (by omega)
  have o2 : ∀ r : Nat, 128 ≤ r → r ≤ 2047 → encodeRuneZ r = [192 + (r : Int) / 64, 128 + (r : Int) % 64] := fun r k l => encodeRuneZ_two (by omega) (by omega)
  have o3 : ∀ r : Nat, 2048 ≤ r → r ≤ 65535 → ¬ (55296 ≤ r ∧ r ≤ 57343) → encodeRuneZ r = [224 + (r : Int) / 4096, 128 + (r : Int) / 64 % 64, 128 + (r : Int) % 64] := fun r k l m => encodeRuneZ_three (by omega)
  have o4 : ∀ r : Nat, 65536 ≤ r → r < 1114112 → encodeRuneZ r = [240 + (r : Int) / 262144, 128 + (r : Int) / 4096 % 64, 128 + (r : Int) / 64 % 64, 128 + (r : Int) % 64] := fun r k l => encodeRuneZ_four (by omega) (by omega)
  by_cases a1 : a ≤ 127
  · rw [o1 a a1]
    by_cases b1 : b ≤ 127
    · rw [o1 b b1]
      exact lt_head (by rw [toNat_of (by omega) (by omega), toNat_of (by omega) (by omega)]; omega)
    by_cases b2 : b ≤ 2047
    · rw [o2 b (by omega) b2]
      exact lt_head (by rw [toNat_of (by omega) (by omega), toNat_of (by omega) (by omega)]; omega)
    by_cases b3 : b ≤ 65535
    · rw [o3 b (by omega) b3 hb.2]
      exact lt_head (by rw [toNat_of (by omega) (by omega), toNat_of (by omega) (by omega)]; omega)
    · rw [o4 b (by omega) hb.1]
      exact lt_head (by rw [toNat_of (by omega) (by omega), toNat_of (by omega) (by omega)]; omega)
  by_cases a2 : a ≤ 2047
  · rw [o2 a (by omega) a2]
    by_cases b2 : b ≤ 2047
    · rw [o2 b (by omega) b2]
      by_cases c : a / 64 = b / 64
      · refine lt_same (by rw [toNat_of (by omega) (by omega), toNat_of (by omega) (by omega)]; omega) (lt_head ?_)
        rw [toNat_of (by omega) (by omega), toNat_of (by omega) (by omega)]; omega
      · exact lt_head (by rw [toNat_of (by omega) (by omega), toNat_of (by omega) (by omega)]; omega)
    by_cases b3 : b ≤ 65535
    · rw [o3 b (by omega) b3 hb.2]
      exact lt_head (by rw [toNat_of (by omega) (by omega), toNat_of (by omega) (by omega)]; omega)
    · rw [o4 b (by omega) hb.1]
      exact lt_head (by rw [toNat_of (by omega) (by omega), toNat_of (by omega) (by omega)]; omega)
  by_cases a3 : a ≤ 65535
  · rw [o3 a (by omega) a3 ha.2]
    by_cases b3 : b ≤ 65535
    · rw [o3 b (by omega) b3 hb.2]
      by_cases c : a / 4096 = b / 4096
      · refine lt_same (by rw [toNat_of (by omega) (by omega), toNat_of (by omega) (by omega)]; omega) ?_
        by_cases d : a / 64 = b / 64
        · refine lt_same (by rw [toNat_of (by omega) (by omega), toNat_of (by omega) (by omega)]; omega) (lt_head ?_)
          rw [toNat_of (by omega) (by omega), toNat_of (by omega) (by omega)]; omega
        · exact lt_head (by rw [toNat_of (by omega) (by omega), toNat_of (by omega) (by omega)]; omega)
      · exact lt_head (by rw [toNat_of (by omega) (by omega), toNat_of (by omega) (by omega)]; omega)
    · rw [o4 b (by omega) hb.1]
      exact lt_head (by rw [toNat_of (by omega) (by omega), toNat_of (by omega) (by omega)]; omega)
  · rw [o4 a (by omega) ha.1, o4 b (by omega) hb.1]
    by_cases c : a / 262144 = b / 262144
    · refine lt_same (by rw [toNat_of (by omega) (by omega), toNat_of (by omega) (by omega)]; omega) ?_
      by_cases d : a / 4096 = b / 4096
      · refine lt_same (by rw [toNat_of (by omega) (by omega), toNat_of (by omega) (by omega)]; omega) ?_
        by_cases e : a / 64 = b / 64
        · refine lt_same (by rw [toNat_of (by omega) (by omega), toNat_of (by omega) (by omega)]; omega) (lt_head ?_)
          rw [toNat_of (by omega) (by omega), toNat_of (by omega) (by omega)]; omega
        · exact lt_head (by rw [toNat_of (by omega) (by omega), toNat_of (by omega) (by omega)]; omega)
      · exact lt_head (by rw [toNat_of (by omega) (by omega), toNat_of (by omega) (by omega)]; omega)
    · exact lt_head (by rw [toNat_of (by omega) (by omega), toNat_of (by omega) (by omega)]; omega)

/-- where two texts part -/
theorem cat_part (P L M : List Nat) (a b : Nat) (ha : scal a) (hb : scal b) (h : a ≠ b) :
    Op.bytesLess (cat (P ++ a :: L)) (cat (P ++ b :: M)) = decide (a < b) ∧ cat (P ++ a :: L) ≠ cat (P ++ b :: M) := by
  rw [cat_append, cat_append, cat_cons, cat_cons]
  rcases Nat.lt_or_gt_of_ne h with h | h
  · obtain ⟨h1, _, h3⟩ := lt_prefix (enc_lt a b ha hb h) (cat P) (cat L) (cat M)
    rw [List.append_assoc, List.append_assoc] at h1 h3
    exact ⟨by rw [h1]; simp [h], h3⟩
  · obtain ⟨_, h2, h3⟩ := lt_prefix (enc_lt b a hb ha h) (cat P) (cat M) (cat L)
    rw [List.append_assoc, List.append_assoc] at h2 h3
    exact ⟨by rw [h2]; simp; omega, fun e => h3 e.symm⟩
theorem less_self : ∀ l : List UInt8, Op.bytesLess l l = false
  | [] => rfl
  | x :: l => by
    have : ¬ x < x := fun k => by have : x.toNat < x.toNat := k; omega
    simp [Op.bytesLess, this, less_self l]
theorem less_more : ∀ (l m : List UInt8), m ≠ [] → Op.bytesLess l (l ++ m) = true ∧ Op.bytesLess (l ++ m) l = false
  | [], m, h => by
    cases m with
    | nil => exact absurd rfl h
    | cons y m => simp [Op.bytesLess]
  | x :: l, m, h => by
    have : ¬ x < x := fun k => by have : x.toNat < x.toNat := k; omega
    obtain ⟨h1, h2⟩ := less_more l m h
    simp [Op.bytesLess, this, h1, h2]
theorem cat_ne (r : Nat) (L : List Nat) : cat (r :: L) ≠ [] := by
  intro h
  have := congrArg List.length h
  rw [cat_cons, List.length_append, enc_length] at this
  have := el_pos r
  simp at *
  omega
/-- where one is a beginning of the other -/
theorem cat_short (P L M : List Nat) (h : L = [] ∨ M = []) :
    Op.bytesLess (cat (P ++ L)) (cat (P ++ M)) = decide ((P ++ L).length < (P ++ M).length) ∧ (cat (P ++ L) = cat (P ++ M) ↔ (P ++ L).length = (P ++ M).length) := by
  cases L with
  | nil =>
    cases M with
    | nil => simp [less_self]
    | cons r M =>
      obtain ⟨h1, _⟩ := less_more (cat P) (cat (r :: M)) (cat_ne r M)
      rw [List.append_nil, cat_append P (r :: M), h1]
      have := cat_ne r M
      simp [this]
  | cons r L =>
    cases M with
    | nil =>
      obtain ⟨_, h1⟩ := less_more (cat P) (cat (r :: L)) (cat_ne r L)
      rw [List.append_nil, cat_append P (r :: L), h1]
      have := cat_ne r L
      simp [this]
    | cons q M => rcases h with h | h <;> cases h
end Go.Proofs.YtddinjgpoillgaaDoor.Rn
