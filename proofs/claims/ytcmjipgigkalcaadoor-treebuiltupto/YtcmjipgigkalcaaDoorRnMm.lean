import Derived.Test.YtcmjipgigkalcaaDoorRnCat
/-
  Plain mathematics: of characters the order by bytes is the order by their numbers.
-/
namespace Go.Proofs.YtcmjipgigkalcaaDoor.Rn
open Go.Lib

/-- less, not greater, not the same, whatever follows -/
def Lt (a b : List UInt8) : Prop := ∀ s t : List UInt8, Op.bytesLess (a ++ s) (b ++ t) = true ∧ Op.bytesLess (b ++ t) (a ++ s) = false ∧ a ++ s ≠ b ++ t
theorem lt_head {x y : UInt8} {a b : List UInt8} (h : x.toNat < y.toNat) : Lt (x :: a) (y :: b) := by
  intro s t
  have h1 : x < y := h
  have h2 : ¬ y < x := fun k => by have : y.toNat < x.toNat := k; omega
  have h3 : ¬ x = y := fun k => by subst k; omega
  refine ⟨?_, ?_, ?_⟩
  · simp [Op.bytesLess, h1]
  · simp [Op.bytesLess, h2, Ne.symm h3]
  · simp [h3]
theorem lt_same {x y : UInt8} {a b : List UInt8} (e : x.toNat = y.toNat) (h : Lt a b) : Lt (x :: a) (y :: b) := by
  obtain rfl : x = y := UInt8.toNat_inj.1 e
  intro s t
  obtain ⟨h1, h2, h3⟩ := h s t
  refine ⟨?_, ?_, ?_⟩
  · simp [Op.bytesLess, h1]
  · have : ¬ x < x := fun k => by have : x.toNat < x.toNat := k; omega
    simp [Op.bytesLess, h2, this]
  · simp [h3]
theorem lt_prefix {a b : List UInt8} (h : Lt a b) : ∀ p : List UInt8, Lt (p ++ a) (p ++ b)
  | [] => h
  | _ :: p => lt_same rfl (lt_prefix h p)
theorem toNat_of {z : Int} (_h0 : 0 ≤ z) (h1 : z < 256) : (z.toNat.toUInt8).toNat = z.toNat := by
  simp
  omega

set_option maxHeartbeats 1000000 in
theorem enc_lt (a b : Nat) (ha : scal a) (hb : scal b) (h : a < b) : Lt (encodeRune a) (encodeRune b) := by
  unfold scal at ha hb
  unfold encodeRune
  have o1 : ∀ r : Nat, r ≤ 127 → encodeRuneZ r = [(r : Int)] := fun r k => encodeRuneZ_one (by omega) (by omega)
  have o2 : ∀ r : Nat, 128 ≤ r → r ≤ 2047 → encodeRuneZ r = [192 + (r : Int) / 64, 128 + (r : Int) % 64] := fun r k l => encodeRuneZ_two (by omega) (by omega)
  have o3 : ∀ r : Nat, 2048 ≤ r → r ≤ 65535 → ¬ (55296 ≤ r ∧ r ≤ 57343) → encodeRuneZ r = [224 + (r : Int) / 4096, 128 + (r : Int) / 64 % 64, 128 + (r : Int) % 64] := fun r k l m => encodeRuneZ_three (by omega)
  have o4 : ∀ r : Nat, 65536 ≤ r → r < 1114112 → encodeRuneZ r = [240 + (r : Int) / 262144, 128 + (r : Int) / 4096 % 64, 128 + (r : Int) / 64 % 64, 128 + (r : Int) % 64] := fun r k l => encodeRuneZ_four (by omega) (by omega)
  by_cases a1 : a ≤ 127
  · rw [o1 a a1]
    by_cases b1 : b ≤ 127
    · rw [o1 b b1]
      exact lt_head (by rw [toNat_of (by omega) (by omega), toNat_of (by omega) (by omega)]; omega)
    by_cases b2 : b ≤ 2047
    · rw [o2 b (by omega) b2]
      exact lt_head (by rw [toNat_of (by omega) (by omega), toNat_of (by omega) (by omega)]; omega)
    by_cases b3 : b ≤ 65535
    · rw [o3 b (by omega) b3 hb.2]
      exact lt_head (by rw [toNat_of (by omega) (by omega), toNat_of (by omega) (by omega)]; omega)
    · rw [o4 b (by omega) hb.1]
      exact lt_head (by rw [toNat_of (by omega) (by omega), toNat_of (by omega) (by omega)]; omega)
  by_cases a2 : a ≤ 2047
  · rw [o2 a (by omega) a2]
    by_cases b2 : b ≤ 2047
    · rw [o2 b (by omega) b2]
      by_cases c : a / 64 = b / 64
      · refine lt_same (by rw [toNat_of (by omega) (by omega), toNat_of (by omega) (by omega)]; omega) (lt_head ?_)
        rw [toNat_of (by omega) (by omega), toNat_of (by omega) (by omega)]; omega
      · exact lt_head (by rw [toNat_of (by omega) (by omega), toNat_of (by omega) (by omega)]; omega)
    by_cases b3 : b ≤ 65535
    · rw [o3 b (by omega) b3 hb.2]
      exact lt_head (by rw [toNat_of (by omega) (by omega), toNat_of (by omega) (by omega)]; omega)
    · rw [o4 b (by omega) hb.1]
      exact lt_head (by rw [toNat_of (by omega) (by omega), toNat_of (by omega) (by omega)]; omega)
  by_cases a3 : a ≤ 65535
  · rw [o3 a (by omega) a3 ha.2]
    by_cases b3 : b ≤ 65535
    · rw [o3 b (by omega) b3 hb.2]
      by_cases c : a / 4096 = b / 4096
      · refine lt_same (by rw [toNat_of (by omega) (by omega), toNat_of (by omega) (by omega)]; omega) ?_
        by_cases d : a / 64 = b / 64
        · refine lt_same (by rw [toNat_of (by omega) (by omega), toNat_of (by omega) (by omega)]; omega) (lt_head ?_)
          rw [toNat_of (by omega) (by omega), toNat_of (by omega) (by omega)]; omega
        · exact lt_head (by rw [toNat_of (by omega) (by omega), toNat_of (by omega) (by omega)]; omega)
      · exact lt_head (by rw [toNat_of (by omega) (by omega), toNat_of (by omega) (by omega)]; omega)
    · rw [o4 b (by omega) hb.1]
      exact lt_head (by rw [toNat_of (by omega) (by omega), toNat_of (by omega) (by omega)]; omega)
  · rw [o4 a (by omega) ha.1, o4 b (by omega) hb.1]
    by_cases c : a / 262144 = b / 262144
    · refine lt_same (by rw [toNat_of (by omega) (by omega), toNat_of (by omega) (by omega)]; omega) ?_
      by_cases d : a / 4096 = b / 4096
      · refine lt_same (by rw [toNat_of (by omega) (by omega), toNat_of (by omega) (by omega)]; omega) ?_
        by_cases e : a / 64 = b / 64
        · refine lt_same (by rw [toNat_of (by omega) (by omega), toNat_of (by omega) (by omega)]; omega) (lt_head ?_)
          rw [toNat_of (by omega) (by omega), toNat_of (by omega) (by omega)]; omega
        · exact lt_head (by rw [toNat_of (by omega) (by omega), toNat_of (by omega) (by omega)]; omega)
      · exact lt_head (by rw [toNat_of (by omega) (by omega), toNat_of (by omega) (by omega)]; omega)
    · exact lt_head (by rw [toNat_of (by omega) (by omega), toNat_of (by omega) (by omega)]; omega)

/-- where two texts part -/
theorem cat_part (P L M : List Nat) (a b : Nat) (ha : scal a) (hb : scal b) (h : a ≠ b) :
    Op.bytesLess (cat (P ++ a :: L)) (cat (P ++ b :: M)) = decide (a < b) ∧ cat (P ++ a :: L) ≠ cat (P ++ b :: M) := by
  rw [cat_append, cat_append, cat_cons, cat_cons]
  rcases Nat.lt_or_gt_of_ne h with h | h
  · obtain ⟨h1, _, h3⟩ := lt_prefix (enc_lt a b ha hb h) (cat P) (cat L) (cat M)
    rw [List.append_assoc, List.append_assoc] at h1 h3
    exact ⟨by rw [h1]; simp [h], h3⟩
  · obtain ⟨_, h2, h3⟩ := lt_prefix (enc_lt b a hb ha h) (cat P) (cat M) (cat L)
    rw [List.append_assoc, List.append_assoc] at h2 h3
    exact ⟨by rw [h2]; simp; omega, fun e => h3 e.symm⟩
theorem less_self : ∀ l : List UInt8, Op.bytesLess l l = false
  | [] => rfl
  | x :: l => by
    have : ¬ x < x := fun k => by have : x.toNat < x.toNat := k; omega
    simp [Op.bytesLess, this, less_self l]
theorem less_more : ∀ (l m : List UInt8), m ≠ [] → Op.bytesLess l (l ++ m) = true ∧ Op.bytesLess (l ++ m) l = false
  | [], m, h => by
    cases m with
    | nil => exact absurd rfl h
    | cons y m => simp [Op.bytesLess]
  | x :: l, m, h => by
    have : ¬ x < x := fun k => by have : x.toNat < x.toNat := k; omega
    obtain ⟨h1, h2⟩ := less_more l m h
    simp [Op.bytesLess, this, h1, h2]
theorem cat_ne (r : Nat) (L : List Nat) : cat (r :: L) ≠ [] := by
  intro h
  have := congrArg List.length h
  rw [cat_cons, List.length_append, enc_length] at this
  have := el_pos r
  simp at *
  omega
/-- where one is a beginning of the other -/
theorem cat_short (P L M : List Nat) (h : L = [] ∨ M = []) :
    Op.bytesLess (cat (P ++ L)) (cat (P ++ M)) = decide ((P ++ L).length < (P ++ M).length) ∧ (cat (P ++ L) = cat (P ++ M) ↔ (P ++ L).length = (P ++ M).length) := by
  cases L with
  | nil =>
    cases M with
    | nil => simp [less_self]
    | cons r M =>
      obtain ⟨h1, _⟩ := less_more (cat P) (cat (r :: M)) (cat_ne r M)
      rw [List.append_nil, cat_append P (r :: M), h1]
      have := cat_ne r M
      simp [this]
  | cons r L =>
    cases M with
    | nil =>
      obtain ⟨_, h1⟩ := less_more (cat P) (cat (r :: L)) (cat_ne r L)
      rw [List.append_nil, cat_append P (r :: L), h1]
      have := cat_ne r L
      simp [this]
    | cons q M => rcases h with h | h <;> cases h
end Go.Proofs.YtcmjipgigkalcaaDoor.Rn
/-
  runes.Mend and runes.Runes, of and into texts that are characters all through.
-/
namespace Go.Proofs.YtcmjipgigkalcaaDoor
open Go.RowKit Go.Shelf

namespace Rn
/-- a text that is these characters -/
def tx (L : List Nat) : ByteArray := arr (lf (cat L)) (cat L).length
theorem tx_toList (L : List Nat) : (tx L).toList = cat L := by
  unfold tx
  rw [arr_lf, ByteArray.toList_mk]
end Rn

end Go.Proofs.YtcmjipgigkalcaaDoor
/-
  Plain mathematics of mending: what is mended is characters; a text of characters is its own mending.
-/
namespace Go.Proofs.YtcmjipgigkalcaaDoor.Rn
open Go.Lib

theorem whole_enc (r : Nat) (hr : scal r) (f : Nat → Nat) (n : Nat) (hn : el r ≤ n) (h : ∀ j, j < el r → f j = eb r j) : whole f n = true ∧ fs f n = el r := by
  have hw : (want r).toNat = r := by
    unfold want
    unfold scal at hr
    rw [if_neg (by omega)]
    omega
  have E := eb_enc r
  rw [hw] at E
  have hp := el_pos r
  have es : size (f 0) = el r := by rw [h 0 (by omega)]; exact E.fs
  have e1 : fk f (el r) = el r := (fk_congr h).trans E.fk
  have e2 := fk_min f hn (by omega)
  have e3 : fs f n = el r := by unfold fs; rw [if_neg (by omega)]; exact es
  have e4 := fk_le_fs f n
  exact ⟨by simp only [whole, decide_eq_true_eq]; omega, e3⟩

/-- what stands at a place of a text that is characters all through -/
theorem at_enc (l A : List UInt8) (r : Nat) (L : List Nat) (hr : scal r) (hl : l = A ++ (encodeRune r ++ cat L)) :
    l.length = A.length + (el r + (cat L).length) ∧ whole (off (lf l) A.length) (l.length - A.length) = true ∧ fs (off (lf l) A.length) (l.length - A.length) = el r ∧ dec (off (lf l) A.length) (l.length - A.length) = (r, el r) := by
  have hlen : l.length = A.length + (el r + (cat L).length) := by rw [hl]; simp [enc_length]
  have hj : ∀ j, j < el r → off (lf l) A.length j = eb r j := fun j hj => by
    rw [hl, off_lf, ← enc_get]
    unfold lf
    rw [List.getElem?_append_left (by rw [enc_length]; exact hj)]
  obtain ⟨h1, h2⟩ := whole_enc r hr _ (l.length - A.length) (by omega) hj
  exact ⟨hlen, h1, h2, dec_enc r hr _ _ (fun _ => lf_lt l _) (by omega) hj⟩

/-- how many bytes of a character that isn't whole stand at the end, from a place on -/
def pend (f : Nat → Nat) (n : Nat) : Nat → Nat → Nat
  | 0, _ => 0
  | fuel + 1, p => if n ≤ p then 0 else if whole (off f p) (n - p) then pend f n fuel (p + fs (off f p) (n - p)) else n - p
theorem pend_end (f : Nat → Nat) (n fuel p : Nat) (h : n ≤ p) : pend f n fuel p = 0 := by
  cases fuel with
  | zero => rfl
  | succ m => unfold pend; rw [if_pos h]

theorem goodFrom_cat (l : List UInt8) : ∀ (L : List Nat), (∀ r ∈ L, scal r) → ∀ (A : List UInt8) (fuel : Nat), l = A ++ cat L → (cat L).length ≤ fuel →
    goodFrom (lf l) l.length fuel A.length = l.length ∧ pend (lf l) l.length fuel A.length = 0
  | [], _, A, fuel, hl, _ => by
    have : l.length = A.length := by rw [hl]; simp [cat]
    rw [this]
    exact ⟨goodFrom_end _ _ _ _ (Nat.le_refl _), pend_end _ _ _ _ (Nat.le_refl _)⟩
  | r :: L, hL, A, fuel, hl, hfu => by
    have hp := el_pos r
    rw [cat_cons] at hl hfu
    rw [List.length_append, enc_length] at hfu
    obtain ⟨m, rfl⟩ : ∃ m, fuel = m + 1 := ⟨fuel - 1, by omega⟩
    obtain ⟨hlen, h1, h2, _⟩ := at_enc l A r L (hL r (by simp)) hl
    have ih := goodFrom_cat l L (fun q hq => hL q (by simp [hq])) (A ++ encodeRune r) m (by rw [hl]; simp) (by omega)
    rw [List.length_append, enc_length] at ih
    constructor
    · unfold goodFrom
      rw [if_neg (by omega), h1, if_pos rfl, h2]
      exact ih.1
    · unfold pend
      rw [if_neg (by omega), h1, if_pos rfl, h2]
      exact ih.2
theorem good_cat (L : List Nat) (hL : ∀ r ∈ L, scal r) : good (lf (cat L)) (cat L).length = (cat L).length := (goodFrom_cat (cat L) L hL [] _ rfl (Nat.le_refl _)).1
theorem pend_cat (L : List Nat) (hL : ∀ r ∈ L, scal r) : pend (lf (cat L)) (cat L).length (cat L).length 0 = 0 := (goodFrom_cat (cat L) L hL [] _ rfl (Nat.le_refl _)).2

theorem mp_from (l : List UInt8) : ∀ (L : List Nat), (∀ r ∈ L, scal r) → ∀ (A : List UInt8) (fuel : Nat) (st : List UInt8 × Nat), l = A ++ cat L → (cat L).length ≤ fuel → st.2 ≤ A.length →
    ((chFrom (lf l) l.length (lf_lt l) fuel A.length).foldl (mpStep (lf l) l.length) st).1 = st.1 ++ cat L
  | [], _, A, fuel, st, hl, _, _ => by
    rw [chFrom_end _ _ _ _ _ (by rw [hl]; simp [cat])]
    simp [cat]
  | r :: L, hL, A, fuel, st, hl, hfu, hst => by
    have hp := el_pos r
    rw [cat_cons] at hl hfu
    rw [List.length_append, enc_length] at hfu
    obtain ⟨m, rfl⟩ : ∃ m, fuel = m + 1 := ⟨fuel - 1, by omega⟩
    obtain ⟨hlen, h1, h2, h3⟩ := at_enc l A r L (hL r (by simp)) hl
    have ih := fun st' h => mp_from l L (fun q hq => hL q (by simp [hq])) (A ++ encodeRune r) m st' (by rw [hl]; simp) (by omega) h
    rw [List.length_append, enc_length] at ih
    unfold chFrom
    rw [dif_pos (by omega)]
    simp only [List.foldl_cons, h3]
    have hs : mpStep (lf l) l.length st ⟨(A.length, r), by omega, by have := (hL r (by simp)).1; omega⟩ = (st.1 ++ encodeRune r, if r = 65533 then A.length + el r else st.2) := by
      unfold mpStep
      simp only []
      rw [if_neg (by omega), pw, h1, if_pos rfl, h2]
    rw [hs, ih _ (by simp only []; split <;> omega), cat_cons]
    simp
theorem mp_cat (L : List Nat) (hL : ∀ r ∈ L, scal r) : (mp (lf (cat L)) (cat L).length (chs (lf (cat L)) (cat L).length (lf_lt _))).1 = cat L := by
  exact mp_from (cat L) L hL [] (cat L).length ([], 0) rfl (Nat.le_refl _) (Nat.le_refl _)

theorem mp_some (f : Nat → Nat) (n : Nat) : ∀ (xs : List (Chr n)) (st : List UInt8 × Nat), ∃ K, (xs.foldl (mpStep f n) st).1 = st.1 ++ cat K ∧ K.length ≤ xs.length ∧ ∀ r ∈ K, r ∈ rl xs
  | [], st => ⟨[], by simp [cat], by simp, by simp⟩
  | x :: xs, st => by
    obtain ⟨K, h1, h2, h3⟩ := mp_some f n xs (mpStep f n st x)
    rw [List.foldl_cons, h1]
    unfold mpStep
    split
    · exact ⟨K, rfl, by simp; omega, fun r hr => by simp only [rl, List.map_cons, List.mem_cons]; exact .inr (h3 r hr)⟩
    · refine ⟨x.1.2 :: K, by rw [cat_cons]; simp, by simp; omega, fun r hr => ?_⟩
      simp only [rl, List.map_cons, List.mem_cons] at hr ⊢
      exact hr.elim .inl (fun h => .inr (h3 r h))
/-- MendParts writes characters, no more than there are -/
theorem mp_chars (f : Nat → Nat) (n : Nat) (hf : ∀ j, f j < 256) : ∃ K, (mp f n (chs f n hf)).1 = cat K ∧ K.length ≤ (rl (chs f n hf)).length ∧ ∀ r ∈ K, scal r := by
  obtain ⟨K, h1, h2, h3⟩ := mp_some f n (chs f n hf) ([], 0)
  exact ⟨K, by simpa [mp] using h1, by simpa [rl] using h2, fun r hr => chs_scal f n hf r (h3 r hr)⟩

theorem dig2 {a b v : Nat} (hb : b < 64) (h : v = a * 64 + b) : v / 64 = a ∧ v % 64 = b := by omega
theorem dig3 {a b c v : Nat} (hb : b < 64) (hc : c < 64) (h : v = a * 4096 + b * 64 + c) : v / 4096 = a ∧ v / 64 % 64 = b ∧ v % 64 = c := by omega
theorem dig4 {a b c d v : Nat} (hb : b < 64) (hc : c < 64) (hd : d < 64) (h : v = a * 262144 + b * 4096 + c * 64 + d) : v / 262144 = a ∧ v / 4096 % 64 = b ∧ v / 64 % 64 = c ∧ v % 64 = d := by omega
theorem tail_byte {b : Nat} (h : 128 ≤ b ∧ b ≤ 191) : 128 + b % 64 = b := by omega
/-- a whole character is written as it was read -/
theorem enc_fv (f : Nat → Nat) (n : Nat) (h : whole f n = true) : el (fv f) = fs f n ∧ ∀ j, j < fs f n → eb (fv f) j = f j := by
  have hsc := fv_scal f n h
  have hw : (want (fv f : Nat)).toNat = fv f := by
    unfold want
    unfold scal at hsc
    rw [if_neg (by omega)]
    omega
  have E := eb_enc (fv f : Nat)
  rw [hw] at E
  simp only [whole, decide_eq_true_eq] at h
  have hn : ¬ n = 0 := by
    intro e
    subst e
    simp [fs] at h
  have e0 : fs f n = size (f 0) := by unfold fs; rw [if_neg hn]
  rw [e0] at h ⊢
  have hk := h.2
  have hpos := h.1
  unfold fk at hk
  have hv : fv f = val (f 0) (f 1) (f 2) (f 3) := rfl
  unfold val at hv
  generalize fv f = v at *
  clear hw hsc h e0
  rcases size_cases (f 0) with ⟨e, c⟩ | ⟨e, c, d, l, hh⟩ | ⟨e, c, d, hh⟩ | ⟨e, c, d, hh⟩ | ⟨e, c, d⟩
  · rw [e] at hk hv ⊢
    simp only [if_true] at hv
    cases E with
    | one a b c => exact ⟨a, fun j hj => by obtain rfl : j = 0 := by omega
                                            omega⟩
    | two => omega
    | three => omega
    | four => omega
  · rw [e] at hk hv ⊢
    rw [len2 e] at hk
    simp only [Nat.reduceEqDiff, if_false, if_true] at hv
    have t1 := tail_byte (b := f 1) (by omega)
    obtain ⟨g0, g1⟩ := dig2 (by omega) hv
    have hlow : 128 ≤ v ∧ v < 2048 := by omega
    cases E with
    | one => omega
    | two a b c => exact ⟨a, fun j hj => by have : j = 0 ∨ j = 1 := by omega
                                            rcases this with rfl | rfl
                                            · rw [b, g0]; omega
                                            · rw [c, g1]; omega⟩
    | three => omega
    | four => omega
  · rw [e] at hk hv ⊢
    rw [len3 e] at hk
    simp only [Nat.reduceEqDiff, if_false, if_true] at hv
    have hb : 128 ≤ f 1 ∧ f 1 ≤ 191 := by rcases hh with h | h | h <;> omega
    have t1 := tail_byte hb
    have t2 := tail_byte (b := f 2) (by omega)
    obtain ⟨g0, g1, g2⟩ := dig3 (by omega) (by omega) hv
    have hlow : 2048 ≤ v ∧ v < 65536 := by rcases hh with h | h | h <;> omega
    cases E with
    | one => omega
    | two => omega
    | three a b c g => exact ⟨a, fun j hj => by have : j = 0 ∨ j = 1 ∨ j = 2 := by omega
                                                rcases this with rfl | rfl | rfl
                                                · rw [b, g0]; omega
                                                · rw [c, g1]; omega
                                                · rw [g, g2]; omega⟩
    | four => omega
  · rw [e] at hk hv ⊢
    rw [len4 e] at hk
    simp only [Nat.reduceEqDiff, if_false] at hv
    have hb : 128 ≤ f 1 ∧ f 1 ≤ 191 := by rcases hh with h | h | h <;> omega
    have t1 := tail_byte hb
    have t2 := tail_byte (b := f 2) (by omega)
    have t3 := tail_byte (b := f 3) (by omega)
    obtain ⟨g0, g1, g2, g3⟩ := dig4 (by omega) (by omega) (by omega) hv
    have hlow : 65536 ≤ v := by rcases hh with h | h | h <;> omega
    cases E with
    | one => omega
    | two => omega
    | three => omega
    | four a b c g k => exact ⟨a, fun j hj => by have : j = 0 ∨ j = 1 ∨ j = 2 ∨ j = 3 := by omega
                                                 rcases this with rfl | rfl | rfl | rfl
                                                 · rw [b, g0]; omega
                                                 · rw [c, g1]; omega
                                                 · rw [g, g2]; omega
                                                 · rw [k, g3]; omega⟩
  · omega

theorem lf_ext {a b : List UInt8} (h : a.length = b.length) (hj : ∀ j, j < a.length → lf a j = lf b j) : a = b := by
  apply List.ext_getElem h
  intro j h1 h2
  have := hj j h1
  unfold lf at this
  rw [List.getElem?_eq_getElem h1, List.getElem?_eq_getElem h2] at this
  exact UInt8.toNat_inj.1 this
theorem pend_all (l : List UInt8) : ∀ fuel p, l.length ≤ p + fuel → pend (lf l) l.length fuel p = 0 → cat (rl (chFrom (lf l) l.length (lf_lt l) fuel p)) = l.drop p
  | 0, p, h, _ => by
    rw [List.drop_eq_nil_of_le (by omega)]
    simp [chFrom, rl, cat]
  | fuel + 1, p, h, hz => by
    by_cases hp : l.length ≤ p
    · rw [chFrom_end _ _ _ _ _ (by omega), List.drop_eq_nil_of_le hp]
      simp [rl, cat]
    · unfold pend at hz
      rw [if_neg hp] at hz
      cases hw : whole (off (lf l) p) (l.length - p)
      · rw [hw] at hz
        simp at hz
        omega
      · rw [hw, if_pos rfl] at hz
        obtain ⟨e1, e2⟩ := enc_fv _ _ hw
        have hd := dec_whole (off (lf l) p) (l.length - p) (fun _ => lf_lt l _) (by omega)
        rw [hw, if_pos rfl] at hd
        have hle := fk_le (off (lf l) p) (l.length - p)
        simp only [whole, decide_eq_true_eq] at hw
        generalize hq : fs (off (lf l) p) (l.length - p) = q at *
        have ih := pend_all l fuel (p + q) (by omega) hz
        unfold chFrom
        rw [dif_pos (by omega)]
        simp only [rl, List.map_cons, hd]
        rw [cat_cons]
        have hT : encodeRune (fv (off (lf l) p) : Nat) = (l.drop p).take q := by
          apply lf_ext
          · rw [enc_length, List.length_take, List.length_drop]
            omega
          · intro j hj
            rw [enc_length] at hj
            rw [enc_get, e2 j (by omega)]
            unfold off lf
            rw [List.getElem?_take_of_lt (by omega), List.getElem?_drop]
        rw [hT, show cat (List.map (fun x => x.1.2) (chFrom (lf l) l.length (lf_lt l) fuel (p + q))) = l.drop (p + q) from ih, ← List.drop_drop, List.take_append_drop]

/-- a text is its own mending just where it can go on and nothing is pending; and just where it is so by its parts -/
theorem own_mending (l : List UInt8) : (good (lf l) l.length = l.length ∧ pend (lf l) l.length l.length 0 = 0) ↔ cat (rl (chs (lf l) l.length (lf_lt l))) = l := by
  constructor
  · rintro ⟨_, h⟩
    have := pend_all l l.length 0 (by omega) h
    rw [List.drop_zero] at this
    exact this
  · intro h
    have hs := chs_scal (lf l) l.length (lf_lt l)
    generalize rl (chs (lf l) l.length (lf_lt l)) = L at *
    subst h
    exact ⟨good_cat L hs, pend_cat L hs⟩
theorem own_parts (l : List UInt8) : cat (rl (chs (lf l) l.length (lf_lt l))) = l ↔ (mp (lf l) l.length (chs (lf l) l.length (lf_lt l))).1 = l := by
  constructor
  · intro h
    have hs := chs_scal (lf l) l.length (lf_lt l)
    generalize hL : rl (chs (lf l) l.length (lf_lt l)) = L at *
    subst h
    exact mp_cat L hs
  · intro h
    obtain ⟨K, h1, _, h3⟩ := mp_chars (lf l) l.length (lf_lt l)
    rw [h] at h1
    subst h1
    rw [rl_cat K h3]
end Go.Proofs.YtcmjipgigkalcaaDoor.Rn
