/-
  Plain mathematics: what is made of characters is read as these characters.
-/
import Derived.Test.YtgbldbohadacmaaRnRunes
import Derived.Test.YtgbldbohadacmaaRnEnc
namespace Go.Proofs.Ytgbldbohadacmaa.Rn
open Go.Lib

/-- a list's bytes by their place -/
def lf (l : List UInt8) : Nat → Nat := fun j => (l[j]?.getD 0).toNat
theorem lf_lt (l : List UInt8) : ∀ j, lf l j < 256 := fun j => (l[j]?.getD 0).toNat_lt
theorem arr_lf (l : List UInt8) : arr (lf l) l.length = ⟨l.toArray⟩ := by
  have e : (arr (lf l) l.length).data = l.toArray := by
    apply Array.ext
    · simp [arr]
    · intro i h1 h2
      simp [arr, lf]
  exact congrArg ByteArray.mk e
theorem off_lf (A B : List UInt8) : off (lf (A ++ B)) A.length = lf B := by
  funext j
  simp only [off, lf]
  rw [List.getElem?_append_right (by omega), Nat.add_sub_cancel_left]

/-- a character's number -/
def scal (r : Nat) : Prop := r < 1114112 ∧ ¬ (55296 ≤ r ∧ r ≤ 57343)
theorem fv_scal (f : Nat → Nat) (n : Nat) (h : whole f n = true) : scal (fv f) := by
  simp only [whole, decide_eq_true_eq] at h
  have hn : ¬ n = 0 := by
    intro e
    subst e
    simp [fs] at h
  have e0 : fs f n = size (f 0) := by unfold fs; rw [if_neg hn]
  rw [e0] at h
  unfold scal fv val
  have hk := h.2
  unfold fk at hk
  rcases size_cases (f 0) with ⟨e, c⟩ | ⟨e, c, d, l, hh⟩ | ⟨e, c, d, hh⟩ | ⟨e, c, d, hh⟩ | ⟨e, c, d⟩
  · rw [e]; simp only [if_true]; omega
  · rw [e] at hk ⊢
    rw [len2 e] at hk
    simp only [Nat.reduceEqDiff, if_false, if_true]
    omega
  · rw [e] at hk ⊢
    rw [len3 e] at hk
    simp only [Nat.reduceEqDiff, if_false, if_true]
    omega
  · rw [e] at hk ⊢
    rw [len4 e] at hk
    simp only [Nat.reduceEqDiff, if_false]
    omega
  · omega
theorem dec_scal (f : Nat → Nat) (n : Nat) (hf : ∀ j, f j < 256) (hn : 0 < n) : scal (dec f n).1 := by
  rw [dec_whole f n hf hn]
  split
  · next h => exact fv_scal f n h
  · exact ⟨by decide, by decide⟩
theorem chFrom_scal (f : Nat → Nat) (n : Nat) (hf : ∀ j, f j < 256) : ∀ fuel p, ∀ r ∈ rl (chFrom f n hf fuel p), scal r
  | 0, _ => by simp [chFrom, rl]
  | fuel + 1, p => by
    unfold chFrom
    split
    · next h =>
      intro r hr
      simp only [rl, List.map_cons, List.mem_cons] at hr
      rcases hr with rfl | hr
      · exact dec_scal _ _ (fun _ => hf _) (by omega)
      · exact chFrom_scal f n hf fuel _ r hr
    · simp [rl]
theorem chs_scal (f : Nat → Nat) (n : Nat) (hf : ∀ j, f j < 256) : ∀ r ∈ rl (chs f n hf), scal r := chFrom_scal f n hf n 0

/-- the bytes of these characters -/
def cat (L : List Nat) : List UInt8 := L.flatMap fun (r : Nat) => encodeRune r
theorem md_cat {n : Nat} (xs : List (Chr n)) : md xs = cat (rl xs) := by
  simp [md, cat, rl, List.flatMap_map]
theorem cat_append (L M : List Nat) : cat (L ++ M) = cat L ++ cat M := by simp [cat]
theorem cat_cons (r : Nat) (L : List Nat) : cat (r :: L) = encodeRune r ++ cat L := by simp [cat]
theorem enc_length (r : Int) : (encodeRune r).length = el r := by simp [encodeRune, el]
theorem enc_get (r : Int) (j : Nat) : lf (encodeRune r) j = eb r j := by
  unfold lf eb encodeRune
  rcases h : (encodeRuneZ r)[j]? with _ | x
  · simp [h]
  · have := encodeRuneZ_byte r x (List.mem_of_getElem? h)
    simp [h]
    omega
theorem dec_enc (r : Nat) (hr : scal r) (f : Nat → Nat) (n : Nat) (hf : ∀ j, f j < 256) (hn : el r ≤ n) (h : ∀ j, j < el r → f j = eb r j) : dec f n = (r, el r) := by
  have hw : (want r).toNat = r := by
    unfold want
    unfold scal at hr
    rw [if_neg (by omega)]
    omega
  have E := eb_enc r
  rw [hw] at E
  have hp := el_pos r
  have es : size (f 0) = el r := by rw [h 0 (by omega)]; exact E.fs
  have e1 : fk f (el r) = el r := (fk_congr h).trans E.fk
  have e2 := fk_min f hn (by omega)
  have e3 : fs f n = el r := by unfold fs; rw [if_neg (by omega)]; exact es
  have e4 := fk_le_fs f n
  have ew : whole f n = true := by simp only [whole, decide_eq_true_eq]; omega
  have ew2 : whole f (el r) = true := (whole_congr h).trans E.whole
  rw [dec_whole f n hf (by omega), ew, if_pos rfl, e3, fv_congr ew2 h, E.fv]

/-- these characters' places, from a place on -/
def spots : Nat → List Nat → List (Nat × Nat)
  | _, [] => []
  | p, r :: L => (p, r) :: spots (p + el r) L
theorem spots_snd : ∀ (L : List Nat) (p : Nat), (spots p L).map (·.2) = L
  | [], _ => rfl
  | r :: L, p => by simp [spots, spots_snd L]
theorem chFrom_cat (l : List UInt8) : ∀ (L : List Nat), (∀ r ∈ L, scal r) → ∀ (A : List UInt8) (fuel : Nat), l = A ++ cat L → (cat L).length ≤ fuel →
    (chFrom (lf l) l.length (lf_lt l) fuel A.length).map (·.1) = spots A.length L
  | [], _, A, fuel, hl, _ => by
    rw [chFrom_end _ _ _ _ _ (by rw [hl]; simp [cat])]
    rfl
  | r :: L, hL, A, fuel, hl, hfu => by
    have hp := el_pos r
    rw [cat_cons] at hl hfu
    rw [List.length_append, enc_length] at hfu
    obtain ⟨m, rfl⟩ : ∃ m, fuel = m + 1 := ⟨fuel - 1, by omega⟩
    have hlen : l.length = A.length + (el r + (cat L).length) := by rw [hl]; simp [enc_length]
    have hd : dec (off (lf l) A.length) (l.length - A.length) = (r, el r) := by
      refine dec_enc r (hL r (by simp)) _ _ (fun _ => lf_lt l _) (by omega) (fun j hj => ?_)
      rw [hl, off_lf, ← enc_get]
      unfold lf
      rw [List.getElem?_append_left (by rw [enc_length]; exact hj)]
    unfold chFrom
    rw [dif_pos (by omega)]
    have ih := chFrom_cat l L (fun q hq => hL q (by simp [hq])) (A ++ encodeRune r) m (by rw [hl]; simp) (by omega)
    rw [List.length_append, enc_length] at ih
    simp only [List.map_cons, hd, spots]
    rw [← ih]
theorem chs_cat (L : List Nat) (hL : ∀ r ∈ L, scal r) : (chs (lf (cat L)) (cat L).length (lf_lt _)).map (·.1) = spots 0 L :=
  chFrom_cat (cat L) L hL [] _ rfl (Nat.le_refl _)
theorem rl_cat (L : List Nat) (hL : ∀ r ∈ L, scal r) : rl (chs (lf (cat L)) (cat L).length (lf_lt _)) = L := by
  have h := congrArg (List.map (·.2)) (chs_cat L hL)
  rw [spots_snd, List.map_map] at h
  exact h
end Go.Proofs.Ytgbldbohadacmaa.Rn
