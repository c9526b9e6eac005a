/-
  Plain mathematics: places in a text that is characters all through: rune, line and column by its characters.
-/
import Derived.Test.YtacmenmneilamabDoorRnMc
namespace Go.Proofs.YtacmenmneilamabDoor.Rn
open Go.Lib

/-- does a line end behind r, if these follow? -/
def isEnd (r : Nat) (L : List Nat) : Bool := if r = 13 then decide (L.head? ≠ some 10) else decide (r = 10)
/-- rune, line and column behind the first k of these characters -/
def lc : List Nat → Nat → Nat → Nat → Nat → Nat × Nat × Nat
  | [], _, rn, ln, co => (rn, ln, co)
  | _ :: _, 0, rn, ln, co => (rn, ln, co)
  | r :: L, k + 1, rn, ln, co => if isEnd r L then lc L k (rn + 1) (ln + 1) 1 else lc L k (rn + 1) ln (co + 1)
theorem lc_zero (L : List Nat) (rn ln co : Nat) : lc L 0 rn ln co = (rn, ln, co) := by cases L <;> rfl

theorem enc_head (r : Nat) (hr : scal r) : eb r 0 = 10 ↔ r = 10 := by
  have hw : (want r).toNat = r := by
    unfold want
    unfold scal at hr
    rw [if_neg (by omega)]
    omega
  have E := eb_enc r
  rw [hw] at E
  cases E with
  | one hn h0 hv => omega
  | two hn h0 h1 hv hv2 => omega
  | three hn h0 h1 h2 hv hv2 hv3 => omega
  | four hn h0 h1 h2 h3 hv hv2 => omega
theorem lf_enc (A : List UInt8) (r : Nat) (B : List UInt8) (j : Nat) (hj : j < el r) : lf (A ++ (encodeRune r ++ B)) (A.length + j) = eb r j := by
  have h := congrFun (off_lf A (encodeRune r ++ B)) j
  unfold off at h
  rw [h, ← enc_get]
  unfold lf
  rw [List.getElem?_append_left (by rw [enc_length]; exact hj)]
theorem el_13 : el 13 = 1 := by decide

theorem lineEnd_cat (l A : List UInt8) (r : Nat) (L : List Nat) (hL : ∀ q ∈ L, scal q) (hl : l = A ++ (encodeRune r ++ cat L)) : lineEnd (lf l) l.length A.length r = isEnd r L := by
  unfold lineEnd isEnd
  by_cases h : r = 13
  · rw [if_pos h, if_pos h]
    have h13 : (encodeRune r).length = 1 := by subst h; decide
    cases L with
    | nil =>
      have : A.length + 1 = l.length := by rw [hl]; simp [cat, h13]
      simp [this]
    | cons c L =>
      have hc := hL c (by simp)
      have e2 : l = (A ++ encodeRune r) ++ (encodeRune c ++ cat L) := by rw [hl, cat_cons]; simp
      have e3 := lf_enc (A ++ encodeRune r) c (cat L) 0 (by have := el_pos c; omega)
      rw [← e2, List.length_append, h13, Nat.add_zero] at e3
      have hp := el_pos c
      have hlen : l.length = A.length + 1 + (el c + (cat L).length) := by rw [e2]; simp [enc_length, h13]; omega
      have h4 := enc_head c hc
      rw [e3]
      have h5 : ¬ A.length + 1 = l.length := by omega
      simp only [h5, false_or, List.head?_cons, Ne, Option.some.injEq]
      rw [decide_eq_decide, h4]
  · rw [if_neg h, if_neg h]

theorem plcFrom_cat (l : List UInt8) : ∀ (k : Nat) (N : List Nat), (∀ r ∈ N, scal r) → ∀ (A : List UInt8) (fuel a rn ln co : Nat), l = A ++ cat N → a = A.length + (cat (N.take k)).length → (cat (N.take k)).length ≤ fuel →
    plcFrom (lf l) l.length a fuel A.length rn ln co = lc N k rn ln co
  | 0, N, _, A, fuel, a, rn, ln, co, _, ha, _ => by
    rw [lc_zero, plcFrom_end _ _ _ _ _ _ _ _ (by rw [ha]; simp [cat])]
  | k + 1, [], _, A, fuel, a, rn, ln, co, _, ha, _ => by
    rw [plcFrom_end _ _ _ _ _ _ _ _ (by rw [ha]; simp [cat])]
    rfl
  | k + 1, r :: N, hN, A, fuel, a, rn, ln, co, hl, ha, hfu => by
    have hp := el_pos r
    rw [cat_cons] at hl
    rw [List.take_succ_cons, cat_cons, List.length_append, enc_length] at ha hfu
    obtain ⟨m, rfl⟩ : ∃ m, fuel = m + 1 := ⟨fuel - 1, by omega⟩
    have hd : dec (off (lf l) A.length) (a - A.length) = (r, el r) := by
      refine dec_enc r (hN r (by simp)) _ _ (fun _ => lf_lt l _) (by omega) (fun j hj => ?_)
      rw [hl, off_lf, ← enc_get]
      unfold lf
      rw [List.getElem?_append_left (by rw [enc_length]; exact hj)]
    have he := lineEnd_cat l A r N (fun q hq => hN q (by simp [hq])) hl
    have ih := fun rn ln co => plcFrom_cat l k N (fun q hq => hN q (by simp [hq])) (A ++ encodeRune r) m a rn ln co (by rw [hl]; simp) (by rw [List.length_append, enc_length]; omega) (by omega)
    simp only [List.length_append, enc_length] at ih
    unfold plcFrom lc
    rw [if_neg (by omega), hd, he]
    simp only []
    rw [ih, ih]
theorem plc_cat (N : List Nat) (hN : ∀ r ∈ N, scal r) (k : Nat) : plc (lf (cat N)) (cat N).length (cat (N.take k)).length = lc N k 0 1 1 :=
  plcFrom_cat (cat N) k N hN [] _ _ 0 1 1 rfl (by simp) (Nat.le_refl _)

theorem lc_split : ∀ (L M : List Nat) (j rn ln co : Nat), lc (L ++ M) (L.length + j) rn ln co = lc M j (lc (L ++ M) L.length rn ln co).1 (lc (L ++ M) L.length rn ln co).2.1 (lc (L ++ M) L.length rn ln co).2.2
  | [], M, j, rn, ln, co => by simp [lc_zero]
  | r :: L, M, j, rn, ln, co => by
    have e : (r :: L).length + j = (L.length + j) + 1 := by simp; omega
    rw [e]
    have u : ∀ q, lc (r :: L ++ M) (q + 1) rn ln co = if isEnd r (L ++ M) then lc (L ++ M) q (rn + 1) (ln + 1) 1 else lc (L ++ M) q (rn + 1) ln (co + 1) := fun q => rfl
    rw [u, List.length_cons, u]
    split
    · exact lc_split L M j _ _ _
    · exact lc_split L M j _ _ _
theorem lc_rune : ∀ (L : List Nat) (k rn ln co : Nat), k ≤ L.length → (lc L k rn ln co).1 = rn + k
  | [], k, rn, ln, co, h => by simp at h; subst h; rfl
  | _ :: _, 0, rn, ln, co, _ => rfl
  | r :: L, k + 1, rn, ln, co, h => by
    unfold lc
    simp at h
    split
    · rw [lc_rune L k _ _ _ h]; omega
    · rw [lc_rune L k _ _ _ h]; omega
theorem lc_line : ∀ (L : List Nat) (k rn ln co : Nat), ln ≤ (lc L k rn ln co).2.1 ∧ (1 ≤ co → 1 ≤ (lc L k rn ln co).2.2)
  | [], k, rn, ln, co => ⟨Nat.le_refl _, fun h => h⟩
  | _ :: _, 0, rn, ln, co => ⟨Nat.le_refl _, fun h => h⟩
  | r :: L, k + 1, rn, ln, co => by
    unfold lc
    split
    · have := lc_line L k (rn + 1) (ln + 1) 1
      exact ⟨by omega, fun _ => this.2 (by omega)⟩
    · have := lc_line L k (rn + 1) ln (co + 1)
      exact ⟨this.1, fun _ => this.2 (by omega)⟩
theorem lc_bound : ∀ (L : List Nat) (k rn ln co : Nat), (lc L k rn ln co).2.1 ≤ ln + k ∧ (lc L k rn ln co).2.2 ≤ co + k + 1
  | [], k, rn, ln, co => ⟨by simp [lc], by simp [lc]; omega⟩
  | _ :: _, 0, rn, ln, co => ⟨by simp [lc], by simp [lc]⟩
  | r :: L, k + 1, rn, ln, co => by
    unfold lc
    split
    · have := lc_bound L k (rn + 1) (ln + 1) 1
      omega
    · have := lc_bound L k (rn + 1) ln (co + 1)
      omega
theorem cat_ge : ∀ L : List Nat, L.length ≤ (cat L).length
  | [] => by simp
  | r :: L => by
    have := cat_ge L
    have := el_pos r
    rw [cat_cons, List.length_append, enc_length, List.length_cons]
    omega
/-- from another place on -/
theorem lc_moved (rn ln co : Nat) (hln : 1 ≤ ln) : ∀ (L : List Nat) (k a b c : Nat), 1 ≤ b → 1 ≤ c →
    lc L k (rn + a) (ln + b - 1) (if b = 1 then co + c - 1 else c) = (rn + (lc L k a b c).1, ln + (lc L k a b c).2.1 - 1, if (lc L k a b c).2.1 = 1 then co + (lc L k a b c).2.2 - 1 else (lc L k a b c).2.2)
  | [], k, a, b, c, _, _ => rfl
  | _ :: _, 0, a, b, c, _, _ => rfl
  | r :: L, k + 1, a, b, c, hb, hc => by
    unfold lc
    split
    · have ih := lc_moved rn ln co hln L k (a + 1) (b + 1) 1 (by omega) (by omega)
      rw [if_neg (show ¬ b + 1 = 1 by omega)] at ih
      rw [← ih]
      congr 1
      omega
    · have ih := lc_moved rn ln co hln L k (a + 1) b (c + 1) hb (by omega)
      rw [← ih]
      congr 1
      by_cases e : b = 1
      · rw [if_pos e, if_pos e]; omega
      · rw [if_neg e, if_neg e]

/-- the three places that the law looks at -/
theorem places (L M : List Nat) : ∃ pl pc rl rc qr ql qc : Nat, lc (L ++ M) L.length 0 1 1 = (L.length, pl, pc) ∧ lc M M.length 0 1 1 = (M.length, rl, rc) ∧ lc (L ++ M) (L ++ M).length 0 1 1 = (qr, ql, qc) ∧ qr = L.length + M.length ∧ ql = pl + rl - 1 ∧ qc = (if rl = 1 then pc + rc - 1 else rc) ∧
    1 ≤ pl ∧ pl ≤ L.length + 1 ∧ 1 ≤ pc ∧ pc ≤ L.length + 2 ∧ 1 ≤ rl ∧ rl ≤ M.length + 1 ∧ 1 ≤ rc ∧ rc ≤ M.length + 2 := by
  have a1 := lc_rune (L ++ M) L.length 0 1 1 (by simp)
  have a2 := lc_line (L ++ M) L.length 0 1 1
  have a3 := lc_bound (L ++ M) L.length 0 1 1
  have b1 := lc_rune M M.length 0 1 1 (Nat.le_refl _)
  have b2 := lc_line M M.length 0 1 1
  have b3 := lc_bound M M.length 0 1 1
  have e := lc_split L M M.length 0 1 1
  rcases hp : lc (L ++ M) L.length 0 1 1 with ⟨x, pl, pc⟩
  rcases hr : lc M M.length 0 1 1 with ⟨y, rl, rc⟩
  rw [hp] at a1 a2 a3 e
  rw [hr] at b1 b2 b3
  simp only [] at a1 a2 a3 b1 b2 b3 e
  have a4 := a2.2 (Nat.le_refl _)
  have b4 := b2.2 (Nat.le_refl _)
  have mv := lc_moved x pl pc a2.1 M M.length 0 1 1 (Nat.le_refl _) (Nat.le_refl _)
  rw [hr] at mv
  simp only [if_true, Nat.add_zero, Nat.add_sub_cancel] at mv
  refine ⟨pl, pc, rl, rc, L.length + M.length, pl + rl - 1, if rl = 1 then pc + rc - 1 else rc, by rw [a1]; simp, by rw [b1]; simp, ?_, rfl, rfl, rfl, a2.1, by omega, a4, by omega, b2.1, by omega, b4, by omega⟩
  rw [List.length_append, e, mv, a1, b1]
  simp
theorem spots_at : ∀ (L : List Nat) (p r : Nat) (M : List Nat), (spots p (L ++ r :: M))[L.length]? = some (p + (cat L).length, r)
  | [], p, r, M => by simp [spots, cat]
  | q :: L, p, r, M => by
    have := spots_at L (p + el q) r M
    simp only [List.cons_append, spots, List.length_cons, List.getElem?_cons_succ, this, cat_cons, List.length_append, enc_length]
    simp
    omega
theorem spots_length : ∀ (L : List Nat) (p : Nat), (spots p L).length = L.length
  | [], _ => rfl
  | r :: L, p => by simp [spots, spots_length L]
theorem byt_cat (L M : List Nat) (h : ∀ r ∈ L ++ M, scal r) : byt (chs (lf (cat (L ++ M))) (cat (L ++ M)).length (lf_lt _)) L.length = ((cat L).length, 0) := by
  have hc := chs_cat (L ++ M) h
  have hlen : (chs (lf (cat (L ++ M))) (cat (L ++ M)).length (lf_lt _)).length = (L ++ M).length := by
    have := congrArg List.length hc
    rwa [List.length_map, spots_length] at this
  unfold byt
  cases M with
  | nil =>
    rw [List.getElem?_eq_none (by rw [hlen]; simp)]
    simp only []
    rw [if_pos (by rw [hlen]; simp)]
    simp
  | cons r M =>
    have h1 := spots_at L 0 r M
    rw [← hc, List.getElem?_map] at h1
    rcases hx : (chs (lf (cat (L ++ r :: M))) (cat (L ++ r :: M)).length (lf_lt _))[L.length]? with _ | x
    · rw [hx] at h1; cases h1
    · rw [hx] at h1
      simp only [Option.map_some, Option.some.injEq] at h1
      simp [h1]
end Go.Proofs.YtacmenmneilamabDoor.Rn
