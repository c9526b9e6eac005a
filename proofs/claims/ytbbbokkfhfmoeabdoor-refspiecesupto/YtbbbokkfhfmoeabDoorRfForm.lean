/-
  Plain mathematics: what is written holds no < and no & that begins no reference; what is mended is written as what is written is mended.
-/
import Derived.Test.YtbbbokkfhfmoeabDoorRfRead
import Derived.Test.YtbbbokkfhfmoeabDoorRfDig
import Derived.Test.YtbbbokkfhfmoeabDoorFdMath
import Derived.Test.YtbbbokkfhfmoeabDoorRnMd
namespace Go.Proofs.YtbbbokkfhfmoeabDoor.Rf
open Go.RowKit Go.Lib

theorem lfn_drop (l : List UInt8) (o j : Nat) : lfn (l.drop o) j = lfn l (o + j) := by
  unfold lfn
  rw [List.getElem?_drop]
theorem off_lfn (l : List UInt8) (p : Nat) : Rn.off (lfn l) p = lfn (l.drop p) := by
  funext j
  rw [lfn_drop]
  rfl
/-- what is asked of the forms -/
def okG (form : Nat → List UInt8) (x : UInt8) : Bool :=
  (decide (128 ≤ x.toNat) || (one form x).all fun y => decide (y.toNat < 128)) &&
  (decide (x.toNat < 128) || (one form x == [x])) &&
  (!(one form x).contains 60) && (!(one form x).contains 13) && (!(one form x).isEmpty) && (!(one form x).tail.contains 38) &&
  (!((one form x).head? == some 38) || (rd (lfn (one form x)) (one form x).length).2.2 == 0) &&
  (decide (128 ≤ x.toNat) || Lib.encodeRune (x.toNat : Int) == [x])
theorem okTG0 : ∀ k : Fin 256, okG inT (UInt8.ofNat k.val) = true := by decide +kernel
theorem okVG0 : ∀ k : Fin 256, (okG inV (UInt8.ofNat k.val) && !(one inV (UInt8.ofNat k.val)).contains 34) = true := by decide +kernel
theorem okTG (x : UInt8) : okG inT x = true := by
  have := okTG0 ⟨x.toNat, x.toNat_lt⟩
  simpa using this
theorem okVG' (x : UInt8) : (okG inV x && !(one inV x).contains 34) = true := by
  have := okVG0 ⟨x.toNat, x.toNat_lt⟩
  simpa using this
theorem okVG (x : UInt8) : okG inV x = true := by
  have := okVG' x
  rw [Bool.and_eq_true] at this
  exact this.1
theorem no34 (l : List UInt8) : 34 ∉ esc inV l := by
  intro m
  obtain ⟨x, _, hx⟩ := List.mem_flatMap.1 m
  have := okVG' x
  rw [Bool.and_eq_true] at this
  have h := this.2
  simp at h
  exact h hx
structure OkF (form : Nat → List UInt8) : Prop where
  small : ∀ x : UInt8, x.toNat < 128 → ∀ y ∈ one form x, y.toNat < 128
  big : ∀ x : UInt8, 128 ≤ x.toNat → one form x = [x]
  no60 : ∀ x : UInt8, 60 ∉ one form x
  no13 : ∀ x : UInt8, 13 ∉ one form x
  some1 : ∀ x : UInt8, one form x ≠ []
  tail : ∀ x : UInt8, 38 ∉ (one form x).tail
  have1 : ∀ x : UInt8, (one form x).head? = some 38 → (rd (lfn (one form x)) (one form x).length).2.2 = 0
  enc : ∀ x : UInt8, x.toNat < 128 → Lib.encodeRune (x.toNat : Int) = [x]
theorem okF_of {form : Nat → List UInt8} (h : ∀ x, okG form x = true) : OkF form := by
  have P : ∀ x, _ := fun x => by
    have := h x
    unfold okG at this
    simp only [Bool.and_eq_true] at this
    exact this
  constructor
  · intro x hx y hy
    have h1 := (P x).1.1.1.1.1.1.1
    simp only [Bool.or_eq_true, decide_eq_true_eq, List.all_eq_true] at h1
    rcases h1 with h1 | h1
    · omega
    · exact h1 y hy
  · intro x hx
    have h1 := (P x).1.1.1.1.1.1.2
    simp only [Bool.or_eq_true, decide_eq_true_eq, beq_iff_eq] at h1
    rcases h1 with h1 | h1
    · omega
    · exact h1
  · intro x
    simpa using (P x).1.1.1.1.1.2
  · intro x
    simpa using (P x).1.1.1.1.2
  · intro x
    simpa using (P x).1.1.1.2
  · intro x
    have h1 := (P x).1.1.2
    intro m
    rw [Bool.not_eq_true'] at h1
    have := List.contains_iff_mem.2 m
    rw [h1] at this
    cases this
  · intro x hx
    have h1 := (P x).1.2
    rw [hx] at h1
    simpa using h1
  · intro x hx
    have h1 := (P x).2
    simp only [Bool.or_eq_true, decide_eq_true_eq, beq_iff_eq] at h1
    rcases h1 with h1 | h1
    · omega
    · exact h1
theorem okInT : OkF inT := okF_of okTG
theorem okInV : OkF inV := okF_of okVG
theorem esc_cons (form : Nat → List UInt8) (x : UInt8) (r : List UInt8) : esc form (x :: r) = one form x ++ esc form r := by simp [esc]
theorem esc_no60 {form : Nat → List UInt8} (h : OkF form) (l : List UInt8) : 60 ∉ esc form l := by
  intro m
  obtain ⟨x, _, hx⟩ := List.mem_flatMap.1 m
  exact h.no60 x hx
theorem esc_no13 {form : Nat → List UInt8} (h : OkF form) (l : List UInt8) : 13 ∉ esc form l := by
  intro m
  obtain ⟨x, _, hx⟩ := List.mem_flatMap.1 m
  exact h.no13 x hx
theorem lfn_app {w t : List UInt8} {j : Nat} (h : j < w.length) : lfn w j = lfn (w ++ t) j := by
  unfold lfn
  rw [List.getElem?_append_left h]
/-- each & begins a reference -/
theorem esc_have {form : Nat → List UInt8} (h : OkF form) : ∀ (l : List UInt8) (i : Nat), (esc form l)[i]? = some 38 → (rd (lfn ((esc form l).drop i)) ((esc form l).drop i).length).2.2 = 0
  | [], i, hi => by simp [esc] at hi
  | x :: r, i, hi => by
    rw [esc_cons] at hi ⊢
    by_cases hl : i < (one form x).length
    · rw [List.getElem?_append_left hl] at hi
      have hi0 : i = 0 := by
        cases i with
        | zero => rfl
        | succ i =>
          refine absurd ?_ (h.tail x)
          refine List.mem_of_getElem? (i := i) ?_
          rw [List.getElem?_tail]
          exact hi
      subst hi0
      have h1 := h.have1 x (by rw [List.head?_eq_getElem?]; exact hi)
      rw [List.drop_zero]
      rw [rd_stay (f := lfn (one form x)) (n := (one form x).length) (fun j hj => lfn_app hj) (by simp) (by rw [h1]; decide)]
      exact h1
    · rw [List.getElem?_append_right (by omega)] at hi
      have := esc_have h r _ hi
      rw [List.drop_append, List.drop_eq_nil_of_le (by omega), List.nil_append]
      exact this
/-- two texts that go on alike while bytes of longer characters come -/
theorem ag {form : Nat → List UInt8} (h : OkF form) : ∀ (l : List UInt8) (j : Nat), (∀ i, i < j → i < l.length ∧ 128 ≤ lfn l i) → (l.length = j ∧ (esc form l).length = j) ∨ (j < l.length ∧ j < (esc form l).length ∧ (lfn l j = lfn (esc form l) j ∧ 128 ≤ lfn l j ∨ lfn l j < 128 ∧ lfn (esc form l) j < 128))
  | [], 0, _ => .inl ⟨rfl, rfl⟩
  | [], j + 1, hi => by have := (hi 0 (by omega)).1; simp at this
  | x :: r, 0, _ => by
    have e0 : lfn (x :: r) 0 = x.toNat := rfl
    right
    rw [esc_cons, e0]
    by_cases hx : 128 ≤ x.toNat
    · rw [h.big x hx]
      refine ⟨by simp, by simp, .inl ⟨rfl, hx⟩⟩
    · have h1 := h.some1 x
      have h2 := h.small x (by omega)
      generalize one form x = w at *
      cases w with
      | nil => exact absurd rfl h1
      | cons a w => exact ⟨by simp, by simp, .inr ⟨by omega, h2 a (by simp)⟩⟩
  | x :: r, j + 1, hi => by
    have hx : 128 ≤ x.toNat := (hi 0 (by omega)).2
    have ih := ag h r j (fun i hj => by
      have := hi (i + 1) (by omega)
      rw [List.length_cons] at this
      exact ⟨by omega, this.2⟩)
    rw [esc_cons, h.big x hx]
    have e1 : lfn (x :: r) (j + 1) = lfn r j := rfl
    have e2 : lfn ([x] ++ esc form r) (j + 1) = lfn (esc form r) j := rfl
    rw [e1, e2, List.length_append, List.length_singleton, List.length_cons]
    rcases ih with ⟨a, b⟩ | ⟨a, b, c⟩
    · exact .inl ⟨by omega, by omega⟩
    · exact .inr ⟨by omega, by omega, c⟩
theorem ag_drop {form : Nat → List UInt8} (h : OkF form) : ∀ (l : List UInt8) (j : Nat), (∀ i, i < j → i < l.length ∧ 128 ≤ lfn l i) → (esc form l).drop j = esc form (l.drop j) ∧ (esc form l).length = j + (esc form (l.drop j)).length
  | l, 0, _ => by simp
  | [], j + 1, hi => by have := (hi 0 (by omega)).1; simp at this
  | x :: r, j + 1, hi => by
    have hx : 128 ≤ x.toNat := (hi 0 (by omega)).2
    have ih := ag_drop h r j (fun i hj => by
      have := hi (i + 1) (by omega)
      rw [List.length_cons] at this
      exact ⟨by omega, this.2⟩)
    rw [esc_cons, h.big x hx]
    show (x :: esc form r).drop (j + 1) = _ ∧ _
    rw [List.drop_succ_cons, List.drop_succ_cons, List.length_append, List.length_singleton]
    exact ⟨ih.1, by omega⟩
theorem len_ag {n m b0 b1 b2 b3 c1 c2 c3 : Nat} (hn : 0 < n) (hm : 0 < m) (hs : Rn.size b0 ≠ 1) (h4 : Rn.size b0 ≤ 4) (hlo : 128 ≤ Rn.lo b0)
    (a1 : (n = 1 ∧ m = 1) ∨ (1 < n ∧ 1 < m ∧ (b1 = c1 ∧ 128 ≤ b1 ∨ b1 < 128 ∧ c1 < 128)))
    (a2 : 1 < n → 128 ≤ b1 → (n = 2 ∧ m = 2) ∨ (2 < n ∧ 2 < m ∧ (b2 = c2 ∧ 128 ≤ b2 ∨ b2 < 128 ∧ c2 < 128)))
    (a3 : 2 < n → 128 ≤ b1 → 128 ≤ b2 → (n = 3 ∧ m = 3) ∨ (3 < n ∧ 3 < m ∧ (b3 = c3 ∧ 128 ≤ b3 ∨ b3 < 128 ∧ c3 < 128))) :
    Rn.len n b0 b1 b2 b3 = Rn.len m b0 c1 c2 c3 ∧ (0 < Rn.size b0 → Rn.len n b0 b1 b2 b3 = Rn.size b0 → Rn.val b0 b1 b2 b3 = Rn.val b0 c1 c2 c3 ∧ Rn.size b0 ≤ n ∧ 128 ≤ b1 ∧ (2 < Rn.size b0 → 128 ≤ b2) ∧ (3 < Rn.size b0 → 128 ≤ b3)) := by
  unfold Rn.len Rn.val
  generalize Rn.size b0 = s at *
  generalize Rn.lo b0 = L at *
  generalize Rn.hi b0 = H at *
  rcases a1 with ⟨rfl, rfl⟩ | ⟨n1, m1, ⟨rfl, k1⟩ | ⟨k1, k1'⟩⟩
  · constructor
    · repeat' split
      all_goals omega
    · intro p
      repeat' split
      all_goals omega
  · rcases a2 n1 k1 with ⟨rfl, rfl⟩ | ⟨n2, m2, ⟨rfl, k2⟩ | ⟨k2, k2'⟩⟩
    · constructor
      · repeat' split
        all_goals omega
      · intro p
        repeat' split
        all_goals omega
    · rcases a3 n2 k1 k2 with ⟨rfl, rfl⟩ | ⟨n3, m3, ⟨rfl, k3⟩ | ⟨k3, k3'⟩⟩
      · constructor
        · repeat' split
          all_goals omega
        · intro p
          repeat' split
          all_goals omega
      · constructor
        · repeat' split
          all_goals omega
        · intro p
          repeat' split
          all_goals omega
      · constructor
        · repeat' split
          all_goals omega
        · intro p
          repeat' split
          all_goals omega
    · constructor
      · repeat' split
        all_goals omega
      · intro p
        repeat' split
        all_goals omega
  · constructor
    · repeat' split
      all_goals omega
    · intro p
      repeat' split
      all_goals omega


/-- what is mended, by the list -/
def ml : Nat → List UInt8 → List UInt8
  | 0, _ => []
  | _ + 1, [] => []
  | k + 1, x :: r => Lib.encodeRune ((Rn.dec (lfn (x :: r)) (x :: r).length).1 : Int) ++ ml k ((x :: r).drop (Rn.dec (lfn (x :: r)) (x :: r).length).2)
theorem ml_nil (k : Nat) : ml k [] = [] := by cases k <;> rfl
theorem dec_pos (f : Nat → Nat) (n : Nat) (hf : ∀ j, f j < 256) (hn : 0 < n) : 0 < (Rn.dec f n).2 := by
  rw [Rn.dec_whole f n hf hn]
  split
  · rename_i h
    unfold Rn.whole at h
    exact (of_decide_eq_true h).1
  · decide
theorem md_from (l : List UInt8) (hf : ∀ j, lfn l j < 256) : ∀ (fuel p : Nat), Rn.md (Rn.chFrom (lfn l) l.length hf fuel p) = ml fuel (l.drop p)
  | 0, p => rfl
  | fuel + 1, p => by
    by_cases hp : p < l.length
    · obtain ⟨x, r, e⟩ : ∃ x r, l.drop p = x :: r := ⟨_, _, List.drop_eq_getElem_cons hp⟩
      have hL : l.length - p = (x :: r).length := by rw [← e, List.length_drop]
      have ih := md_from l hf fuel (p + (Rn.dec (Rn.off (lfn l) p) (l.length - p)).2)
      unfold Rn.chFrom
      rw [dif_pos hp]
      show Lib.encodeRune ((Rn.dec (Rn.off (lfn l) p) (l.length - p)).1 : Int) ++ Rn.md _ = _
      rw [ih, ← List.drop_drop, off_lfn, e, hL]
      rfl
    · rw [Rn.chFrom_end _ _ _ _ _ hp, List.drop_eq_nil_of_le (by omega), ml_nil]
      rfl
theorem md_ml (l : List UInt8) (hf : ∀ j, lfn l j < 256) : Rn.md (Rn.chs (lfn l) l.length hf) = ml l.length l := md_from l hf l.length 0
theorem dec_small (x : UInt8) (r : List UInt8) (h : x.toNat < 128) : Rn.dec (lfn (x :: r)) (x :: r).length = (x.toNat, 1) := by
  have e0 : lfn (x :: r) 0 = x.toNat := rfl
  have h1 : Rn.size x.toNat = 1 := by unfold Rn.size; rw [if_pos h]
  have hs : Rn.fs (lfn (x :: r)) (x :: r).length = 1 := by
    unfold Rn.fs
    rw [if_neg (by simp), e0, h1]
  have hw : Rn.whole (lfn (x :: r)) (x :: r).length = true := by
    unfold Rn.whole Rn.fk Rn.len
    rw [hs, e0, h1]
    simp
  have hv : Rn.fv (lfn (x :: r)) = x.toNat := by
    unfold Rn.fv Rn.val
    rw [e0, if_pos h1]
  rw [Rn.dec_whole _ _ (lfn_lt _) (by simp), hw, hs, hv]
  rfl
theorem ml_smalls {form : Nat → List UInt8} (h : OkF form) : ∀ (w : List UInt8) (k : Nat) (t : List UInt8), (∀ y ∈ w, y.toNat < 128) → ml (w.length + k) (w ++ t) = w ++ ml k t
  | [], k, t, _ => by simp
  | y :: w, k, t, hy => by
    rw [List.length_cons, show w.length + 1 + k = (w.length + k) + 1 by omega, List.cons_append]
    show Lib.encodeRune _ ++ ml _ _ = _
    rw [dec_small y _ (hy y (by simp))]
    show Lib.encodeRune (y.toNat : Int) ++ ml _ ((y :: (w ++ t)).drop 1) = _
    rw [h.enc y (hy y (by simp)), List.drop_succ_cons, List.drop_zero, ml_smalls h w k t (fun z hz => hy z (by simp [hz]))]
    rfl
theorem esc_bigs {form : Nat → List UInt8} (h : OkF form) : ∀ (w t : List UInt8), (∀ y ∈ w, 128 ≤ y.toNat) → esc form (w ++ t) = w ++ esc form t
  | [], t, _ => rfl
  | y :: w, t, hy => by
    rw [List.cons_append, esc_cons, h.big y (hy y (by simp)), esc_bigs h w t (fun z hz => hy z (by simp [hz]))]
    rfl
theorem enc_bigs (v : Nat) (hv : 128 ≤ v) : ∀ y ∈ Lib.encodeRune (v : Int), 128 ≤ y.toNat := by
  intro y hy
  unfold Lib.encodeRune at hy
  obtain ⟨z, hz, rfl⟩ := List.mem_map.1 hy
  have : 128 ≤ z ∧ z < 256 := by
    unfold Lib.encodeRuneZ at hz
    split at hz
    · omega
    · split at hz
      · simp at hz; omega
      · split at hz
        · simp at hz; omega
        · split at hz
          · simp at hz; omega
          · simp at hz; omega
  have e : (z.toNat.toUInt8).toNat = z.toNat % 256 := by simp
  rw [e]
  omega

theorem esc_ml {form : Nat → List UInt8} (h : OkF form) : ∀ (k m : Nat) (l : List UInt8), l.length ≤ k → (esc form l).length ≤ m → ml m (esc form l) = esc form (ml k l)
  | k, m, [], _, _ => by rw [show esc form [] = [] from rfl, ml_nil, ml_nil]; rfl
  | 0, _, x :: r, hk, _ => by simp at hk
  | k + 1, m, x :: r, hk, hm => by
    rw [List.length_cons] at hk
    by_cases hx : x.toNat < 128
    · have t1 : ml (k + 1) (x :: r) = x :: ml k r := by
        show Lib.encodeRune _ ++ ml _ _ = _
        rw [dec_small x _ hx]
        show Lib.encodeRune (x.toNat : Int) ++ ml _ ((x :: r).drop 1) = _
        rw [h.enc x hx]
        rfl
      rw [esc_cons, List.length_append] at hm
      have hq : m = (one form x).length + (m - (one form x).length) := by omega
      rw [t1, esc_cons, esc_cons, hq, ml_smalls h _ _ _ (h.small x hx), esc_ml h k _ r (by omega) (by omega)]
    · have hx' : 128 ≤ x.toNat := by omega
      have e0 : lfn (x :: r) 0 = x.toNat := rfl
      have eE : esc form (x :: r) = x :: esc form r := by rw [esc_cons, h.big x hx']; rfl
      have q0 : lfn (esc form (x :: r)) 0 = x.toNat := by rw [eE]; rfl
      have A1 := ag h (x :: r) 1 (fun i hi => by
        obtain rfl : i = 0 := by omega
        exact ⟨by simp, by rw [e0]; exact hx'⟩)
      have A2 : 1 < (x :: r).length → 128 ≤ lfn (x :: r) 1 → _ := fun u1 u2 => ag h (x :: r) 2 (fun i hi => by
        rcases (show i = 0 ∨ i = 1 by omega) with rfl | rfl
        · exact ⟨by simp, by rw [e0]; exact hx'⟩
        · exact ⟨u1, u2⟩)
      have A3 : 2 < (x :: r).length → 128 ≤ lfn (x :: r) 1 → 128 ≤ lfn (x :: r) 2 → _ := fun u1 u2 u3 => ag h (x :: r) 3 (fun i hi => by
        rcases (show i = 0 ∨ i = 1 ∨ i = 2 by omega) with rfl | rfl | rfl
        · exact ⟨by simp, by rw [e0]; exact hx'⟩
        · exact ⟨by omega, u2⟩
        · exact ⟨u1, u3⟩)
      have hs1 : Rn.size x.toNat ≠ 1 := by
        unfold Rn.size
        rw [if_neg hx]
        repeat' split
        all_goals omega
      have hlo : 128 ≤ Rn.lo x.toNat := by
        unfold Rn.lo
        repeat' split
        all_goals omega
      have L := len_ag (b0 := x.toNat) (n := (x :: r).length) (m := (esc form (x :: r)).length) (by simp) (by rw [eE]; simp) hs1 (Rn.size_le _) hlo A1 A2 A3
      obtain ⟨L1, L2⟩ := L
      have k1 : Rn.fs (lfn (x :: r)) (x :: r).length = Rn.size x.toNat := by
        unfold Rn.fs
        rw [if_neg (by simp), e0]
      have k2 : Rn.fs (lfn (esc form (x :: r))) (esc form (x :: r)).length = Rn.size x.toNat := by
        unfold Rn.fs
        rw [if_neg (by rw [eE]; simp), q0]
      have w1 : Rn.whole (lfn (x :: r)) (x :: r).length = decide (0 < Rn.size x.toNat ∧ Rn.len (x :: r).length x.toNat (lfn (x :: r) 1) (lfn (x :: r) 2) (lfn (x :: r) 3) = Rn.size x.toNat) := by
        unfold Rn.whole Rn.fk
        rw [k1, e0]
      have w2 : Rn.whole (lfn (esc form (x :: r))) (esc form (x :: r)).length = decide (0 < Rn.size x.toNat ∧ Rn.len (x :: r).length x.toNat (lfn (x :: r) 1) (lfn (x :: r) 2) (lfn (x :: r) 3) = Rn.size x.toNat) := by
        unfold Rn.whole Rn.fk
        rw [k2, q0, L1]
      obtain ⟨m', rfl⟩ : ∃ m', m = m' + 1 := ⟨m - 1, by rw [eE, List.length_cons] at hm; omega⟩
      have t1 : ml (k + 1) (x :: r) = Lib.encodeRune ((Rn.dec (lfn (x :: r)) (x :: r).length).1 : Int) ++ ml k ((x :: r).drop (Rn.dec (lfn (x :: r)) (x :: r).length).2) := rfl
      have t2 : ml (m' + 1) (esc form (x :: r)) = Lib.encodeRune ((Rn.dec (lfn (esc form (x :: r))) (esc form (x :: r)).length).1 : Int) ++ ml m' ((esc form (x :: r)).drop (Rn.dec (lfn (esc form (x :: r))) (esc form (x :: r)).length).2) := by
        rw [eE]
        rfl
      have d1 := Rn.dec_whole (lfn (x :: r)) (x :: r).length (lfn_lt _) (by simp)
      have d2 := Rn.dec_whole (lfn (esc form (x :: r))) (esc form (x :: r)).length (lfn_lt _) (by rw [eE]; simp)
      rw [w1, k1] at d1
      rw [w2, k2] at d2
      by_cases hW : 0 < Rn.size x.toNat ∧ Rn.len (x :: r).length x.toNat (lfn (x :: r) 1) (lfn (x :: r) 2) (lfn (x :: r) 3) = Rn.size x.toNat
      · obtain ⟨v1, v2, v3, v4, v5⟩ := L2 hW.1 hW.2
        have hs4 := Rn.size_le x.toNat
        have D := ag_drop h (x :: r) (Rn.size x.toNat) (fun i hi => by
          rcases (show i = 0 ∨ i = 1 ∨ i = 2 ∨ i = 3 by omega) with rfl | rfl | rfl | rfl
          · exact ⟨by simp, by rw [e0]; exact hx'⟩
          · exact ⟨by omega, v3⟩
          · exact ⟨by omega, v4 (by omega)⟩
          · exact ⟨by omega, v5 (by omega)⟩)
        have hv : Rn.fv (lfn (esc form (x :: r))) = Rn.fv (lfn (x :: r)) := by
          unfold Rn.fv
          rw [e0, q0, v1]
        have hwT : Rn.whole (lfn (x :: r)) (x :: r).length = true := by rw [w1]; exact decide_eq_true hW
        have hbig : 128 ≤ Rn.fv (lfn (x :: r)) := by
          have hc := (Fd.whole_cr hwT).2.2.1
          rw [k1] at hc
          rcases Nat.lt_or_ge (Rn.fv (lfn (x :: r))) 128 with q | q
          · exact absurd (hc q).1 hs1
          · exact q
        rw [decide_eq_true hW, if_pos rfl] at d1 d2
        rw [t1, t2, d1, d2]
        dsimp only
        rw [hv, D.1, esc_ml h k m' ((x :: r).drop (Rn.size x.toNat)) (by rw [List.length_drop, List.length_cons]; omega) (by omega), esc_bigs h _ _ (enc_bigs _ hbig)]
      · rw [decide_eq_false hW, if_neg Bool.false_ne_true] at d1 d2
        rw [t1, t2, d1, d2]
        dsimp only
        rw [esc_bigs h _ _ (enc_bigs 65533 (by omega)), eE, List.drop_succ_cons, List.drop_zero, List.drop_succ_cons, List.drop_zero]
        rw [eE, List.length_cons] at hm
        rw [esc_ml h k m' r (by omega) (by omega)]
  termination_by k => k
/-- mended and written, or written and mended -/
theorem md_esc {form : Nat → List UInt8} (h : OkF form) (l : List UInt8) : Rn.md (Rn.chs (lfn (esc form l)) (esc form l).length (lfn_lt _)) = esc form (Rn.md (Rn.chs (lfn l) l.length (lfn_lt _))) := by
  rw [md_ml, md_ml, esc_ml h l.length _ l (Nat.le_refl _) (Nat.le_refl _)]
end Go.Proofs.YtbbbokkfhfmoeabDoor.Rf
