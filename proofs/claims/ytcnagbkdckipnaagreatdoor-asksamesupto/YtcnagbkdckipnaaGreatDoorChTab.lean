import Derived.Test.YtcnagbkdckipnaaGreatDoorRnBeg
import Derived.Lib.RuneBytes
import Derived.Shelf.Strings.Search3
import Derived.Shelf.Strings.Prefix
import Derived.Test.YtcnagbkdckipnaaGreatDoorProg
import Derived.Test.YtcnagbkdckipnaaGreatDoorRows
import Derived.WalkKit
import Derived.WalkSpells
import Derived.WalkLawsBesides
import Derived.LoopTactic
/-
  Plain mathematics: the bytes of a rune, told by their place: they are one whole character; each shorter beginning waits.
-/
namespace Go.Proofs.YtcnagbkdckipnaaGreatDoor.Rn
open Go.Lib

theorem len_congr {n a0 a1 a2 a3 b0 b1 b2 b3 : Nat} (h0 : 0 < n → a0 = b0) (h1 : 1 < n → a1 = b1) (h2 : 2 < n → a2 = b2) (h3 : 3 < n → a3 = b3) : len n a0 a1 a2 a3 = len n b0 b1 b2 b3 := by
  by_cases c0 : 0 < n
  · obtain rfl := h0 c0
    by_cases c1 : 1 < n
    · obtain rfl := h1 c1
      by_cases c2 : 2 < n
      · obtain rfl := h2 c2
        by_cases c3 : 3 < n
        · rw [h3 c3]
        · obtain rfl : n = 3 := by omega
          simp [len]
      · obtain rfl : n = 2 := by omega
        simp [len]
    · obtain rfl : n = 1 := by omega
      simp [len]
  · obtain rfl : n = 0 := by omega
    simp [len]
theorem fk_congr {f g : Nat → Nat} {n : Nat} (h : ∀ j, j < n → f j = g j) : fk f n = fk g n := len_congr (h 0) (h 1) (h 2) (h 3)
theorem fs_congr {f g : Nat → Nat} {n : Nat} (h : ∀ j, j < n → f j = g j) : fs f n = fs g n := by
  unfold fs
  split
  · rfl
  · rw [h 0 (by omega)]
theorem whole_congr {f g : Nat → Nat} {n : Nat} (h : ∀ j, j < n → f j = g j) : whole f n = whole g n := by unfold whole; rw [fk_congr h, fs_congr h]
theorem waits_congr {f g : Nat → Nat} {n : Nat} (h : ∀ j, j < n → f j = g j) : waits f n = waits g n := by unfold waits; rw [fk_congr h, fs_congr h]
theorem fv_congr {f g : Nat → Nat} {n : Nat} (hw : whole f n = true) (h : ∀ j, j < n → f j = g j) : fv f = fv g := by
  simp only [whole, decide_eq_true_eq] at hw
  have hle := fk_le f n
  have hn : ¬ n = 0 := by
    intro e
    subst e
    simp [fs] at hw
  have e0 : fs f n = size (f 0) := by unfold fs; rw [if_neg hn]
  rw [e0] at hw
  have h0 := h 0 (by omega)
  unfold fv val
  rw [← h0]
  by_cases c1 : size (f 0) = 1
  · simp [c1]
  by_cases c2 : size (f 0) = 2
  · simp only [c2, Nat.reduceEqDiff, if_false, if_true]
    rw [h 1 (by omega)]
  by_cases c3 : size (f 0) = 3
  · simp only [c3, Nat.reduceEqDiff, if_false, if_true]
    rw [h 1 (by omega), h 2 (by omega)]
  · have c4 : size (f 0) = 4 := by have := size_le (f 0); omega
    simp only [c4, Nat.reduceEqDiff, if_false]
    rw [h 1 (by omega), h 2 (by omega), h 3 (by omega)]

theorem good_waits {f : Nat → Nat} {n : Nat} (h : waits f n = true) : good f n = n := by
  have hn : ¬ n = 0 := by
    intro e
    subst e
    simp [waits, fs] at h
  have hw : whole f n = false := by
    simp only [whole, waits, decide_eq_true_eq, decide_eq_false_iff_not] at *
    omega
  obtain ⟨m, rfl⟩ : ∃ m, n = m + 1 := ⟨n - 1, by omega⟩
  unfold good goodFrom
  rw [if_neg (by omega), off_zero, Nat.sub_zero, hw]
  simp only [waits, decide_eq_true_eq] at h
  simp
  omega
theorem good_whole {f : Nat → Nat} {n : Nat} (h : whole f n = true) (hs : fs f n = n) : good f n = n := by
  have hn : ¬ n = 0 := by
    intro e
    subst e
    simp [whole, fs] at h
  obtain ⟨m, rfl⟩ : ∃ m, n = m + 1 := ⟨n - 1, by omega⟩
  unfold good goodFrom
  rw [if_neg (by omega), off_zero, Nat.sub_zero, h, hs]
  simp only [if_true, Nat.zero_add]
  exact goodFrom_end _ _ _ _ (Nat.le_refl _)

/-- the bytes of a rune, by their place; how many they are; the character that is written -/
def eb (r : Int) : Nat → Nat := fun j => ((encodeRuneZ r)[j]?.getD 0).toNat
def el (r : Int) : Nat := (encodeRuneZ r).length
def want (r : Int) : Int := if r < 0 ∨ 1114111 < r ∨ (55296 ≤ r ∧ r ≤ 57343) then 65533 else r
theorem eb_lt (r : Int) : ∀ j, eb r j < 256 := by
  intro j
  unfold eb
  rcases h : (encodeRuneZ r)[j]? with _ | x
  · simp
  · have := encodeRuneZ_byte r x (List.mem_of_getElem? h)
    simp only [Option.getD_some]
    omega
theorem el_pos (r : Int) : 1 ≤ el r ∧ el r ≤ 4 := encodeRuneZ_length r

/-- what is known of a rune's bytes, by how many they are -/
inductive Enc (f : Nat → Nat) (n v : Nat) : Prop
  | one (hn : n = 1) (h0 : f 0 = v) (hv : v < 128)
  | two (hn : n = 2) (h0 : f 0 = 192 + v / 64) (h1 : f 1 = 128 + v % 64) (hv : 128 ≤ v) (hv2 : v < 2048)
  | three (hn : n = 3) (h0 : f 0 = 224 + v / 4096) (h1 : f 1 = 128 + v / 64 % 64) (h2 : f 2 = 128 + v % 64) (hv : 2048 ≤ v) (hv2 : v < 65536) (hv3 : v < 55296 ∨ 57343 < v)
  | four (hn : n = 4) (h0 : f 0 = 240 + v / 262144) (h1 : f 1 = 128 + v / 4096 % 64) (h2 : f 2 = 128 + v / 64 % 64) (h3 : f 3 = 128 + v % 64) (hv : 65536 ≤ v) (hv2 : v < 1114112)
theorem eb_enc (r : Int) : Enc (eb r) (el r) (want r).toNat := by
  by_cases h : r < 0 ∨ (55296 ≤ r ∧ r ≤ 57343) ∨ 1114111 < r
  · have e := encodeRuneZ_bad h
    have w : want r = 65533 := by unfold want; rw [if_pos (by omega)]
    rw [w]
    refine .three ?_ ?_ ?_ ?_ (by decide) (by decide) (by decide)
    · simp [el, e]
    all_goals simp [eb, e]
  · have w : want r = r := by unfold want; rw [if_neg (by omega)]
    rw [w]
    by_cases h1 : r ≤ 127
    · have e := encodeRuneZ_one (r := r) (by omega) h1
      exact .one (by simp [el, e]) (by simp [eb, e]) (by omega)
    by_cases h2 : r ≤ 2047
    · have e := encodeRuneZ_two (r := r) (by omega) h2
      exact .two (by simp [el, e]) (by simp [eb, e]; omega) (by simp [eb, e]; omega) (by omega) (by omega)
    by_cases h3 : r ≤ 65535
    · have e := encodeRuneZ_three (r := r) (by omega)
      exact .three (by simp [el, e]) (by simp [eb, e]; omega) (by simp [eb, e]; omega) (by simp [eb, e]; omega) (by omega) (by omega) (by omega)
    · have e := encodeRuneZ_four (r := r) (by omega) (by omega)
      exact .four (by simp [el, e]) (by simp [eb, e]; omega) (by simp [eb, e]; omega) (by simp [eb, e]; omega) (by simp [eb, e]; omega) (by omega) (by omega)
theorem Enc.fs {f : Nat → Nat} {n v : Nat} (h : Enc f n v) : size (f 0) = n := by
  cases h with
  | one hn h0 hv => rcases size_cases (f 0) with h | h | h | h | h <;> omega
  | two hn h0 h1 hv hv2 => rcases size_cases (f 0) with h | h | h | h | h <;> omega
  | three hn h0 h1 h2 hv hv2 hv3 => rcases size_cases (f 0) with h | h | h | h | h <;> omega
  | four hn h0 h1 h2 h3 hv hv2 => rcases size_cases (f 0) with h | h | h | h | h <;> omega
theorem Enc.fk {f : Nat → Nat} {n v : Nat} (h : Enc f n v) : Rn.fk f n = n := by
  have hs := h.fs
  unfold Rn.fk
  cases h with
  | one hn h0 hv => subst hn; rw [len1 hs]; omega
  | two hn h0 h1 hv hv2 =>
    subst hn
    rw [len2 hs]
    rcases size_cases (f 0) with h | ⟨_, _, _, _, _⟩ | h | h | h <;> omega
  | three hn h0 h1 h2 hv hv2 hv3 =>
    subst hn
    rw [len3 hs]
    rcases size_cases (f 0) with h | h | ⟨_, _, _, h | h | h⟩ | h | h <;> omega
  | four hn h0 h1 h2 h3 hv hv2 =>
    subst hn
    rw [len4 hs]
    rcases size_cases (f 0) with h | h | h | ⟨_, _, _, h | h | h⟩ | h <;> omega
theorem Enc.fv {f : Nat → Nat} {n v : Nat} (h : Enc f n v) : Rn.fv f = v := by
  have hs := h.fs
  unfold Rn.fv val
  rw [hs]
  cases h with
  | one hn h0 hv => subst hn; simp [h0]
  | two hn h0 h1 hv hv2 => subst hn; simp only [Nat.reduceEqDiff, if_false, if_true]; omega
  | three hn h0 h1 h2 hv hv2 hv3 => subst hn; simp only [Nat.reduceEqDiff, if_false, if_true]; omega
  | four hn h0 h1 h2 h3 hv hv2 => subst hn; simp only [Nat.reduceEqDiff, if_false]; omega
theorem Enc.pos {f : Nat → Nat} {n v : Nat} (h : Enc f n v) : 0 < n ∧ n ≤ 4 := by cases h <;> omega
theorem Enc.fsn {f : Nat → Nat} {n v : Nat} (h : Enc f n v) : Rn.fs f n = n := by
  have := h.pos
  unfold Rn.fs
  rw [if_neg (by omega)]
  exact h.fs
theorem Enc.whole {f : Nat → Nat} {n v : Nat} (h : Enc f n v) : Rn.whole f n = true := by
  have := h.pos
  have a := h.fk
  have b := h.fsn
  unfold Rn.whole
  rw [a, b]
  simp; omega
theorem Enc.waits {f : Nat → Nat} {n v : Nat} (h : Enc f n v) {m : Nat} (hm : 0 < m) (hmn : m < n) : Rn.waits f m = true := by
  have a := h.fk
  have b := h.fs
  have e := fk_min f (m := m) (n := n) (by omega) (by omega)
  have e1 : Rn.fs f m = n := by unfold Rn.fs; rw [if_neg (by omega)]; exact b
  unfold Rn.waits
  rw [e, e1, a]
  simp; omega
end Go.Proofs.YtcnagbkdckipnaaGreatDoor.Rn
/-
  The mathematics of a Feed: what lies behind the characters that were taken, and that it stays so when more bytes come.
-/
namespace Go.Proofs.YtcnagbkdckipnaaGreatDoor
open Go.RowKit Go.Lib

namespace Fd
open Rn
theorem whole_lt {f : Nat → Nat} {n : Nat} (h : whole f n = true) : 0 < fs f n ∧ fs f n ≤ n ∧ fs f n = size (f 0) ∧ 0 < n := by
  simp only [whole, decide_eq_true_eq] at h
  have a := fk_le f n
  have hn : 0 < n := by omega
  exact ⟨h.1, by omega, by unfold fs; rw [if_neg (by omega)], hn⟩
theorem whole_up {f : Nat → Nat} {m n : Nat} (h : whole f m = true) (hm : m ≤ n) : whole f n = true ∧ fs f n = fs f m := by
  obtain ⟨a1, a2, a3, a4⟩ := whole_lt h
  have e : fs f n = size (f 0) := by unfold fs; rw [if_neg (by omega)]
  have e2 := fk_min f hm (by omega)
  have e3 := fk_le_fs f n
  simp only [whole, decide_eq_true_eq] at h ⊢
  omega
theorem whole_down {f : Nat → Nat} {m n : Nat} (h : whole f n = true) (hm : fs f n ≤ m) (hn : m ≤ n) : whole f m = true := by
  obtain ⟨a1, a2, a3, a4⟩ := whole_lt h
  have e : fs f m = size (f 0) := by unfold fs; rw [if_neg (by omega)]
  have e2 := fk_min f hn (by omega)
  simp only [whole, decide_eq_true_eq] at h ⊢
  omega
/-- of a whole character: is it U+000D, and its last byte -/
theorem whole_cr {f : Nat → Nat} {n : Nat} (h : whole f n = true) : (fv f = 13 → fs f n = 1 ∧ f 0 = 13) ∧ (fv f ≠ 13 → f (fs f n - 1) ≠ 13) ∧ (fv f < 128 → fs f n = 1 ∧ fv f = f 0) ∧ (f 0 < 128 → fs f n = 1 ∧ fv f = f 0) := by
  obtain ⟨a1, a2, a3, a4⟩ := whole_lt h
  simp only [whole, decide_eq_true_eq] at h
  have hk := h.2
  rw [a3] at hk ⊢
  unfold fk at hk
  rcases size_cases (f 0) with ⟨e, c⟩ | ⟨e, c⟩ | ⟨e, c⟩ | ⟨e, c⟩ | ⟨e, c⟩
  · have : fv f = f 0 := by simp [fv, val, e]
    rw [e, this]
    simp
    try omega
  · rw [e] at hk ⊢
    have h2 := (len2 e).1 hk
    have : fv f = val (f 0) (f 1) (f 2) (f 3) := rfl
    unfold val at this
    simp only [e] at this
    refine ⟨?_, ?_, ?_, ?_⟩
    · intro q; exfalso; simp at this; omega
    · intro q; show f 1 ≠ 13; omega
    · intro q; exfalso; simp at this; omega
    · intro q; exfalso; omega
  · rw [e] at hk ⊢
    have h2 := (len3 e).1 hk
    have : fv f = val (f 0) (f 1) (f 2) (f 3) := rfl
    unfold val at this
    simp only [e] at this
    have l1 : 128 ≤ lo (f 0) := by unfold lo; repeat' split
                                   all_goals omega
    refine ⟨?_, ?_, ?_, ?_⟩
    · intro q; exfalso; simp at this; have : f 0 = 224 → lo (f 0) = 160 := by intro z; rw [z]; rfl
      omega
    · intro q; show f 2 ≠ 13; omega
    · intro q; exfalso; simp at this; have : f 0 = 224 → lo (f 0) = 160 := by intro z; rw [z]; rfl
      omega
    · intro q; exfalso; omega
  · rw [e] at hk ⊢
    have h2 := (len4 e).1 hk
    have : fv f = val (f 0) (f 1) (f 2) (f 3) := rfl
    unfold val at this
    simp only [e] at this
    have l1 : 128 ≤ lo (f 0) := by unfold lo; repeat' split
                                   all_goals omega
    refine ⟨?_, ?_, ?_, ?_⟩
    · intro q; exfalso; simp at this; have : f 0 = 240 → lo (f 0) = 144 := by intro z; rw [z]; rfl
      omega
    · intro q; show f 3 ≠ 13; omega
    · intro q; exfalso; simp at this; have : f 0 = 240 → lo (f 0) = 144 := by intro z; rw [z]; rfl
      omega
    · intro q; exfalso; omega
  · omega

/-- what Peek tells of N bytes behind T of them: the rune, how far a wrong byte lies behind T, the width, how -/
def pk (F : Nat → Nat) (N T : Nat) (E : Bool) : Nat × Nat × Nat × Nat :=
  if whole (off F T) (N - T) then
    if fv (off F T) = 13 then
      if T + 1 < N then (if F (T + 1) = 10 then (10, 0, 2, 0) else (10, 0, 1, 0))
      else if E then (10, 0, 1, 0) else (0, 0, 0, 1)
    else (fv (off F T), 0, fs (off F T) (N - T), 0)
  else if N ≤ T then (0, 0, 0, if E then 3 else 1)
  else if waits (off F T) (N - T) then (if E then (0, N - T, 0, 2) else (0, 0, 0, 1))
  else (0, fk (off F T) (N - T), 0, 2)

theorem off_off (F : Nat → Nat) (d k : Nat) : off (off F d) k = off F (d + k) := by
  funext j
  show F (d + (k + j)) = F (d + k + j)
  rw [Nat.add_assoc]
theorem pk_off (F : Nat → Nat) (d n k : Nat) (E : Bool) : pk (off F d) n k E = pk F (d + n) (d + k) E := by
  unfold pk
  rw [off_off, show d + n - (d + k) = n - k by omega]
  have h1 : (k + 1 < n) = (d + k + 1 < d + n) := by apply propext; omega
  have h2 : (n ≤ k) = (d + n ≤ d + k) := by apply propext; omega
  have h3 : off F d (k + 1) = F (d + k + 1) := rfl
  simp only [h1, h2, h3]

/-- from p on there are whole characters up to q -/
inductive Run (F : Nat → Nat) (N : Nat) : Nat → Nat → Prop
  | refl (p : Nat) : Run F N p p
  | step {p q : Nat} (h : whole (off F p) (N - p) = true) (r : Run F N (p + fs (off F p) (N - p)) q) : Run F N p q
theorem Run.le {F : Nat → Nat} {N p q : Nat} (h : Run F N p q) : p ≤ q := by
  induction h with
  | refl => exact Nat.le_refl _
  | step h r ih => omega
theorem Run.bound {F : Nat → Nat} {N p q : Nat} (h : Run F N p q) (hp : p ≤ N) : q ≤ N := by
  induction h with
  | refl => exact hp
  | step h r ih => exact ih (by have := whole_lt h; omega)
theorem Run.up {F : Nat → Nat} {N N' p q : Nat} (h : Run F N p q) (hN : N ≤ N') : Run F N' p q := by
  induction h with
  | refl => exact .refl _
  | @step p q h r ih =>
    obtain ⟨a, b⟩ := whole_up (n := N' - p) h (by omega)
    exact .step a (by rw [b]; exact ih)
theorem Run.congr {F G : Nat → Nat} {N p q : Nat} (hG : ∀ j, j < N → F j = G j) (h : Run F N p q) : Run G N p q := by
  induction h with
  | refl => exact .refl _
  | @step p q h r ih =>
    have hl := whole_lt h
    have e : ∀ j, j < N - p → off F p j = off G p j := fun j hj => hG _ (by omega)
    exact .step (by rw [← whole_congr e]; exact h) (by rw [← fs_congr e]; exact ih)
theorem Run.trans {F : Nat → Nat} {N p q r : Nat} (h : Run F N p q) (k : Run F N q r) : Run F N p r := by
  induction h with
  | refl => exact k
  | step h _ ih => exact .step h (ih k)
theorem Run.one {F : Nat → Nat} {N p : Nat} (h : whole (off F p) (N - p) = true) : Run F N p (p + fs (off F p) (N - p)) := .step h (.refl _)
theorem Run.tail {F : Nat → Nat} {N p q : Nat} (h : Run F N p q) (hw : whole (off F p) (N - p) = true) (hq : whole (off F q) (N - q) = false) : Run F N (p + fs (off F p) (N - p)) q := by
  cases h with
  | refl => rw [hw] at hq; cases hq
  | step _ r => exact r
theorem Run.head {F : Nat → Nat} {N p q : Nat} (h : Run F N p q) (hw : whole (off F p) (N - p) = false) : p = q := by
  cases h with
  | refl => rfl
  | step h _ => rw [hw] at h; cases h
theorem Run.shift {F : Nat → Nat} {d n p q : Nat} (h : Run (off F d) n p q) : Run F (d + n) (d + p) (d + q) := by
  induction h with
  | refl => exact .refl _
  | @step p q h r ih =>
    rw [off_off, show n - p = d + n - (d + p) by omega] at h ih
    exact .step h (by rw [Nat.add_assoc]; exact ih)
theorem Run.diff {F : Nat → Nat} {N p q r : Nat} (h : Run F N p q) (k : Run F N p r) (hr : whole (off F r) (N - r) = false) : Run F N q r := by
  induction h with
  | refl => exact k
  | step h _ ih => exact ih (k.tail h hr)
/-- down again: the run lies within the bytes -/
theorem Run.down {F : Nat → Nat} {N M p q : Nat} (h : Run F N p q) (hq : q ≤ M) (hM : M ≤ N) : Run F M p q := by
  induction h with
  | refl => exact .refl _
  | @step p q h r ih =>
    have hl := r.le
    have hd := whole_down (m := M - p) h (by omega) (by omega)
    have hu := whole_up (n := N - p) hd (by omega)
    exact .step hd (by rw [← hu.2]; exact ih hq)

/-- what a Feed keeps: n of the bytes from d on, k of them taken, wh of them whole characters -/
structure Inv (F : Nat → Nat) (N T : Nat) (E : Bool) (d n k wh : Nat) (bad : Bool) : Prop where
  at' : d + k = T
  run : Run F N T (d + wh)
  run0 : Run F N 0 T
  stop : whole (off F (d + wh)) (N - (d + wh)) = false
  plain : bad = false → d + n = N ∧ (d + wh = N ∨ waits (off F (d + wh)) (N - (d + wh)) = true)
  wrong : bad = true → d + wh < N ∧ waits (off F (d + wh)) (N - (d + wh)) = false ∧ n = wh + fk (off F (d + wh)) (N - (d + wh)) + 1
  cr : E = false → T = N → T = 0 ∨ F (T - 1) ≠ 13

theorem fk_lt {f : Nat → Nat} {n : Nat} (hn : 0 < n) (hw : whole f n = false) (hx : waits f n = false) : fk f n < n := by
  have a1 := fk_le f n
  have a2 := fk_le_fs f n
  have e : fs f n = size (f 0) := by unfold fs; rw [if_neg (by omega)]
  simp only [whole, waits, decide_eq_false_iff_not] at hw hx
  by_cases hs : size (f 0) = 0
  · have := fk_zero f n hs
    omega
  · omega
theorem Inv.le {F : Nat → Nat} {N T d n k wh : Nat} {E bad : Bool} (h : Inv F N T E d n k wh bad) : d + n ≤ N ∧ k ≤ wh ∧ wh ≤ n ∧ T ≤ N := by
  have h1 := h.run.le
  have h2 := h.run0.bound (Nat.zero_le _)
  have h3 := h.run.bound h2
  have h4 := h.at'
  cases hb : bad
  · obtain ⟨a, _⟩ := h.plain hb
    omega
  · obtain ⟨a, b, c⟩ := h.wrong hb
    have := fk_lt (show 0 < N - (d + wh) by omega) h.stop b
    omega
/-- what is kept tells what all bytes tell -/
theorem Inv.pk {F : Nat → Nat} {N T d n k wh : Nat} {E bad : Bool} (h : Inv F N T E d n k wh bad) : pk (off F d) n k E = Fd.pk F N T E := by
  rw [pk_off, h.at']
  have hle := h.le
  cases hb : bad
  · rw [(h.plain hb).1]
  · obtain ⟨a, b, c⟩ := h.wrong hb
    have hf := fk_lt (show 0 < N - (d + wh) by omega) h.stop b
    have hT := h.run.le
    have hr := h.run
    have hstop := h.stop
    generalize hM : d + n = M at *
    generalize hW : d + wh = W at *
    have hMW : M = W + fk (off F W) (N - W) + 1 := by omega
    clear c hM
    by_cases hw : whole (off F T) (N - T) = true
    · have ht := (hr.tail hw hstop).le
      have hd := whole_down (m := M - T) hw (by omega) (by omega)
      have hu := whole_up (n := N - T) hd (by omega)
      obtain ⟨l1, _⟩ := whole_lt hw
      unfold Fd.pk
      rw [hw, hd, ← hu.2]
      simp only [if_true]
      have e1 : (T + 1 < M) = True := by simp; omega
      have e2 : (T + 1 < N) = True := by simp; omega
      simp only [e1, e2]
    · have hw' : whole (off F T) (N - T) = false := by simpa using hw
      have := hr.head hw'
      subst this
      have e0 : fs (off F T) (N - T) = size (off F T 0) := by unfold fs; rw [if_neg (by omega)]
      have e1 : fs (off F T) (M - T) = size (off F T 0) := by unfold fs; rw [if_neg (by omega)]
      have hk : fk (off F T) (M - T) = fk (off F T) (N - T) := by
        by_cases hs : size (off F T 0) = 0
        · rw [fk_zero _ _ hs, fk_zero _ _ hs]
        · rw [fk_min (off F T) (m := M - T) (n := N - T) (by omega) (by omega)]
          omega
      have g1 : whole (off F T) (M - T) = false := by
        have := hw'
        unfold whole at this ⊢
        rw [e0] at this
        rw [e1, hk]
        exact this
      have g2 : waits (off F T) (M - T) = false := by
        simp only [waits, decide_eq_false_iff_not]
        omega
      unfold Fd.pk
      rw [hw', g1, b, g2, hk, if_neg (show ¬ M ≤ T by omega), if_neg (show ¬ N ≤ T by omega)]
      simp
/-- the width of what is there -/
theorem pk_have {F : Nat → Nat} {N T : Nat} {E : Bool} {r a w : Nat} (h : pk F N T E = (r, a, w, 0)) : a = 0 ∧ 0 < w ∧ Run F N T (T + w) ∧ (w = 1 ∨ w = 2 ∨ w = 3 ∨ w = 4) ∧ (E = false → T + w = N → F (T + w - 1) ≠ 13) ∧ whole (off F T) (N - T) = true := by
  unfold pk at h
  split at h
  · next hw =>
    have hl := whole_lt hw
    have hc := whole_cr hw
    have h4 := fs_le (off F T) (N - T)
    split at h
    · next h13 =>
      have h1 := (hc.1 h13).1
      have r1 : Run F N T (T + 1) := by have := Run.one hw; rw [h1] at this; exact this
      split at h
      · next hlt =>
        split at h
        · next h10 =>
          obtain ⟨rfl, rfl, rfl, _⟩ : 10 = r ∧ 0 = a ∧ 2 = w ∧ True := by simpa using h
          have hw2 : whole (off F (T + 1)) (N - (T + 1)) = true := by
            have e : off F (T + 1) 0 = 10 := h10
            have es : size 10 = 1 := rfl
            have e1 : fs (off F (T + 1)) (N - (T + 1)) = 1 := by unfold fs; rw [if_neg (by omega), e]; rfl
            simp only [whole, decide_eq_true_eq, e1]
            refine ⟨by omega, ?_⟩
            unfold fk
            rw [e]
            exact (len1 es).2 (by omega)
          have e1 : fs (off F (T + 1)) (N - (T + 1)) = 1 := by
            have e : off F (T + 1) 0 = 10 := h10
            unfold fs; rw [if_neg (by omega), e]; rfl
          have r2 := Run.one hw2
          rw [e1] at r2
          exact ⟨rfl, by omega, r1.trans r2, by omega, fun _ _ => by show F (T + 1) ≠ 13; omega, hw⟩
        · obtain ⟨rfl, rfl, rfl, _⟩ : 10 = r ∧ 0 = a ∧ 1 = w ∧ True := by simpa using h
          exact ⟨rfl, by omega, r1, by omega, fun _ e => by omega, hw⟩
      · split at h
        · next hE =>
          obtain ⟨rfl, rfl, rfl, _⟩ : 10 = r ∧ 0 = a ∧ 1 = w ∧ True := by simpa using h
          exact ⟨rfl, by omega, r1, by omega, fun e => (by rw [hE] at e; cases e), hw⟩
        · simp at h
    · next h13 =>
      obtain ⟨rfl, rfl, rfl, _⟩ : fv (off F T) = r ∧ 0 = a ∧ fs (off F T) (N - T) = w ∧ True := by simpa using h
      refine ⟨rfl, hl.1, Run.one hw, by omega, fun _ _ => ?_, hw⟩
      have := hc.2.1 h13
      rw [show T + fs (off F T) (N - T) - 1 = T + (fs (off F T) (N - T) - 1) by omega]
      exact this
  · split at h
    · split at h <;> simp at h
    · split at h
      · split at h <;> simp at h
      · simp at h
/-- a character is taken -/
theorem Inv.take {F : Nat → Nat} {N T d n k wh : Nat} {E bad : Bool} (h : Inv F N T E d n k wh bad) {r a w : Nat} (hp : Fd.pk F N T E = (r, a, w, 0)) : Inv F N (T + w) E d n (k + w) wh bad := by
  obtain ⟨_, h1, h2, _, h4, _⟩ := pk_have hp
  refine ⟨by have := h.at'; omega, ?_, h.run0.trans h2, h.stop, h.plain, h.wrong, fun e q => .inr (h4 e q)⟩
  exact Run.diff h2 h.run h.stop
/-- the end is told -/
theorem Inv.ends {F : Nat → Nat} {N T d n k wh : Nat} {E bad : Bool} (h : Inv F N T E d n k wh bad) : Inv F N T true d n k wh bad :=
  ⟨h.at', h.run, h.run0, h.stop, h.plain, h.wrong, fun e => by cases e⟩
/-- what was taken is given up -/
theorem Inv.drop {F : Nat → Nat} {N T d n k wh : Nat} {E bad : Bool} (h : Inv F N T E d n k wh bad) : Inv F N T E (d + k) (n - k) 0 (wh - k) bad := by
  have hl := h.le
  have e : d + k + (wh - k) = d + wh := by omega
  refine ⟨h.at', by rw [e]; exact h.run, h.run0, by rw [e]; exact h.stop, fun hb => ?_, fun hb => ?_, h.cr⟩
  · rw [e]; have := h.plain hb; exact ⟨by omega, this.2⟩
  · rw [e]; have := h.wrong hb; exact ⟨this.1, this.2.1, by omega⟩
/-- more bytes came, and the characters were counted up to q -/
theorem Inv.more {F G : Nat → Nat} {N N' T d n k wh q : Nat} (h : Inv F N T false d n k wh false) (hF : ∀ j, j < N → F j = G j) (hN : N ≤ N') (hr : Run G N' (d + wh) (d + q)) (hs : whole (off G (d + q)) (N' - (d + q)) = false) {n' : Nat} {bad : Bool}
    (hp : bad = false → d + n' = N' ∧ (d + q = N' ∨ waits (off G (d + q)) (N' - (d + q)) = true))
    (hw : bad = true → d + q < N' ∧ waits (off G (d + q)) (N' - (d + q)) = false ∧ n' = q + fk (off G (d + q)) (N' - (d + q)) + 1) : Inv G N' T false d n' k q bad := by
  have hl := h.le
  refine ⟨h.at', ((h.run.congr hF).up hN).trans hr, (h.run0.congr hF).up hN, hs, hp, hw, fun _ e => ?_⟩
  obtain rfl : N = N' := by omega
  rcases h.cr rfl e with a | a
  · exact .inl a
  · by_cases hT : T = 0
    · exact .inl hT
    · right; rw [← hF _ (by omega)]; exact a
theorem Inv.new (F : Nat → Nat) : Inv F 0 0 false 0 0 0 0 false :=
  ⟨rfl, .refl _, .refl _, by simp [whole, fs], fun _ => ⟨rfl, .inl rfl⟩, fun h => (by cases h), fun _ _ => .inl rfl⟩
/-- a character that is there stays when more bytes come, and so does a wrong byte -/
theorem pk_stays {F : Nat → Nat} {N N' T : Nat} {r a w x : Nat} (h : pk F N T false = (r, a, w, x)) (hx : x ≠ 1) (hN : N ≤ N') (E : Bool) : pk F N' T E = (r, a, w, x) := by
  unfold pk at h
  split at h
  · next hw =>
    obtain ⟨hu, he⟩ := whole_up (n := N' - T) hw (by omega)
    have hl := whole_lt hw
    unfold pk
    rw [hu, he]
    simp only [if_true]
    split at h
    · next h13 =>
      rw [if_pos h13]
      split at h
      · rw [if_pos (show T + 1 < N' by omega)]
        exact h
      · simp at h; omega
    · next h13 =>
      rw [if_neg h13]
      exact h
  · next hw =>
    have hw' : whole (off F T) (N - T) = false := by simpa using hw
    split at h
    · simp at h; omega
    · next hle =>
      split at h
      · simp at h; omega
      · next hwt =>
        have hwt' : waits (off F T) (N - T) = false := by simpa using hwt
        have hf := fk_lt (show 0 < N - T by omega) hw' hwt'
        have e0 : fs (off F T) (N - T) = size (off F T 0) := by unfold fs; rw [if_neg (by omega)]
        have e1 : fs (off F T) (N' - T) = size (off F T 0) := by unfold fs; rw [if_neg (by omega)]
        have hk : fk (off F T) (N' - T) = fk (off F T) (N - T) := by
          by_cases hs : size (off F T 0) = 0
          · rw [fk_zero _ _ hs, fk_zero _ _ hs]
          · have := fk_min (off F T) (m := N - T) (n := N' - T) (by omega) (by omega)
            omega
        have g1 : whole (off F T) (N' - T) = false := by
          have := hw'
          unfold whole at this ⊢
          rw [e0] at this
          rw [e1, hk]
          exact this
        have g2 : waits (off F T) (N' - T) = false := by
          simp only [waits, decide_eq_false_iff_not]
          omega
        unfold pk
        rw [g1, g2, hk, if_neg (show ¬ N' ≤ T by omega)]
        simpa using h
theorem pk_congr {F G : Nat → Nat} {N T : Nat} {E : Bool} (h : ∀ j, j < N → F j = G j) : pk F N T E = pk G N T E := by
  have e : ∀ j, j < N - T → off F T j = off G T j := fun j hj => h _ (by omega)
  unfold pk
  rw [whole_congr e, waits_congr e, fs_congr e, fk_congr e]
  by_cases hw : whole (off G T) (N - T) = true
  · have hw2 : whole (off F T) (N - T) = true := by rw [whole_congr e]; exact hw
    rw [fv_congr hw2 e]
    by_cases hl : T + 1 < N
    · rw [h (T + 1) hl]
    · simp only [if_neg hl]
  · rw [if_neg hw, if_neg hw]
/-- where the rest begins -/
def rst (g : Nat → Nat) (n wh : Nat) : Nat := if wh = n ∧ 0 < wh ∧ g (wh - 1) = 13 then wh - 1 else wh
/-- where Peek waits, the rest is all that lies there -/
theorem Inv.rest {F : Nat → Nat} {N T d n k wh : Nat} {bad : Bool} (h : Inv F N T false d n k wh bad) (hp : Fd.pk F N T false = (0, 0, 0, 1)) : bad = false ∧ d + rst (off F d) n wh = T ∧ d + n = N := by
  have hl := h.le
  cases hb : bad
  · refine ⟨rfl, ?_, (h.plain hb).1⟩
    obtain ⟨hn, hor⟩ := h.plain hb
    have ha := h.at'
    unfold Fd.pk at hp
    split at hp
    · next hw =>
      have hwl := whole_lt hw
      split at hp
      · next h13 =>
        split at hp
        · split at hp <;> simp at hp
        · next hlt =>
          obtain ⟨c1, c2⟩ := (whole_cr hw).1 h13
          have ht := (h.run.tail hw h.stop).le
          unfold rst
          rw [if_pos ⟨by omega, by omega, by
            show F (d + (wh - 1)) = 13
            rw [show d + (wh - 1) = T + 0 by omega]
            exact c2⟩]
          omega
      · simp at hp
    · next hw =>
      have hw' : whole (off F T) (N - T) = false := by simpa using hw
      have hT := h.run.head hw'
      have e1 : rst (off F d) n wh = wh := by
        unfold rst
        apply if_neg
        rintro ⟨c1, c2, c3⟩
        rcases h.cr rfl (by omega) with e | e
        · omega
        · apply e
          have : F (d + (wh - 1)) = 13 := c3
          rw [show T - 1 = d + (wh - 1) by omega]
          exact this
      omega
  · exfalso
    obtain ⟨a, b, c⟩ := h.wrong hb
    have hf := fk_lt (show 0 < N - (d + wh) by omega) h.stop b
    unfold Fd.pk at hp
    split at hp
    · next hw =>
      have ht := (h.run.tail hw h.stop).le
      have hwl := whole_lt hw
      split at hp
      · split at hp
        · split at hp <;> simp at hp
        · omega
      · simp at hp
    · next hw =>
      have hw' : whole (off F T) (N - T) = false := by simpa using hw
      have hT := h.run.head hw'
      rw [hT] at hp
      rw [if_neg (by omega), b] at hp
      simp at hp
end Fd
end Go.Proofs.YtcnagbkdckipnaaGreatDoor
/-
  Plain mathematics: the classes' ranges of characters; what Is, Next and Count say by a list of ranges.
-/
namespace Go.Proofs.YtcnagbkdckipnaaGreatDoor.Ch

/-- a range of a class: the class, its least and its greatest character -/
abbrev Sp := Nat × Nat × Nat
/-- the program's table -/
def tab : List Sp := [(0, 9, 10), (0, 13, 13), (0, 32, 55295), (0, 57344, 65533), (0, 65536, 1114111),
  (1, 9, 10), (1, 13, 13), (1, 32, 32),
  (2, 65, 90), (2, 95, 95), (2, 97, 122), (2, 192, 214), (2, 216, 246), (2, 248, 767), (2, 880, 893), (2, 895, 8191), (2, 8204, 8205), (2, 8304, 8591), (2, 11264, 12271), (2, 12289, 55295), (2, 63744, 64975), (2, 65008, 65533), (2, 65536, 983039),
  (3, 45, 46), (3, 48, 57), (3, 65, 90), (3, 95, 95), (3, 97, 122), (3, 183, 183), (3, 192, 214), (3, 216, 246), (3, 248, 893), (3, 895, 8191), (3, 8204, 8205), (3, 8255, 8256), (3, 8304, 8591), (3, 11264, 12271), (3, 12289, 55295), (3, 63744, 64975), (3, 65008, 65533), (3, 65536, 983039),
  (4, 48, 57), (5, 48, 57), (5, 65, 70), (5, 97, 102)]
theorem tab_length : tab.length = 45 := by decide
theorem tab_small : ∀ s ∈ tab, s.1 ≤ 5 ∧ s.2.1 ≤ s.2.2 ∧ s.2.2 ≤ 1114111 := by decide

/-- what the three calls say of a list of ranges of many classes -/
def isT : List Sp → Int → Int → Bool
  | [], _, _ => false
  | s :: t, c, r => if (s.1 : Int) = c ∧ (s.2.1 : Int) ≤ r ∧ r ≤ (s.2.2 : Int) then true else isT t c r
def nextT : List Sp → Int → Int → Int × Bool
  | [], _, _ => (0, false)
  | s :: t, c, r => if (s.1 : Int) = c ∧ r < (s.2.2 : Int) then (max (s.2.1 : Int) (r + 1), true) else nextT t c r
def countT : List Sp → Int → Int → Int
  | [], _, _ => 0
  | s :: t, c, r => (if (s.1 : Int) = c ∧ (s.2.1 : Int) ≤ r then min (s.2.2 : Int) r - s.2.1 + 1 else 0) + countT t c r

theorem isT_cons (s : Sp) (t : List Sp) (c r : Int) : isT (s :: t) c r = if (s.1 : Int) = c ∧ (s.2.1 : Int) ≤ r ∧ r ≤ (s.2.2 : Int) then true else isT t c r := rfl
theorem nextT_cons (s : Sp) (t : List Sp) (c r : Int) : nextT (s :: t) c r = if (s.1 : Int) = c ∧ r < (s.2.2 : Int) then (max (s.2.1 : Int) (r + 1), true) else nextT t c r := rfl
theorem countT_cons (s : Sp) (t : List Sp) (c r : Int) : countT (s :: t) c r = (if (s.1 : Int) = c ∧ (s.2.1 : Int) ≤ r then min (s.2.2 : Int) r - s.2.1 + 1 else 0) + countT t c r := rfl

/-- .. and of one class's ranges -/
def isR : List (Nat × Nat) → Int → Bool
  | [], _ => false
  | p :: t, r => if (p.1 : Int) ≤ r ∧ r ≤ (p.2 : Int) then true else isR t r
def nextR : List (Nat × Nat) → Int → Int × Bool
  | [], _ => (0, false)
  | p :: t, r => if r < (p.2 : Int) then (max (p.1 : Int) (r + 1), true) else nextR t r
def countR : List (Nat × Nat) → Int → Int
  | [], _ => 0
  | p :: t, r => (if (p.1 : Int) ≤ r then min (p.2 : Int) r - p.1 + 1 else 0) + countR t r

/-- the ranges of a class -/
def pick (l : List Sp) (c : Int) : List (Nat × Nat) := (l.filter fun s => decide ((s.1 : Int) = c)).map (·.2)
theorem pick_cons (s : Sp) (l : List Sp) (c : Int) : pick (s :: l) c = if (s.1 : Int) = c then s.2 :: pick l c else pick l c := by
  unfold pick
  by_cases h : (s.1 : Int) = c
  · simp [h]
  · simp [h]
theorem isT_eq : ∀ (l : List Sp) (c r : Int), isT l c r = isR (pick l c) r
  | [], _, _ => rfl
  | s :: l, c, r => by
    rw [pick_cons]
    unfold isT
    by_cases h : (s.1 : Int) = c
    · simp only [h, true_and, if_true]; unfold isR; rw [isT_eq l c r]
    · simp only [h, false_and, if_false]; exact isT_eq l c r
theorem nextT_eq : ∀ (l : List Sp) (c r : Int), nextT l c r = nextR (pick l c) r
  | [], _, _ => rfl
  | s :: l, c, r => by
    rw [pick_cons]
    unfold nextT
    by_cases h : (s.1 : Int) = c
    · simp only [h, true_and, if_true]; unfold nextR; rw [nextT_eq l c r]
    · simp only [h, false_and, if_false]; exact nextT_eq l c r
theorem countT_eq : ∀ (l : List Sp) (c r : Int), countT l c r = countR (pick l c) r
  | [], _, _ => rfl
  | s :: l, c, r => by
    rw [pick_cons]
    unfold countT
    by_cases h : (s.1 : Int) = c
    · simp only [h, true_and, if_true]; unfold countR; rw [countT_eq l c r]
    · simp only [h, false_and, if_false]; rw [countT_eq l c r]; omega

/-- a class's ranges -/
def rg (c : Int) : List (Nat × Nat) := pick tab c
theorem rg_none (c : Int) (h : c < 0 ∨ 5 < c) : rg c = [] := by
  unfold rg pick
  rw [List.map_eq_nil_iff, List.filter_eq_nil_iff]
  intro s hs
  have := (tab_small s hs).1
  simp
  omega
def rg0 : List (Nat × Nat) := [(9, 10), (13, 13), (32, 55295), (57344, 65533), (65536, 1114111)]
def rg1 : List (Nat × Nat) := [(9, 10), (13, 13), (32, 32)]
def rg2 : List (Nat × Nat) := [(65, 90), (95, 95), (97, 122), (192, 214), (216, 246), (248, 767), (880, 893), (895, 8191), (8204, 8205), (8304, 8591), (11264, 12271), (12289, 55295), (63744, 64975), (65008, 65533), (65536, 983039)]
def rg3 : List (Nat × Nat) := [(45, 46), (48, 57), (65, 90), (95, 95), (97, 122), (183, 183), (192, 214), (216, 246), (248, 893), (895, 8191), (8204, 8205), (8255, 8256), (8304, 8591), (11264, 12271), (12289, 55295), (63744, 64975), (65008, 65533), (65536, 983039)]
def rg4 : List (Nat × Nat) := [(48, 57)]
def rg5 : List (Nat × Nat) := [(48, 57), (65, 70), (97, 102)]
theorem rg_0 : rg 0 = rg0 := by decide +kernel
theorem rg_1 : rg 1 = rg1 := by decide +kernel
theorem rg_2 : rg 2 = rg2 := by decide +kernel
theorem rg_3 : rg 3 = rg3 := by decide +kernel
theorem rg_4 : rg 4 = rg4 := by decide +kernel
theorem rg_5 : rg 5 = rg5 := by decide +kernel
theorem rg_cases (c : Int) : (c = 0 ∧ rg c = rg0) ∨ (c = 1 ∧ rg c = rg1) ∨ (c = 2 ∧ rg c = rg2) ∨ (c = 3 ∧ rg c = rg3) ∨ (c = 4 ∧ rg c = rg4) ∨ (c = 5 ∧ rg c = rg5) ∨ ((c < 0 ∨ 5 < c) ∧ rg c = []) := by
  by_cases h : c < 0 ∨ 5 < c
  · exact .inr (.inr (.inr (.inr (.inr (.inr ⟨h, rg_none c h⟩)))))
  · have h6 : c = 0 ∨ c = 1 ∨ c = 2 ∨ c = 3 ∨ c = 4 ∨ c = 5 := by omega
    rcases h6 with rfl | rfl | rfl | rfl | rfl | rfl
    · exact .inl ⟨rfl, rg_0⟩
    · exact .inr (.inl ⟨rfl, rg_1⟩)
    · exact .inr (.inr (.inl ⟨rfl, rg_2⟩))
    · exact .inr (.inr (.inr (.inl ⟨rfl, rg_3⟩)))
    · exact .inr (.inr (.inr (.inr (.inl ⟨rfl, rg_4⟩))))
    · exact .inr (.inr (.inr (.inr (.inr (.inl ⟨rfl, rg_5⟩)))))

/-- the ranges rise, from b on -/
def rise : Nat → List (Nat × Nat) → Bool
  | _, [] => true
  | b, p :: t => decide (b ≤ p.1 ∧ p.1 ≤ p.2 ∧ p.2 ≤ 1114111) && rise (p.2 + 1) t
theorem rg_rise (c : Int) : rise 0 (rg c) = true := by
  rcases rg_cases c with ⟨_, h⟩ | ⟨_, h⟩ | ⟨_, h⟩ | ⟨_, h⟩ | ⟨_, h⟩ | ⟨_, h⟩ | ⟨_, h⟩ <;> rw [h] <;> decide +kernel
theorem rise_cons {b : Nat} {p : Nat × Nat} {t : List (Nat × Nat)} (h : rise b (p :: t) = true) : b ≤ p.1 ∧ p.1 ≤ p.2 ∧ p.2 ≤ 1114111 ∧ rise (p.2 + 1) t = true := by
  simp only [rise, Bool.and_eq_true, decide_eq_true_eq] at h
  exact ⟨h.1.1, h.1.2.1, h.1.2.2, h.2⟩

/-- below the first range nothing is -/
theorem isR_low {b : Nat} {l : List (Nat × Nat)} (h : rise b l = true) {r : Int} (hr : r < b) : isR l r = false := by
  induction l generalizing b with
  | nil => rfl
  | cons p t ih =>
    obtain ⟨h1, h2, h3, h4⟩ := rise_cons h
    unfold isR
    rw [if_neg (by omega)]
    exact ih h4 (by omega)
theorem countR_low {b : Nat} {l : List (Nat × Nat)} (h : rise b l = true) {r : Int} (hr : r < b) : countR l r = 0 := by
  induction l generalizing b with
  | nil => rfl
  | cons p t ih =>
    obtain ⟨h1, h2, h3, h4⟩ := rise_cons h
    unfold countR
    rw [if_neg (by omega), ih h4 (by omega)]
    rfl
/-- Count grows just where Is holds -/
theorem countR_step {b : Nat} {l : List (Nat × Nat)} (h : rise b l = true) (r : Int) : countR l r - countR l (r - 1) = if isR l r then 1 else 0 := by
  induction l generalizing b with
  | nil => rfl
  | cons p t ih =>
    obtain ⟨h1, h2, h3, h4⟩ := rise_cons h
    have e := ih h4
    unfold countR isR
    by_cases c1 : (p.1 : Int) ≤ r
    · by_cases c2 : r ≤ (p.2 : Int)
      · rw [countR_low h4 (by omega), countR_low h4 (by omega), if_pos c1, if_pos (⟨c1, c2⟩ : _ ∧ _)]
        by_cases c3 : (p.1 : Int) ≤ r - 1
        · rw [if_pos c3]; simp only [if_true]; omega
        · rw [if_neg c3]; simp only [if_true]; omega
      · rw [if_pos c1, if_pos (show (p.1 : Int) ≤ r - 1 by omega), if_neg (show ¬ ((p.1 : Int) ≤ r ∧ r ≤ (p.2 : Int)) by omega), ← e]
        omega
    · rw [if_neg c1, if_neg (show ¬ (p.1 : Int) ≤ r - 1 by omega), if_neg (show ¬ ((p.1 : Int) ≤ r ∧ r ≤ (p.2 : Int)) by omega), ← e]
      omega
/-- Next: the least one above -/
theorem nextR_none {b : Nat} {l : List (Nat × Nat)} (h : rise b l = true) {r : Int} (hn : (nextR l r).2 = false) : (nextR l r).1 = 0 ∧ ∀ r', r ≤ r' → countR l r' = countR l r := by
  induction l generalizing b with
  | nil => exact ⟨rfl, fun _ _ => rfl⟩
  | cons p t ih =>
    obtain ⟨h1, h2, h3, h4⟩ := rise_cons h
    unfold nextR at hn ⊢
    by_cases c : r < (p.2 : Int)
    · rw [if_pos c] at hn
      simp at hn
    · rw [if_neg c] at hn ⊢
      obtain ⟨e1, e2⟩ := ih h4 hn
      refine ⟨e1, fun r' hr => ?_⟩
      unfold countR
      rw [e2 r' hr, if_pos (by omega), if_pos (by omega)]
      omega
theorem nextR_some {b : Nat} {l : List (Nat × Nat)} (h : rise b l = true) {r : Int} (hn : (nextR l r).2 = true) :
    r < (nextR l r).1 ∧ (b : Int) ≤ (nextR l r).1 ∧ (nextR l r).1 ≤ 1114111 ∧ isR l (nextR l r).1 = true ∧ countR l (nextR l r).1 = countR l r + 1 ∧ countR l ((nextR l r).1 - 1) = countR l r := by
  induction l generalizing b with
  | nil => simp [nextR] at hn
  | cons p t ih =>
    obtain ⟨h1, h2, h3, h4⟩ := rise_cons h
    unfold nextR at hn ⊢
    by_cases c : r < (p.2 : Int)
    · rw [if_pos c]
      simp only
      have g1 : countR t r = 0 := countR_low h4 (by omega)
      have g2 : countR t (max (p.1 : Int) (r + 1)) = 0 := countR_low h4 (by omega)
      have g3 : countR t (max (p.1 : Int) (r + 1) - 1) = 0 := countR_low h4 (by omega)
      refine ⟨by omega, by omega, by omega, ?_, ?_, ?_⟩
      · unfold isR
        rw [if_pos (by omega)]
      · unfold countR
        rw [g1, g2, if_pos (by omega)]
        split <;> omega
      · unfold countR
        rw [g1, g3]
        split <;> split <;> omega
    · rw [if_neg c] at hn ⊢
      obtain ⟨e1, e2, e3, e4, e5, e6⟩ := ih h4 hn
      refine ⟨e1, by omega, e3, ?_, ?_, ?_⟩
      · unfold isR
        rw [e4]
        simp
      · unfold countR
        rw [e5, if_pos (by omega), if_pos (by omega)]
        omega
      · unfold countR
        rw [e6, if_pos (by omega), if_pos (by omega)]
        omega
theorem countR_bound {b : Nat} {l : List (Nat × Nat)} (h : rise b l = true) (r : Int) : 0 ≤ countR l r ∧ (countR l r + b ≤ 1114112 ∨ countR l r = 0) := by
  induction l generalizing b with
  | nil => exact ⟨Int.le_refl _, .inr rfl⟩
  | cons p t ih =>
    obtain ⟨h1, h2, h3, h4⟩ := rise_cons h
    have e := ih h4
    unfold countR
    split <;> omega
end Go.Proofs.YtcnagbkdckipnaaGreatDoor.Ch
/-
  Plain mathematics of a query's words: how many bytes of a class stand ahead, numbers, texts in quotes, signs; the words one behind the other.
-/
namespace Go.Proofs.YtcnagbkdckipnaaGreatDoor
open Go.Lib
namespace Lx
open Rn
open _root_.Go.Proofs.YtcnagbkdckipnaaGreatDoor.Fd

/-- are the bytes from p on characters all through? -/
def vdF (f : Nat → Nat) (n : Nat) : Nat → Nat → Bool
  | 0, _ => true
  | k + 1, p => if p < n then (whole (off f p) (n - p) && vdF f n k (p + fs (off f p) (n - p))) else true
def vd (f : Nat → Nat) (n : Nat) : Bool := vdF f n n 0
theorem vdF_end (f : Nat → Nat) (n k p : Nat) (h : ¬ p < n) : vdF f n k p = true := by
  cases k with
  | zero => rfl
  | succ m => unfold vdF; rw [if_neg h]
theorem vdF_step (f : Nat → Nat) (n k p : Nat) (h : p < n) : vdF f n (k + 1) p = (whole (off f p) (n - p) && vdF f n k (p + fs (off f p) (n - p))) := by
  show (if p < n then _ else _) = _
  rw [if_pos h]
theorem vdF_fuel (f : Nat → Nat) (n : Nat) : ∀ (x y p : Nat), n ≤ p + x → n ≤ p + y → vdF f n x p = vdF f n y p
  | 0, y, p, hx, _ => by rw [vdF_end _ _ _ _ (by omega), vdF_end _ _ _ _ (by omega)]
  | x + 1, 0, p, _, hy => by rw [vdF_end _ _ _ _ (by omega), vdF_end _ _ _ _ (by omega)]
  | x + 1, y + 1, p, hx, hy => by
    by_cases h : p < n
    · rw [vdF_step _ _ _ _ h, vdF_step _ _ _ _ h]
      cases hw : whole (off f p) (n - p)
      · rfl
      · have := whole_lt hw
        rw [Bool.true_and, Bool.true_and, vdF_fuel f n x y _ (by omega) (by omega)]
    · rw [vdF_end _ _ _ _ h, vdF_end _ _ _ _ h]
theorem vdF_run (f : Nat → Nat) (n : Nat) : ∀ (k p : Nat), p ≤ n → n ≤ p + k → (vdF f n k p = true ↔ Run f n p n)
  | 0, p, h1, h2 => by
    obtain rfl : p = n := by omega
    exact ⟨fun _ => .refl _, fun _ => rfl⟩
  | k + 1, p, h1, h2 => by
    by_cases h : p < n
    · rw [vdF_step _ _ _ _ h]
      constructor
      · intro g
        simp only [Bool.and_eq_true] at g
        have := whole_lt g.1
        exact .step g.1 ((vdF_run f n k _ (by omega) (by omega)).1 g.2)
      · intro g
        cases g with
        | refl => omega
        | step hw r =>
          have := whole_lt hw
          rw [hw, Bool.true_and]
          exact (vdF_run f n k _ (by omega) (by omega)).2 r
    · obtain rfl : p = n := by omega
      rw [vdF_end _ _ _ _ h]
      exact ⟨fun _ => .refl _, fun _ => rfl⟩
theorem vd_run (f : Nat → Nat) (n : Nat) : vd f n = true ↔ Run f n 0 n := vdF_run f n n 0 (by omega) (by omega)
theorem whole_none (f : Nat → Nat) : whole f 0 = false := by simp [whole, fs]
/-- behind a place of whole characters the rest is whole characters -/
theorem run_rest {f : Nat → Nat} {n p : Nat} (h : Run f n 0 n) (k : Run f n 0 p) : Run f n p n := k.diff h (by rw [Nat.sub_self]; exact whole_none _)
theorem run_whole {f : Nat → Nat} {n p : Nat} (h : Run f n p n) (hp : p < n) : whole (off f p) (n - p) = true := by
  cases h with
  | refl => omega
  | step hw _ => exact hw
theorem run_step {f : Nat → Nat} {n p : Nat} (h : Run f n p n) (hp : p < n) : Run f n (p + fs (off f p) (n - p)) n := by
  cases h with
  | refl => omega
  | step _ r => exact r
/-- the bytes of a character behind its first one -/
theorem whole_inner {f : Nat → Nat} {n j : Nat} (h : whole f n = true) (h0 : 0 < j) (hj : j < fs f n) : 128 ≤ f j ∧ f j < 192 := by
  obtain ⟨a1, a2, a3, a4⟩ := whole_lt h
  simp only [whole, decide_eq_true_eq] at h
  have hk : fk f n = size (f 0) := by rw [h.2, a3]
  rw [a3] at hj
  unfold fk at hk
  have hlo : 128 ≤ lo (f 0) := by unfold lo; repeat' split
                                  all_goals omega
  have hhi : hi (f 0) ≤ 191 := by unfold hi; repeat' split
                                  all_goals omega
  rcases size_cases (f 0) with ⟨e, _⟩ | ⟨e, _⟩ | ⟨e, _⟩ | ⟨e, _⟩ | ⟨e, _⟩
  · omega
  · rw [e] at hk hj
    obtain ⟨_, g1, g2⟩ := (len2 e).1 hk
    obtain rfl : j = 1 := by omega
    omega
  · rw [e] at hk hj
    obtain ⟨_, g1, g2, g3, g4⟩ := (len3 e).1 hk
    rcases (show j = 1 ∨ j = 2 by omega) with rfl | rfl <;> omega
  · rw [e] at hk hj
    obtain ⟨_, g1, g2, g3, g4, g5, g6⟩ := (len4 e).1 hk
    rcases (show j = 1 ∨ j = 2 ∨ j = 3 by omega) with rfl | rfl | rfl <;> omega
  · omega
/-- a byte below 128 begins a character -/
theorem run_low {f : Nat → Nat} {n j : Nat} (hl : f j < 128) (hj : j < n) : ∀ {p q : Nat}, Run f n p q → p ≤ j → j ≤ q → Run f n p j := by
  intro p q h
  induction h with
  | refl p => intro h1 h2; obtain rfl : p = j := by omega
              exact .refl _
  | @step p q hw r ih =>
    intro h1 h2
    by_cases c : p + fs (off f p) (n - p) ≤ j
    · exact .step hw (ih c h2)
    · by_cases c2 : j = p
      · subst c2; exact .refl _
      · have := whole_inner (j := j - p) hw (by omega) (by omega)
        simp only [off] at this
        rw [show p + (j - p) = j by omega] at this
        omega
theorem run_one {f : Nat → Nat} {n p : Nat} (hl : f p < 128) (hp : p < n) : Run f n p (p + 1) := by
  have e : size (f p) = 1 := by unfold size; rw [if_pos hl]
  have h1 : fs (off f p) (n - p) = 1 := by
    unfold fs off
    rw [if_neg (by omega), Nat.add_zero, e]
  have hw : whole (off f p) (n - p) = true := by
    simp only [whole, decide_eq_true_eq, h1]
    refine ⟨by omega, ?_⟩
    exact (len1 (by simpa [off] using e)).2 (by omega)
  have := Run.one hw
  rwa [h1] at this

/-- what Go's range gives at a byte below 128, and at another -/
theorem dec_low {f : Nat → Nat} {n : Nat} (h : f 0 < 128) : dec f n = (f 0, 1) := by
  unfold dec decodeN
  rw [if_pos h]
theorem dec_high {f : Nat → Nat} {n : Nat} (hf : ∀ j, f j < 256) (hn : 0 < n) (h : 128 ≤ f 0) : 128 ≤ (dec f n).1 := by
  rw [dec_whole f n hf hn]
  split
  · next hw =>
    show 128 ≤ fv f
    by_cases c : fv f < 128
    · have := ((whole_cr hw).2.2.1 c).2
      omega
    · omega
  · show 128 ≤ 65533; omega
theorem dec_some (f : Nat → Nat) (n : Nat) (hf : ∀ j, f j < 256) (hn : 0 < n) : 0 < (dec f n).2 ∧ (dec f n).2 ≤ n := by
  rw [dec_whole f n hf hn]
  have a1 := fk_le f n
  split
  · next h =>
    simp only [whole, decide_eq_true_eq] at h
    exact ⟨h.1, by show fs f n ≤ n; omega⟩
  · exact ⟨by simp, by show 1 ≤ n; omega⟩

/-- how many bytes the characters of the class have with which the bytes begin -/
def leadF (f : Nat → Nat) (n : Nat) (c : Int) : Nat → Nat → Nat
  | 0, _ => n
  | k + 1, p => if p < n then (if Ch.isT Ch.tab c (dec (off f p) (n - p)).1 = true then leadF f n c k (p + (dec (off f p) (n - p)).2) else p) else n
def lead (f : Nat → Nat) (n : Nat) (c : Int) : Nat := leadF f n c n 0
theorem leadF_end (f : Nat → Nat) (n : Nat) (c : Int) (k p : Nat) (h : ¬ p < n) : leadF f n c k p = n := by
  cases k with
  | zero => rfl
  | succ m => unfold leadF; rw [if_neg h]
theorem leadF_step (f : Nat → Nat) (n : Nat) (c : Int) (k p : Nat) (h : p < n) : leadF f n c (k + 1) p = if Ch.isT Ch.tab c (dec (off f p) (n - p)).1 = true then leadF f n c k (p + (dec (off f p) (n - p)).2) else p := by
  show (if p < n then _ else _) = _
  rw [if_pos h]
theorem leadF_le {f : Nat → Nat} {n : Nat} {c : Int} (hf : ∀ j, f j < 256) : ∀ (k p : Nat), p ≤ n → p ≤ leadF f n c k p ∧ leadF f n c k p ≤ n
  | 0, p, h => ⟨h, Nat.le_refl _⟩
  | k + 1, p, h => by
    by_cases c1 : p < n
    · rw [leadF_step _ _ _ _ _ c1]
      have q := dec_some (off f p) (n - p) (fun _ => hf _) (by omega)
      split
      · have := leadF_le (n := n) (c := c) hf k (p + (dec (off f p) (n - p)).2) (by omega)
        exact ⟨by omega, this.2⟩
      · exact ⟨Nat.le_refl _, h⟩
    · rw [leadF_end _ _ _ _ _ c1]; exact ⟨h, Nat.le_refl _⟩
theorem lead_le {f : Nat → Nat} {n : Nat} {c : Int} (hf : ∀ j, f j < 256) : lead f n c ≤ n := (leadF_le hf n 0 (by omega)).2
theorem lead_pos {f : Nat → Nat} {n : Nat} {c : Int} (hf : ∀ j, f j < 256) (hn : 0 < n) : 0 < lead f n c ↔ Ch.isT Ch.tab c (dec f n).1 = true := by
  unfold lead
  obtain ⟨m, rfl⟩ : ∃ m, n = m + 1 := ⟨n - 1, by omega⟩
  rw [leadF_step _ _ _ _ _ hn, off_zero, Nat.sub_zero]
  have q := dec_some f (m + 1) hf hn
  split
  · next h =>
    have := leadF_le (n := m + 1) (c := c) hf m (0 + (dec f (m + 1)).2) (by omega)
    exact ⟨fun _ => h, fun _ => by omega⟩
  · next h => exact ⟨fun g => by omega, fun g => absurd g h⟩
/-- the class goes on no further -/
theorem leadF_stop {f : Nat → Nat} {n : Nat} {c : Int} (hf : ∀ j, f j < 256) : ∀ (k p : Nat), p ≤ n → n ≤ p + k → leadF f n c k p < n → Ch.isT Ch.tab c (dec (off f (leadF f n c k p)) (n - leadF f n c k p)).1 = false
  | 0, p, h, h2, h3 => by unfold leadF at h3; omega
  | k + 1, p, h, h2, h3 => by
    by_cases c1 : p < n
    · rw [leadF_step _ _ _ _ _ c1] at h3 ⊢
      have q := dec_some (off f p) (n - p) (fun _ => hf _) (by omega)
      split
      · next g => rw [if_pos g] at h3; exact leadF_stop hf k _ (by omega) (by omega) h3
      · next g => exact Bool.eq_false_iff.2 g
    · rw [leadF_end _ _ _ _ _ c1] at h3; omega
/-- of whole characters -/
theorem leadF_run {f : Nat → Nat} {n : Nat} {c : Int} (hf : ∀ j, f j < 256) : ∀ (k p : Nat), Run f n p n → n ≤ p + k → p ≤ n → Run f n p (leadF f n c k p)
  | 0, p, h, h2, h3 => by
    obtain rfl : p = n := by omega
    exact .refl _
  | k + 1, p, h, h2, h3 => by
    by_cases c1 : p < n
    · rw [leadF_step _ _ _ _ _ c1]
      have hw := run_whole h c1
      have hl := whole_lt hw
      rw [dec_whole (off f p) (n - p) (fun _ => hf _) (by omega), if_pos hw]
      split
      · exact .step hw (leadF_run hf k _ (run_step h c1) (by show n ≤ p + fs (off f p) (n - p) + k; omega) (by show p + fs (off f p) (n - p) ≤ n; omega))
      · exact .refl _
    · obtain rfl : p = n := by omega
      rw [leadF_end _ _ _ _ _ c1]; exact .refl _
theorem lead_run {f : Nat → Nat} {n : Nat} {c : Int} (hf : ∀ j, f j < 256) (h : Run f n 0 n) : Run f n 0 (lead f n c) := leadF_run hf n 0 h (by omega) (by omega)
/-- of a class below 128 each byte is one of it -/
theorem leadF_low {f : Nat → Nat} {n : Nat} {c : Int} (hf : ∀ j, f j < 256) (hc : ∀ r : Int, Ch.isT Ch.tab c r = true → r < 128) : ∀ (k p : Nat), n ≤ p + k → ∀ j, p ≤ j → j < leadF f n c k p → Ch.isT Ch.tab c (f j) = true
  | 0, p, h2, j, hj, hlt => by unfold leadF at hlt; omega
  | k + 1, p, h2, j, hj, hlt => by
    by_cases c1 : p < n
    · rw [leadF_step _ _ _ _ _ c1] at hlt
      split at hlt
      · next g =>
        by_cases lw : f p < 128
        · have e : dec (off f p) (n - p) = (f p, 1) := dec_low (f := off f p) (by simpa [off] using lw)
          rw [e] at g hlt
          by_cases ej : j = p
          · subst ej; exact g
          · exact leadF_low hf hc k (p + 1) (by omega) j (by omega) hlt
        · have := dec_high (f := off f p) (n := n - p) (fun _ => hf _) (by omega) (by simp [off]; omega)
          have := hc _ g
          omega
      · omega
    · rw [leadF_end _ _ _ _ _ c1] at hlt; omega
theorem c1_low (r : Int) (h : Ch.isT Ch.tab 1 r = true) : r < 128 := by
  rw [Ch.isT_eq] at h
  rw [show Ch.pick Ch.tab 1 = [(9, 10), (13, 13), (32, 32)] by decide] at h
  simp only [Ch.isR] at h
  repeat' split at h
  all_goals simp at h
  all_goals omega
theorem c1_is (r : Int) : Ch.isT Ch.tab 1 r = true ↔ r = 9 ∨ r = 10 ∨ r = 13 ∨ r = 32 := by
  rw [Ch.isT_eq]
  rw [show Ch.pick Ch.tab 1 = [(9, 10), (13, 13), (32, 32)] by decide]
  simp only [Ch.isR]
  repeat' split
  all_goals simp
  all_goals omega
theorem c4_is (r : Int) : Ch.isT Ch.tab 4 r = true ↔ 48 ≤ r ∧ r ≤ 57 := by
  rw [Ch.isT_eq]
  rw [show Ch.pick Ch.tab 4 = [(48, 57)] by decide]
  simp only [Ch.isR]
  split
  all_goals simp
  all_goals omega
theorem c4_low (r : Int) (h : Ch.isT Ch.tab 4 r = true) : r < 128 := by
  have := (c4_is r).1 h
  omega
theorem lead_blank {f : Nat → Nat} {n j : Nat} (hf : ∀ j, f j < 256) (h : j < lead f n 1) : f j = 9 ∨ f j = 10 ∨ f j = 13 ∨ f j = 32 := by
  have := (c1_is _).1 (leadF_low hf c1_low n 0 (by omega) j (by omega) h)
  omega
theorem lead_digit {f : Nat → Nat} {n j : Nat} (hf : ∀ j, f j < 256) (h : j < lead f n 4) : 48 ≤ f j ∧ f j ≤ 57 := by
  have := (c4_is _).1 (leadF_low hf c4_low n 0 (by omega) j (by omega) h)
  omega
theorem lead_digit_end {f : Nat → Nat} {n : Nat} (hf : ∀ j, f j < 256) (h : lead f n 4 < n) : ¬ (48 ≤ f (lead f n 4) ∧ f (lead f n 4) ≤ 57) := by
  intro g
  have := leadF_stop (c := 4) hf n 0 (by omega) (by omega) h
  have e : dec (off f (leadF f n 4 n 0)) (n - leadF f n 4 n 0) = (f (lead f n 4), 1) := dec_low (f := off f (lead f n 4)) (by show f (lead f n 4 + 0) < 128; rw [Nat.add_zero]; omega)
  rw [e] at this
  have k := (c4_is (f (lead f n 4))).2 (by omega)
  rw [k] at this
  cases this

/-- the number of digits, given up where it is too great -/
def numF (f : Nat → Nat) : Nat → Nat → Nat → Nat
  | 0, _, a => a
  | k + 1, p, a => if 1000000 < a * 10 + (f p - 48) then a * 10 + (f p - 48) else numF f k (p + 1) (a * 10 + (f p - 48))
def num (f : Nat → Nat) (w : Nat) : Nat := numF f w 0 0

/-- the first of m bytes that is c; m: none is -/
def idxF (g : Nat → Nat) (m c : Nat) : Nat → Nat → Nat
  | 0, _ => m
  | k + 1, p => if p < m then (if g p = c then p else idxF g m c k (p + 1)) else m
def idx (g : Nat → Nat) (m c : Nat) : Nat := idxF g m c m 0
theorem idxF_spec (g : Nat → Nat) (m c : Nat) : ∀ (k p : Nat), m ≤ p + k → p ≤ m → p ≤ idxF g m c k p ∧ idxF g m c k p ≤ m ∧ (∀ j, p ≤ j → j < idxF g m c k p → g j ≠ c) ∧ (idxF g m c k p < m → g (idxF g m c k p) = c)
  | 0, p, h, h2 => ⟨by unfold idxF; omega, by unfold idxF; omega, by unfold idxF; intro j _ _; omega, by unfold idxF; intro _; omega⟩
  | k + 1, p, h, h2 => by
    unfold idxF
    by_cases c1 : p < m
    · rw [if_pos c1]
      by_cases c2 : g p = c
      · rw [if_pos c2]
        exact ⟨Nat.le_refl _, h2, fun j _ _ => by omega, fun _ => c2⟩
      · rw [if_neg c2]
        obtain ⟨a1, a2, a3, a4⟩ := idxF_spec g m c k (p + 1) (by omega) (by omega)
        refine ⟨by omega, a2, fun j h1 h3 => ?_, a4⟩
        by_cases e : j = p
        · subst e; exact c2
        · exact a3 j (by omega) h3
    · rw [if_neg c1]
      exact ⟨h2, Nat.le_refl _, fun j _ _ => by omega, fun _ => by omega⟩
theorem idx_spec (g : Nat → Nat) (m c : Nat) : idx g m c ≤ m ∧ (∀ j, j < idx g m c → g j ≠ c) ∧ (idx g m c < m → g (idx g m c) = c) := by
  obtain ⟨_, a2, a3, a4⟩ := idxF_spec g m c m 0 (by omega) (by omega)
  exact ⟨a2, fun j h => a3 j (by omega) h, a4⟩
theorem idx_of {g : Nat → Nat} {m c k : Nat} (h1 : ∀ j, j < k → g j ≠ c) (h2 : k ≤ m) (h3 : k < m → g k = c) : idx g m c = k := by
  obtain ⟨a2, a3, a4⟩ := idx_spec g m c
  rcases Nat.lt_trichotomy (idx g m c) k with q | q | q
  · exact absurd (a4 (by omega)) (h1 _ q)
  · exact q
  · exact absurd (h3 (by omega)) (a3 _ q)

/-- the signs, as the program has them -/
def sgs : List (List Nat) := [[47, 47], [47], [91], [93], [40], [41], [58, 58], [64], [46], [42], [44], [61], [33, 61], [60], [62]]
/-- do the bytes begin with these? -/
def pre (f : Nat → Nat) (n : Nat) : List Nat → Bool
  | [] => true
  | c :: l => decide (0 < n ∧ f 0 = c) && pre (off f 1) (n - 1) l
/-- a string of such bytes -/
def bt (l : List Nat) : ByteArray := ⟨(l.map Nat.toUInt8).toArray⟩

/-- a word, how many bytes it has, and is it one -/
structure Wd where
  k : Nat
  tx : ByteArray
  nm : Nat
  wd : Nat
  ok : Bool
def rdNum (f : Nat → Nat) (n : Nat) : Wd :=
  if 1000000 < num f (lead f n 4) then ⟨0, ⟨#[]⟩, 0, 0, false⟩
  else if 0 < lead (off f (lead f n 4)) (n - lead f n 4) 2 then ⟨0, ⟨#[]⟩, 0, lead f n 4, false⟩
  else ⟨2, ⟨#[]⟩, num f (lead f n 4), lead f n 4, true⟩
def rdTxt (f : Nat → Nat) (n : Nat) : Wd :=
  if idx (off f 1) (n - 1) (f 0) < n - 1 then ⟨1, arr (off f 1) (idx (off f 1) (n - 1) (f 0)), 0, idx (off f 1) (n - 1) (f 0) + 2, true⟩ else ⟨0, ⟨#[]⟩, 0, 0, false⟩
def rdSgn (f : Nat → Nat) (n : Nat) : List (List Nat) → Wd
  | [] => ⟨0, ⟨#[]⟩, 0, 0, false⟩
  | s :: l => if pre f n s = true then ⟨3, bt s, 0, s.length, true⟩ else rdSgn f n l
def rd (f : Nat → Nat) (n : Nat) : Wd :=
  if 0 < lead f n 2 then ⟨0, arr f (lead f n 3), 0, lead f n 3, true⟩
  else if 0 < lead f n 4 then rdNum f n
  else if f 0 = 34 ∨ f 0 = 39 then rdTxt f n
  else rdSgn f n sgs

/-- the words from a place on, each with its place; and the place of what is wrong -/
def wds (f : Nat → Nat) (n : Nat) : Nat → Nat → List (Nat × Wd) × Option Nat
  | 0, _ => ([], none)
  | k + 1, p => if p < n then
      (if (rd (off f p) (n - p)).ok = true then
        ((p, rd (off f p) (n - p)) :: (wds f n k (p + (rd (off f p) (n - p)).wd + lead (off f (p + (rd (off f p) (n - p)).wd)) (n - (p + (rd (off f p) (n - p)).wd)) 1)).1,
          (wds f n k (p + (rd (off f p) (n - p)).wd + lead (off f (p + (rd (off f p) (n - p)).wd)) (n - (p + (rd (off f p) (n - p)).wd)) 1)).2)
      else ([], some (p + (rd (off f p) (n - p)).wd)))
    else ([], none)
def words (f : Nat → Nat) (n : Nat) : List (Nat × Wd) × Option Nat := wds f n n (lead f n 1)
end Lx
end Go.Proofs.YtcnagbkdckipnaaGreatDoor
/-
  The mathematics of utf8.Valid: bytes below 128, and what a greater first byte asks of those behind it.
-/
namespace Go.Proofs.YtcnagbkdckipnaaGreatDoor
open Go.Lib
namespace Lx
open Rn
open _root_.Go.Proofs.YtcnagbkdckipnaaGreatDoor.Fd
/-- are the bytes from k on characters all through? -/
def V (f : Nat → Nat) (n k : Nat) : Bool := vdF f n (n - k) k
theorem V_end (f : Nat → Nat) (n k : Nat) (h : ¬ k < n) : V f n k = true := vdF_end _ _ _ _ h
theorem V_whole {f : Nat → Nat} {n k s : Nat} (h : k < n) (hw : whole (off f k) (n - k) = true) (hs : fs (off f k) (n - k) = s) : V f n k = V f n (k + s) := by
  have hl := whole_lt hw
  unfold V
  obtain ⟨q, hq⟩ : ∃ q, n - k = q + 1 := ⟨n - k - 1, by omega⟩
  rw [hq, vdF_step _ _ _ _ h, hw, Bool.true_and, hs]
  exact vdF_fuel f n _ _ _ (by omega) (by omega)
theorem V_not {f : Nat → Nat} {n k : Nat} (h : k < n) (hw : whole (off f k) (n - k) = false) : V f n k = false := by
  unfold V
  obtain ⟨q, hq⟩ : ∃ q, n - k = q + 1 := ⟨n - k - 1, by omega⟩
  rw [hq, vdF_step _ _ _ _ h, hw, Bool.false_and]
theorem V_low {f : Nat → Nat} {n k : Nat} (h : k < n) (hl : f k < 128) : V f n k = V f n (k + 1) := by
  have e : size (f k) = 1 := by unfold size; rw [if_pos hl]
  have h1 : fs (off f k) (n - k) = 1 := by
    unfold fs off
    rw [if_neg (by omega), Nat.add_zero, e]
  refine V_whole h ?_ h1
  simp only [whole, decide_eq_true_eq, h1]
  exact ⟨by omega, (len1 (by simpa [off] using e)).2 (by omega)⟩
theorem V_asc {f : Nat → Nat} {n k : Nat} : ∀ (q : Nat), k + q ≤ n → (∀ j, j < q → f (k + j) < 128) → V f n k = V f n (k + q)
  | 0, _, _ => rfl
  | q + 1, h, hl => by
    rw [V_asc q (by omega) (fun j hj => hl j (by omega)), V_low (k := k + q) (by omega) (hl q (by omega))]
    rfl
theorem size_of {x : Nat} (h : 128 ≤ x) : size x = 2 ∨ size x = 3 ∨ size x = 4 ∨ size x = 0 := by
  rcases size_cases x with ⟨e, _⟩ | ⟨e, _⟩ | ⟨e, _⟩ | ⟨e, _⟩ | ⟨e, _⟩
  · omega
  · exact .inl e
  · exact .inr (.inl e)
  · exact .inr (.inr (.inl e))
  · exact .inr (.inr (.inr e))
theorem first_lead {x : Nat} (hx : x < 256) (h : 128 ≤ x) : (firstT x % 8 = size x ∧ 1 < size x ∧ accLo (firstT x / 16) = lo x ∧ accHi (firstT x / 16) = hi x) ∨ (firstT x % 8 ≤ 1 ∧ size x = 0) := by
  rcases size_of h with e | e | e | e
  · exact .inl ⟨(first_size x hx (by omega)).1, by omega, (first_size x hx (by omega)).2⟩
  · exact .inl ⟨(first_size x hx (by omega)).1, by omega, (first_size x hx (by omega)).2⟩
  · exact .inl ⟨(first_size x hx (by omega)).1, by omega, (first_size x hx (by omega)).2⟩
  · exact .inr ⟨first_none x hx (by omega), e⟩
theorem V_two {f : Nat → Nat} {n k : Nat} (hf : ∀ j, f j < 256) (h : k < n) (hg : 128 ≤ f k) (hs : firstT (f k) % 8 = 2) : V f n k = if (n - k < 2 ∨ f (k + 1) < accLo (firstT (f k) / 16) ∨ accHi (firstT (f k) / 16) < f (k + 1)) then false else V f n (k + 2) := by
  rcases first_lead (hf k) hg with ⟨e1, _, e3, e4⟩ | ⟨e1, _⟩
  · have hz : size (f k) = 2 := by omega
    have h1 : fs (off f k) (n - k) = 2 := by
      unfold fs off
      rw [if_neg (by omega), Nat.add_zero, hz]
    have hl := len2 (n := n - k) (b0 := off f k 0) (b1 := off f k 1) (b2 := off f k 2) (b3 := off f k 3) (by simpa [off] using hz)
    simp only [off, Nat.add_zero] at hl
    rw [e3, e4]
    split
    · refine V_not h ?_
      simp only [whole, decide_eq_false_iff_not, h1, fk, off, Nat.add_zero]
      rw [hl]
      omega
    · refine V_whole h ?_ h1
      simp only [whole, decide_eq_true_eq, h1, fk, off, Nat.add_zero]
      rw [hl]
      omega
  · omega
theorem V_three {f : Nat → Nat} {n k : Nat} (hf : ∀ j, f j < 256) (h : k < n) (hg : 128 ≤ f k) (hs : firstT (f k) % 8 = 3) : V f n k = if (n - k < 3 ∨ f (k + 1) < accLo (firstT (f k) / 16) ∨ accHi (firstT (f k) / 16) < f (k + 1) ∨ f (k + 2) < 128 ∨ 191 < f (k + 2)) then false else V f n (k + 3) := by
  rcases first_lead (hf k) hg with ⟨e1, _, e3, e4⟩ | ⟨e1, _⟩
  · have hz : size (f k) = 3 := by omega
    have h1 : fs (off f k) (n - k) = 3 := by
      unfold fs off
      rw [if_neg (by omega), Nat.add_zero, hz]
    have hl := len3 (n := n - k) (b0 := off f k 0) (b1 := off f k 1) (b2 := off f k 2) (b3 := off f k 3) (by simpa [off] using hz)
    simp only [off, Nat.add_zero] at hl
    rw [e3, e4]
    split
    · refine V_not h ?_
      simp only [whole, decide_eq_false_iff_not, h1, fk, off, Nat.add_zero]
      rw [hl]
      omega
    · refine V_whole h ?_ h1
      simp only [whole, decide_eq_true_eq, h1, fk, off, Nat.add_zero]
      rw [hl]
      omega
  · omega
theorem V_four {f : Nat → Nat} {n k : Nat} (hf : ∀ j, f j < 256) (h : k < n) (hg : 128 ≤ f k) (hs : firstT (f k) % 8 = 4) : V f n k = if (n - k < 4 ∨ f (k + 1) < accLo (firstT (f k) / 16) ∨ accHi (firstT (f k) / 16) < f (k + 1) ∨ f (k + 2) < 128 ∨ 191 < f (k + 2) ∨ f (k + 3) < 128 ∨ 191 < f (k + 3)) then false else V f n (k + 4) := by
  rcases first_lead (hf k) hg with ⟨e1, _, e3, e4⟩ | ⟨e1, _⟩
  · have hz : size (f k) = 4 := by omega
    have h1 : fs (off f k) (n - k) = 4 := by
      unfold fs off
      rw [if_neg (by omega), Nat.add_zero, hz]
    have hl := len4 (n := n - k) (b0 := off f k 0) (b1 := off f k 1) (b2 := off f k 2) (b3 := off f k 3) (by simpa [off] using hz)
    simp only [off, Nat.add_zero] at hl
    rw [e3, e4]
    split
    · refine V_not h ?_
      simp only [whole, decide_eq_false_iff_not, h1, fk, off, Nat.add_zero]
      rw [hl]
      omega
    · refine V_whole h ?_ h1
      simp only [whole, decide_eq_true_eq, h1, fk, off, Nat.add_zero]
      rw [hl]
      omega
  · omega
theorem V_none {f : Nat → Nat} {n k : Nat} (hf : ∀ j, f j < 256) (h : k < n) (hg : 128 ≤ f k) (h2 : firstT (f k) % 8 ≠ 2) (h3 : firstT (f k) % 8 ≠ 3) (h4 : firstT (f k) % 8 ≠ 4) : V f n k = false := by
  rcases first_lead (hf k) hg with ⟨e1, e2, _, _⟩ | ⟨_, e2⟩
  · rcases size_of hg with e | e | e | e <;> omega
  · refine V_not h ?_
    have h1 : fs (off f k) (n - k) = 0 := by
      unfold fs off
      rw [if_neg (by omega), Nat.add_zero, e2]
    simp [whole, h1]
end Lx
end Go.Proofs.YtcnagbkdckipnaaGreatDoor
/-
  Contracts of the kit's shelf, laid at this seat's program in plain words (by the kit's lay-plain.mjs).
-/
namespace Go.Proofs
open Go.Shelf
def Tryz.lays144_ren : Go.Shelf.Ren := ⟨fun | 144 => 172 | 143 => 179 | 219 => 132 | 217 => 141 | 225 => 142 | 224 => 143 | 267 => 144 | 266 => 158 | 314 => 159 | n => n, fun | 9 => 9 | 4 => 4 | 3 => 3 | 5 => 5 | 46 => 145 | 146 => 234 | 51 => 233 | n => n, fun | 1 => 8 | n => n⟩
theorem Tryz.lays144 : Go.Proofs.Lays.n144 Tryz.prog Tryz.lays144_ren := {
  mixed := by kernel_rfl
  f143 := Tryz.func179.trans (congrArg some (by kernel_rfl))
  f144 := Tryz.func172.trans (congrArg some (by kernel_rfl))
  f217 := Tryz.func141.trans (congrArg some (by kernel_rfl))
  f219 := Tryz.func132.trans (congrArg some (by kernel_rfl))
  f224 := Tryz.func143.trans (congrArg some (by kernel_rfl))
  f225 := Tryz.func142.trans (congrArg some (by kernel_rfl))
  f266 := Tryz.func158.trans (congrArg some (by kernel_rfl))
  f267 := Tryz.func144.trans (congrArg some (by kernel_rfl))
  f314 := Tryz.func159.trans (congrArg some (by kernel_rfl))
  t3 := Tryz.underlying3
  a3 := Tryz.isAgg3
  z3 := Tryz.sizeOf3
  v3 := Tryz.zeroValue3
  t4 := Tryz.underlying4
  a4 := Tryz.isAgg4
  z4 := Tryz.sizeOf4
  v4 := Tryz.zeroValue4
  t5 := Tryz.underlying5
  a5 := Tryz.isAgg5
  z5 := Tryz.sizeOf5
  v5 := Tryz.zeroValue5
  t9 := Tryz.underlying9
  a9 := Tryz.isAgg9
  z9 := Tryz.sizeOf9
  v9 := Tryz.zeroValue9
  t46 := Tryz.underlying145
  a46 := Tryz.isAgg145
  z46 := Tryz.sizeOf145
  v46 := Tryz.zeroValue145
  t51 := Tryz.underlying233
  a51 := Tryz.isAgg233
  z51 := Tryz.sizeOf233
  v51 := Tryz.zeroValue233
  t146 := Tryz.underlying234
  a146 := Tryz.isAgg234
  z146 := Tryz.sizeOf234
  v146 := Tryz.zeroValue234
  g1 := by kernel_rfl }
def Tryz.lays99_ren : Go.Shelf.Ren := ⟨fun | 99 => 95 | 206 => 120 | n => n, fun | 9 => 9 | 4 => 4 | 3 => 3 | n => n, fun | n => n⟩
theorem Tryz.lays99 : Go.Proofs.Lays.n99 Tryz.prog Tryz.lays99_ren := {
  mixed := by kernel_rfl
  f99 := Tryz.func95.trans (congrArg some (by kernel_rfl))
  f206 := Tryz.func120.trans (congrArg some (by kernel_rfl))
  t3 := Tryz.underlying3
  a3 := Tryz.isAgg3
  z3 := Tryz.sizeOf3
  v3 := Tryz.zeroValue3
  t4 := Tryz.underlying4
  a4 := Tryz.isAgg4
  z4 := Tryz.sizeOf4
  v4 := Tryz.zeroValue4
  t9 := Tryz.underlying9
  a9 := Tryz.isAgg9
  z9 := Tryz.sizeOf9
  v9 := Tryz.zeroValue9 }
def Tryz.lays219_ren : Go.Shelf.Ren := ⟨fun | 219 => 132 | 217 => 141 | 225 => 142 | 224 => 143 | 267 => 144 | 266 => 158 | 314 => 159 | n => n, fun | 9 => 9 | 3 => 3 | 4 => 4 | 5 => 5 | 46 => 145 | 146 => 234 | 51 => 233 | n => n, fun | 1 => 8 | n => n⟩
theorem Tryz.lays219 : Go.Proofs.Lays.n219 Tryz.prog Tryz.lays219_ren := {
  mixed := by kernel_rfl
  f217 := Tryz.func141.trans (congrArg some (by kernel_rfl))
  f219 := Tryz.func132.trans (congrArg some (by kernel_rfl))
  f224 := Tryz.func143.trans (congrArg some (by kernel_rfl))
  f225 := Tryz.func142.trans (congrArg some (by kernel_rfl))
  f266 := Tryz.func158.trans (congrArg some (by kernel_rfl))
  f267 := Tryz.func144.trans (congrArg some (by kernel_rfl))
  f314 := Tryz.func159.trans (congrArg some (by kernel_rfl))
  t3 := Tryz.underlying3
  a3 := Tryz.isAgg3
  z3 := Tryz.sizeOf3
  v3 := Tryz.zeroValue3
  t4 := Tryz.underlying4
  a4 := Tryz.isAgg4
  z4 := Tryz.sizeOf4
  v4 := Tryz.zeroValue4
  t5 := Tryz.underlying5
  a5 := Tryz.isAgg5
  z5 := Tryz.sizeOf5
  v5 := Tryz.zeroValue5
  t9 := Tryz.underlying9
  a9 := Tryz.isAgg9
  z9 := Tryz.sizeOf9
  v9 := Tryz.zeroValue9
  t46 := Tryz.underlying145
  a46 := Tryz.isAgg145
  z46 := Tryz.sizeOf145
  v46 := Tryz.zeroValue145
  t51 := Tryz.underlying233
  a51 := Tryz.isAgg233
  z51 := Tryz.sizeOf233
  v51 := Tryz.zeroValue233
  t146 := Tryz.underlying234
  a146 := Tryz.isAgg234
  z146 := Tryz.sizeOf234
  v146 := Tryz.zeroValue234
  g1 := by kernel_rfl }
open Go.RowKit in
theorem Tryz.strings_Contains_one (s : ByteArray) (c : UInt8) (w : World) :
    Calls Tryz.prog 172 #[.string s, .string ⟨#[c]⟩] w fun e w' => e = .returned (.bool (decide (0 ≤ Lib.indexByte s.data.toList c))) ∧ w' = w := Any.strings_Contains_one Tryz.lays144 s c w
open Go.RowKit in
theorem Tryz.strings_HasPrefix (s p : ByteArray) (w : World) :
    Calls Tryz.prog 95 #[.string s, .string p] w fun e w' => e = .returned (.bool (Lib.hasPrefix s.data.toList p.data.toList)) ∧ w' = w := Any.strings_HasPrefix Tryz.lays99 s p w
open Go.RowKit in
theorem Tryz.stringslite_Index_one (s : ByteArray) (c : UInt8) (w : World) :
    Calls Tryz.prog 132 #[.string s, .string ⟨#[c]⟩] w fun e w' => e = .returned (.int .i64 (Lib.indexByte s.data.toList c)) ∧ w' = w := Any.stringslite_Index_one Tryz.lays219 s c w
end Go.Proofs
/-
  The program's table of ranges in memory, and WALKS over chars.Is, chars.Next and chars.Count.
-/
namespace Go.Proofs.YtcnagbkdckipnaaGreatDoor
open Go.RowKit Go.Lib


/-- the table lies in memory: the variable's slice, and the cells of its ranges -/
def Spans (w : World) : Prop := ∃ b o cap, w.cell? ⟨3, 0, none⟩ = some (.slice (some ⟨b, o, none⟩) 45 cap) ∧
  ∀ i s, Ch.tab[i]? = some s → w.cell? ⟨b, o + i * 3, none⟩ = some (.int .i64 (s.1 : Nat)) ∧ w.cell? ⟨b, o + i * 3 + 1, none⟩ = some (.int .i32 (s.2.1 : Nat)) ∧ w.cell? ⟨b, o + i * 3 + 2, none⟩ = some (.int .i32 (s.2.2 : Nat))
theorem Spans.below {w w' : World} {B : Nat} (h : Spans w) (hb : Below B w w') (hB : w.heap.size ≤ B) : Spans w' := by
  obtain ⟨b, o, cap, h0, hc⟩ := h
  have k : ∀ {p : Addr} {v}, w.cell? p = some v → w'.cell? p = some v := fun {p v} e => (hb.cell (p := p) (Nat.lt_of_lt_of_le (block_lt_of_cell e) hB)).trans e
  refine ⟨b, o, cap, k h0, fun i s hs => ?_⟩
  obtain ⟨c1, c2, c3⟩ := hc i s hs
  exact ⟨k c1, k c2, k c3⟩

set_option maxHeartbeats 1000000 in
theorem is_any (c r : Int) (w : World) (hS : Spans w) :
    Calls Tryz.prog 69 #[.int .i64 c, .int .i32 r] w fun e w' => e = .returned (.bool (Ch.isT Ch.tab c r)) ∧ Below w.heap.size w w' := by
  obtain ⟨b, o, cap, h0, hc⟩ := hS
  go_enter Tryz.func69, Tryz.ntmps69
  go_wp2
  go_loopw [9] (fun i wr => ∃ k : Nat, i = .int .i64 k ∧ k ≤ 45 ∧ Ch.isT (Ch.tab.drop k) c r = Ch.isT Ch.tab c r ∧ Below w.heap.size w wr) (fun i _ => 45 - (RowKit.intOf i).toNat)
  case atStart => exact ⟨0, rfl, by omega, rfl, Below.refl _ _⟩
  case round =>
    obtain ⟨k, rfl, hk, hd, hB⟩ := hrel
    by_cases hlt : k < 45
    · have g1 : (k : Int) < 45 := by omega
      have hkl : k < Ch.tab.length := by rw [Ch.tab_length]; exact hlt
      obtain ⟨c1, c2, c3⟩ := hc k _ (List.getElem?_eq_getElem hkl)
      have e1 := (hB.cell (p := ⟨b, o + k * 3, none⟩) (block_lt_of_cell c1)).trans c1
      have e2 := (hB.cell (p := ⟨b, o + k * 3 + 1, none⟩) (block_lt_of_cell c2)).trans c2
      have e3 := (hB.cell (p := ⟨b, o + k * 3 + 2, none⟩) (block_lt_of_cell c3)).trans c3
      rw [List.drop_eq_getElem_cons hkl, Ch.isT_cons] at hd
      have hbs := hB.size
      generalize Ch.tab[k] = s at *
      obtain ⟨cl, lo, hi⟩ := s
      simp only at e1 e2 e3 hd
      clear c1 c2 c3 hc h0 hkl
      by_cases q : (cl : Int) = c ∧ (lo : Int) ≤ r ∧ r ≤ (hi : Int)
      · rw [if_pos q] at hd
        obtain ⟨q1, q2, q3⟩ := q
        have n1 : ((cl : Int) == c) = true := by simp [q1]
        have HD := hide' hd
        clear hd q1
        go_wp2
        go_ret
        exact ⟨by rw [← HD.out]; rfl, hB.alloc hbs _⟩
      · rw [if_neg q] at hd
        have HD := hide' hd
        clear hd
        by_cases q1 : (cl : Int) = c
        · have n1 : ((cl : Int) == c) = true := by simp [q1]
          by_cases q2 : (lo : Int) ≤ r
          · have q3 : ¬ r ≤ (hi : Int) := fun h => q ⟨q1, q2, h⟩
            clear q q1
            go_wp2
            go_roundw
            case rel => exact ⟨k + 1, by go_num, by omega, HD.out, hB.alloc hbs _⟩
            case measure => simp [RowKit.intOf]; omega
          · clear q q1
            go_wp2
            go_roundw
            case rel => exact ⟨k + 1, by go_num, by omega, HD.out, hB.alloc hbs _⟩
            case measure => simp [RowKit.intOf]; omega
        · have n1 : ((cl : Int) == c) = false := by simp [q1]
          clear q q1
          go_wp2
          go_roundw
          case rel => exact ⟨k + 1, by go_num, by omega, HD.out, hB.alloc hbs _⟩
          case measure => simp [RowKit.intOf]; omega
    · obtain rfl : k = 45 := by omega
      rw [show Ch.tab.drop 45 = [] from by decide] at hd
      have HD := hide' hd
      clear hd hc h0
      go_wp2
      go_ret
      exact ⟨by rw [← HD.out]; rfl, hB⟩

end Go.Proofs.YtcnagbkdckipnaaGreatDoor
