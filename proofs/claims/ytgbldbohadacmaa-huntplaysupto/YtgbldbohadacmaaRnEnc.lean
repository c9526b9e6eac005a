/-
  Plain mathematics: the bytes of a rune, told by their place: they are one whole character; each shorter beginning waits.
-/
import Derived.Test.YtgbldbohadacmaaRnBeg
import Derived.Lib.RuneBytes
namespace Go.Proofs.Ytgbldbohadacmaa.Rn
open Go.Lib

theorem len_congr {n a0 a1 a2 a3 b0 b1 b2 b3 : Nat} (h0 : 0 < n → a0 = b0) (h1 : 1 < n → a1 = b1) (h2 : 2 < n → a2 = b2) (h3 : 3 < n → a3 = b3) : len n a0 a1 a2 a3 = len n b0 b1 b2 b3 := by
  by_cases c0 : 0 < n
  · obtain rfl := h0 c0
    by_cases c1 : 1 < n
    · obtain rfl := h1 c1
      by_cases c2 : 2 < n
      · obtain rfl := h2 c2
        by_cases c3 : 3 < n
        · rw [h3 c3]
        · obtain rfl : n = 3 := by omega
          simp [len]
      · obtain rfl : n = 2 := by omega
        simp [len]
    · obtain rfl : n = 1 := by omega
      simp [len]
  · obtain rfl : n = 0 := by omega
    simp [len]
theorem fk_congr {f g : Nat → Nat} {n : Nat} (h : ∀ j, j < n → f j = g j) : fk f n = fk g n := len_congr (h 0) (h 1) (h 2) (h 3)
theorem fs_congr {f g : Nat → Nat} {n : Nat} (h : ∀ j, j < n → f j = g j) : fs f n = fs g n := by
  unfold fs
  split
  · rfl
  · rw [h 0 (by omega)]
theorem whole_congr {f g : Nat → Nat} {n : Nat} (h : ∀ j, j < n → f j = g j) : whole f n = whole g n := by unfold whole; rw [fk_congr h, fs_congr h]
theorem waits_congr {f g : Nat → Nat} {n : Nat} (h : ∀ j, j < n → f j = g j) : waits f n = waits g n := by unfold waits; rw [fk_congr h, fs_congr h]
theorem fv_congr {f g : Nat → Nat} {n : Nat} (hw : whole f n = true) (h : ∀ j, j < n → f j = g j) : fv f = fv g := by
  simp only [whole, decide_eq_true_eq] at hw
  have hle := fk_le f n
  have hn : ¬ n = 0 := by
    intro e
    subst e
    simp [fs] at hw
  have e0 : fs f n = size (f 0) := by unfold fs; rw [if_neg hn]
  rw [e0] at hw
  have h0 := h 0 (by omega)
  unfold fv val
  rw [← h0]
  by_cases c1 : size (f 0) = 1
  · simp [c1]
  by_cases c2 : size (f 0) = 2
  · simp only [c2, Nat.reduceEqDiff, if_false, if_true]
    rw [h 1 (by omega)]
  by_cases c3 : size (f 0) = 3
  · simp only [c3, Nat.reduceEqDiff, if_false, if_true]
    rw [h 1 (by omega), h 2 (by omega)]
  · have c4 : size (f 0) = 4 := by have := size_le (f 0); omega
    simp only [c4, Nat.reduceEqDiff, if_false]
    rw [h 1 (by omega), h 2 (by omega), h 3 (by omega)]

theorem good_waits {f : Nat → Nat} {n : Nat} (h : waits f n = true) : good f n = n := by
  have hn : ¬ n = 0 := by
    intro e
    subst e
    simp [waits, fs] at h
  have hw : whole f n = false := by
    simp only [whole, waits, decide_eq_true_eq, decide_eq_false_iff_not] at *
    omega
  obtain ⟨m, rfl⟩ : ∃ m, n = m + 1 := ⟨n - 1, by omega⟩
  unfold good goodFrom
  rw [if_neg (by omega), off_zero, Nat.sub_zero, hw]
  simp only [waits, decide_eq_true_eq] at h
  simp
  omega
theorem good_whole {f : Nat → Nat} {n : Nat} (h : whole f n = true) (hs : fs f n = n) : good f n = n := by
  have hn : ¬ n = 0 := by
    intro e
    subst e
    simp [whole, fs] at h
  obtain ⟨m, rfl⟩ : ∃ m, n = m + 1 := ⟨n - 1, by omega⟩
  unfold good goodFrom
  rw [if_neg (by omega), off_zero, Nat.sub_zero, h, hs]
  simp only [if_true, Nat.zero_add]
  exact goodFrom_end _ _ _ _ (Nat.le_refl _)

/-- the bytes of a rune, by their place; how many they are; the character that is written -/
def eb (r : Int) : Nat → Nat := fun j => ((encodeRuneZ r)[j]?.getD 0).toNat
def el (r : Int) : Nat := (encodeRuneZ r).length
def want (r : Int) : Int := if r < 0 ∨ 1114111 < r ∨ (55296 ≤ r ∧ r ≤ 57343) then 65533 else r
theorem eb_lt (r : Int) : ∀ j, eb r j < 256 := by
  intro j
  unfold eb
  rcases h : (encodeRuneZ r)[j]? with _ | x
  · simp
  · have := encodeRuneZ_byte r x (List.mem_of_getElem? h)
    simp only [Option.getD_some]
    omega
theorem el_pos (r : Int) : 1 ≤ el r ∧ el r ≤ 4 := encodeRuneZ_length r

/-- what is known of a rune's bytes, by how many they are -/
inductive Enc (f : Nat → Nat) (n v : Nat) : Prop
  | one (hn : n = 1) (h0 : f 0 = v) (hv : v < 128)
  | two (hn : n = 2) (h0 : f 0 = 192 + v / 64) (h1 : f 1 = 128 + v % 64) (hv : 128 ≤ v) (hv2 : v < 2048)
  | three (hn : n = 3) (h0 : f 0 = 224 + v / 4096) (h1 : f 1 = 128 + v / 64 % 64) (h2 : f 2 = 128 + v % 64) (hv : 2048 ≤ v) (hv2 : v < 65536) (hv3 : v < 55296 ∨ 57343 < v)
  | four (hn : n = 4) (h0 : f 0 = 240 + v / 262144) (h1 : f 1 = 128 + v / 4096 % 64) (h2 : f 2 = 128 + v / 64 % 64) (h3 : f 3 = 128 + v % 64) (hv : 65536 ≤ v) (hv2 : v < 1114112)
theorem eb_enc (r : Int) : Enc (eb r) (el r) (want r).toNat := by
  by_cases h : r < 0 ∨ (55296 ≤ r ∧ r ≤ 57343) ∨ 1114111 < r
  · have e := encodeRuneZ_bad h
    have w : want r = 65533 := by unfold want; rw [if_pos (by omega)]
    rw [w]
    refine .three ?_ ?_ ?_ ?_ (by decide) (by decide) (by decide)
    · simp [el, e]
    all_goals simp [eb, e]
  · have w : want r = r := by unfold want; rw [if_neg (by omega)]
    rw [w]
    by_cases h1 : r ≤ 127
    · have e := encodeRuneZ_one (r := r) (by omega) h1
      exact .one (by simp [el, e]) (by simp [eb, e]) (by omega)
    by_cases h2 : r ≤ 2047
    · have e := encodeRuneZ_two (r := r) (by omega) h2
      exact .two (by simp [el, e]) (by simp [eb, e]; omega) (by simp [eb, e]; omega) (by omega) (by omega)
    by_cases h3 : r ≤ 65535
    · have e := encodeRuneZ_three (r := r) (by omega)
      exact .three (by simp [el, e]) (by simp [eb, e]; omega) (by simp [eb, e]; omega) (by simp [eb, e]; omega) (by omega) (by omega) (by omega)
    · have e := encodeRuneZ_four (r := r) (by omega) (by omega)
      exact .four (by simp [el, e]) (by simp [eb, e]; omega) (by simp [eb, e]; omega) (by simp [eb, e]; omega) (by simp [eb, e]; omega) (by omega) (by omega)
theorem Enc.fs {f : Nat → Nat} {n v : Nat} (h : Enc f n v) : size (f 0) = n := by
  cases h with
  | one hn h0 hv => rcases size_cases (f 0) with h | h | h | h | h <;> omega
  | two hn h0 h1 hv hv2 => rcases size_cases (f 0) with h | h | h | h | h <;> omega
  | three hn h0 h1 h2 hv hv2 hv3 => rcases size_cases (f 0) with h | h | h | h | h <;> omega
  | four hn h0 h1 h2 h3 hv hv2 => rcases size_cases (f 0) with h | h | h | h | h <;> omega
theorem Enc.fk {f : Nat → Nat} {n v : Nat} (h : Enc f n v) : Rn.fk f n = n := by
  have hs := h.fs
  unfold Rn.fk
  cases h with
  | one hn h0 hv => subst hn; rw [len1 hs]; omega
  | two hn h0 h1 hv hv2 =>
    subst hn
    rw [len2 hs]
    rcases size_cases (f 0) with h | ⟨_, _, _, _, _⟩ | h | h | h <;> omega
  | three hn h0 h1 h2 hv hv2 hv3 =>
    subst hn
    rw [len3 hs]
    rcases size_cases (f 0) with h | h | ⟨_, _, _, h | h | h⟩ | h | h <;> omega
  | four hn h0 h1 h2 h3 hv hv2 =>
    subst hn
    rw [len4 hs]
    rcases size_cases (f 0) with h | h | h | ⟨_, _, _, h | h | h⟩ | h <;> omega
theorem Enc.fv {f : Nat → Nat} {n v : Nat} (h : Enc f n v) : Rn.fv f = v := by
  have hs := h.fs
  unfold Rn.fv val
  rw [hs]
  cases h with
  | one hn h0 hv => subst hn; simp [h0]
  | two hn h0 h1 hv hv2 => subst hn; simp only [Nat.reduceEqDiff, if_false, if_true]; omega
  | three hn h0 h1 h2 hv hv2 hv3 => subst hn; simp only [Nat.reduceEqDiff, if_false, if_true]; omega
  | four hn h0 h1 h2 h3 hv hv2 => subst hn; simp only [Nat.reduceEqDiff, if_false]; omega
theorem Enc.pos {f : Nat → Nat} {n v : Nat} (h : Enc f n v) : 0 < n ∧ n ≤ 4 := by cases h <;> omega
theorem Enc.fsn {f : Nat → Nat} {n v : Nat} (h : Enc f n v) : Rn.fs f n = n := by
  have := h.pos
  unfold Rn.fs
  rw [if_neg (by omega)]
  exact h.fs
theorem Enc.whole {f : Nat → Nat} {n v : Nat} (h : Enc f n v) : Rn.whole f n = true := by
  have := h.pos
  have a := h.fk
  have b := h.fsn
  unfold Rn.whole
  rw [a, b]
  simp; omega
theorem Enc.waits {f : Nat → Nat} {n v : Nat} (h : Enc f n v) {m : Nat} (hm : 0 < m) (hmn : m < n) : Rn.waits f m = true := by
  have a := h.fk
  have b := h.fs
  have e := fk_min f (m := m) (n := n) (by omega) (by omega)
  have e1 : Rn.fs f m = n := by unfold Rn.fs; rw [if_neg (by omega)]; exact b
  unfold Rn.waits
  rw [e, e1, a]
  simp; omega
end Go.Proofs.Ytgbldbohadacmaa.Rn
