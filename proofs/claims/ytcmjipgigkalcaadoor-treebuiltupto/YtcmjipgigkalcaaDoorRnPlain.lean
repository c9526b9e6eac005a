/-
  Plain mathematics: bytes as a function of their place, how many of them are a character's beginning ('front'), what Go's decoder gives of them ('decodeN', the library's), what Go's FullRune says.
-/
import Derived.Lib.DecodeN
namespace Go.Proofs.YtcmjipgigkalcaaDoor.Rn
open Go.Lib

/-- how many bytes a character has that begins with x; 0: none does -/
def size (x : Nat) : Nat :=
  if x < 128 then 1 else if 194 ≤ x ∧ x ≤ 223 then 2 else if 224 ≤ x ∧ x ≤ 239 then 3 else if 240 ≤ x ∧ x ≤ 244 then 4 else 0
/-- the bounds of the second byte -/
def lo (x : Nat) : Nat := if x = 224 then 160 else if x = 240 then 144 else 128
def hi (x : Nat) : Nat := if x = 237 then 159 else if x = 244 then 143 else 191

/-- how many of n bytes are a character's, or a beginning of one (at most those of one character) -/
def len (n b0 b1 b2 b3 : Nat) : Nat :=
  if n = 0 ∨ size b0 = 0 then 0
  else if size b0 = 1 ∨ n = 1 ∨ b1 < lo b0 ∨ hi b0 < b1 then 1
  else if size b0 = 2 ∨ n = 2 ∨ b2 < 128 ∨ 191 < b2 then 2
  else if size b0 = 3 ∨ n = 3 ∨ b3 < 128 ∨ 191 < b3 then 3
  else 4
def val (b0 b1 b2 b3 : Nat) : Nat :=
  if size b0 = 1 then b0
  else if size b0 = 2 then b0 % 32 * 64 + b1 % 64
  else if size b0 = 3 then b0 % 16 * 4096 + b1 % 64 * 64 + b2 % 64
  else b0 % 8 * 262144 + b1 % 64 * 4096 + b2 % 64 * 64 + b3 % 64

/-- the same of bytes that are told by their place -/
def fk (f : Nat → Nat) (n : Nat) : Nat := len n (f 0) (f 1) (f 2) (f 3)
def fs (f : Nat → Nat) (n : Nat) : Nat := if n = 0 then 0 else size (f 0)
def fv (f : Nat → Nat) : Nat := val (f 0) (f 1) (f 2) (f 3)
def dec (f : Nat → Nat) (n : Nat) : Nat × Nat := decodeN n (f 0) (f 1) (f 2) (f 3)
/-- the bytes from a place on -/
def off (f : Nat → Nat) (a : Nat) : Nat → Nat := fun j => f (a + j)

theorem off_zero (f : Nat → Nat) : off f 0 = f := by funext j; simp [off]

/-- whole: the front is a character -/
def whole (f : Nat → Nat) (n : Nat) : Bool := decide (0 < fs f n ∧ fk f n = fs f n)
/-- waits: the bytes end within a character -/
def waits (f : Nat → Nat) (n : Nat) : Bool := decide (0 < fs f n ∧ fk f n = n ∧ n < fs f n)

theorem size_le (x : Nat) : size x ≤ 4 := by unfold size; repeat' split
                                             all_goals omega
theorem len_le_size (n b0 b1 b2 b3 : Nat) : len n b0 b1 b2 b3 ≤ size b0 := by
  unfold len
  repeat' split
  all_goals have := size_le b0
  all_goals omega
theorem len_le (n b0 b1 b2 b3 : Nat) : len n b0 b1 b2 b3 ≤ n := by
  unfold len
  repeat' split
  all_goals omega
theorem len_pos {n b0 b1 b2 b3 : Nat} (hn : 0 < n) (h : 0 < size b0) : 0 < len n b0 b1 b2 b3 := by
  unfold len
  repeat' split
  all_goals omega
theorem fk_le (f : Nat → Nat) (n : Nat) : fk f n ≤ n := len_le ..
theorem fk_le_fs (f : Nat → Nat) (n : Nat) : fk f n ≤ fs f n := by
  unfold fs
  split
  · have := fk_le f n; omega
  · exact len_le_size ..
theorem fs_le (f : Nat → Nat) (n : Nat) : fs f n ≤ 4 := by
  unfold fs
  split
  · omega
  · exact size_le _
theorem fk_pos (f : Nat → Nat) (n : Nat) (h : 0 < fs f n) : 0 < fk f n := by
  unfold fs at h
  split at h
  · omega
  · exact len_pos (by omega) h

theorem len1 {n b0 b1 b2 b3 : Nat} (e : size b0 = 1) : len n b0 b1 b2 b3 = 1 ↔ 0 < n := by
  unfold len; repeat' split
  all_goals omega
theorem len2 {n b0 b1 b2 b3 : Nat} (e : size b0 = 2) : len n b0 b1 b2 b3 = 2 ↔ 1 < n ∧ lo b0 ≤ b1 ∧ b1 ≤ hi b0 := by
  unfold len; repeat' split
  all_goals omega
theorem len3 {n b0 b1 b2 b3 : Nat} (e : size b0 = 3) : len n b0 b1 b2 b3 = 3 ↔ 2 < n ∧ lo b0 ≤ b1 ∧ b1 ≤ hi b0 ∧ 128 ≤ b2 ∧ b2 ≤ 191 := by
  unfold len; repeat' split
  all_goals omega
theorem len4 {n b0 b1 b2 b3 : Nat} (e : size b0 = 4) : len n b0 b1 b2 b3 = 4 ↔ 3 < n ∧ lo b0 ≤ b1 ∧ b1 ≤ hi b0 ∧ 128 ≤ b2 ∧ b2 ≤ 191 ∧ 128 ≤ b3 ∧ b3 ≤ 191 := by
  unfold len; repeat' split
  all_goals omega
theorem size_cases (x : Nat) : (size x = 1 ∧ x < 128) ∨ (size x = 2 ∧ 194 ≤ x ∧ x ≤ 223 ∧ lo x = 128 ∧ hi x = 191) ∨
    (size x = 3 ∧ 224 ≤ x ∧ x ≤ 239 ∧ ((x = 224 ∧ lo x = 160 ∧ hi x = 191) ∨ (x = 237 ∧ lo x = 128 ∧ hi x = 159) ∨ (x ≠ 224 ∧ x ≠ 237 ∧ lo x = 128 ∧ hi x = 191))) ∨
    (size x = 4 ∧ 240 ≤ x ∧ x ≤ 244 ∧ ((x = 240 ∧ lo x = 144 ∧ hi x = 191) ∨ (x = 244 ∧ lo x = 128 ∧ hi x = 143) ∨ (x ≠ 240 ∧ x ≠ 244 ∧ lo x = 128 ∧ hi x = 191))) ∨
    (size x = 0 ∧ 128 ≤ x ∧ (x < 194 ∨ 244 < x)) := by
  unfold size lo hi
  repeat' split
  all_goals omega

set_option maxHeartbeats 4000000 in
/-- what Go's decoder gives: the front's character, or U+FFFD of one byte -/
theorem dec_eq (n b0 b1 b2 b3 : Nat) (hn : 0 < n) (h1 : b1 < 256) (h2 : b2 < 256) (h3 : b3 < 256) :
    decodeN n b0 b1 b2 b3 = if 0 < size b0 ∧ len n b0 b1 b2 b3 = size b0 then (val b0 b1 b2 b3, size b0) else (65533, 1) := by
  rcases size_cases b0 with ⟨e, c⟩ | ⟨e, c, d, l, h⟩ | ⟨e, c, d, h⟩ | ⟨e, c, d, h⟩ | ⟨e, c, d⟩
  · unfold val; rw [e]; simp only [len1 e, decodeN, if_pos c, if_true]; rw [if_pos (by omega)]
  · unfold val; rw [e]; simp only [len2 e, l, h, decodeN]
    by_cases k : 1 < n ∧ 128 ≤ b1 ∧ b1 ≤ 191
    · rw [if_neg (by omega), if_pos (by omega), if_pos (by omega), if_pos (by omega)]; rfl
    · rw [if_neg (by omega), if_neg (by omega), if_neg (by omega), if_neg (by omega), if_neg (by omega)]
  · unfold val; rw [e]; simp only [len3 e, decodeN]
    by_cases k : 2 < n ∧ lo b0 ≤ b1 ∧ b1 ≤ hi b0 ∧ 128 ≤ b2 ∧ b2 ≤ 191
    · rw [if_neg (by omega), if_neg (by omega), if_pos (by omega), if_pos (by omega), if_pos (by omega)]; rfl
    · rw [if_neg (by omega), if_neg (by omega)]
      by_cases k2 : b0 / 16 = 14 ∧ (1 < n ∧ b1 / 64 = 2) ∧ (2 < n ∧ b2 / 64 = 2)
      · rw [if_pos k2, if_neg (by omega), if_neg (by omega)]
      · rw [if_neg k2, if_neg (by omega), if_neg (by omega)]
  · unfold val; rw [e]; simp only [len4 e, decodeN]
    by_cases k : 3 < n ∧ lo b0 ≤ b1 ∧ b1 ≤ hi b0 ∧ 128 ≤ b2 ∧ b2 ≤ 191 ∧ 128 ≤ b3 ∧ b3 ≤ 191
    · rw [if_neg (by omega), if_neg (by omega), if_neg (by omega), if_pos (by omega), if_pos (by omega), if_pos (by omega)]; rfl
    · rw [if_neg (by omega), if_neg (by omega), if_neg (by omega)]
      by_cases k2 : b0 / 8 = 30 ∧ (1 < n ∧ b1 / 64 = 2) ∧ (2 < n ∧ b2 / 64 = 2) ∧ (3 < n ∧ b3 / 64 = 2)
      · rw [if_pos k2, if_neg (by omega), if_neg (by omega)]
      · rw [if_neg k2, if_neg (by omega)]
  · rw [if_neg (by omega)]
    unfold decodeN
    rw [if_neg (by omega)]
    split
    · rw [if_neg (by omega)]
    · rw [if_neg (by omega)]
      split
      · rw [if_neg (by omega)]
      · rfl

/-- what FullRune says, in the words of its own text -/
def fullN (n b0 b1 b2 : Nat) : Bool :=
  decide (n ≠ 0 ∧ (firstT b0 % 8 ≤ n ∨ (1 < n ∧ (b1 < accLo (firstT b0 / 16) ∨ accHi (firstT b0 / 16) < b1)) ∨ (2 < n ∧ (b2 < 128 ∨ 191 < b2))))
theorem first_size : ∀ x, x < 256 → 1 < size x → firstT x % 8 = size x ∧ accLo (firstT x / 16) = lo x ∧ accHi (firstT x / 16) = hi x := by
  decide +kernel
theorem first_none : ∀ x, x < 256 → size x ≤ 1 → firstT x % 8 ≤ 1 := by
  decide +kernel

/-- FullRune denies just the bytes that end within a character -/
theorem full_eq (n b0 b1 b2 b3 : Nat) (hb : b0 < 256) : fullN n b0 b1 b2 = !decide (n = 0 ∨ (0 < size b0 ∧ len n b0 b1 b2 b3 = n ∧ n < size b0)) := by
  have hs := size_le b0
  by_cases h0 : n = 0
  · simp [fullN, h0]
  · rw [Bool.eq_iff_iff]
    simp only [fullN, Bool.not_eq_true', decide_eq_true_eq, decide_eq_false_iff_not]
    by_cases h1 : size b0 ≤ 1
    · have := first_none b0 hb h1
      constructor
      · intro _; omega
      · intro _; exact ⟨h0, .inl (by omega)⟩
    · obtain ⟨e1, e2, e3⟩ := first_size b0 hb (by omega)
      rw [e1, e2, e3]
      unfold len
      repeat' split
      all_goals omega
end Go.Proofs.YtcmjipgigkalcaaDoor.Rn
