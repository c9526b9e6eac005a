import Derived.Lib.DecodeN
import Derived.Test.YtcnagbkdckipnaaGreatDoorRows
import Derived.WalkKit
import Derived.WalkSpells
import Derived.WalkLawsBesides
import Derived.Deep.QuietTactic
import Derived.BigQuiet
import Derived.Shelf.Unicode.DecodeSlow
import Derived.Shelf.Strings.BuilderK
import Derived.Shelf.Utf8.AppendRunePlain
import Derived.Shelf.Utf8.AppendRune
import Derived.Shelf.Unicode.DecodeAny
import Derived.Shelf.Spec.DecodeRune
import Derived.Test.YtcnagbkdckipnaaGreatDoorProg
import Derived.Deep.DeepFit
import Derived.LoopTactic
/-
  Plain mathematics: bytes as a function of their place, how many of them are a character's beginning ('front'), what Go's decoder gives of them ('decodeN', the library's), what Go's FullRune says.
-/
namespace Go.Proofs.YtcnagbkdckipnaaGreatDoor.Rn
open Go.Lib

/-- how many bytes a character has that begins with x; 0: none does -/
def size (x : Nat) : Nat :=
  if x < 128 then 1 else if 194 ≤ x ∧ x ≤ 223 then 2 else if 224 ≤ x ∧ x ≤ 239 then 3 else if 240 ≤ x ∧ x ≤ 244 then 4 else 0
/-- the bounds of the second byte -/
def lo (x : Nat) : Nat := if x = 224 then 160 else if x = 240 then 144 else 128
def hi (x : Nat) : Nat := if x = 237 then 159 else if x = 244 then 143 else 191

/-- how many of n bytes are a character's, or a beginning of one (at most those of one character) -/
def len (n b0 b1 b2 b3 : Nat) : Nat :=
  if n = 0 ∨ size b0 = 0 then 0
  else if size b0 = 1 ∨ n = 1 ∨ b1 < lo b0 ∨ hi b0 < b1 then 1
  else if size b0 = 2 ∨ n = 2 ∨ b2 < 128 ∨ 191 < b2 then 2
  else if size b0 = 3 ∨ n = 3 ∨ b3 < 128 ∨ 191 < b3 then 3
  else 4
def val (b0 b1 b2 b3 : Nat) : Nat :=
  if size b0 = 1 then b0
  else if size b0 = 2 then b0 % 32 * 64 + b1 % 64
  else if size b0 = 3 then b0 % 16 * 4096 + b1 % 64 * 64 + b2 % 64
  else b0 % 8 * 262144 + b1 % 64 * 4096 + b2 % 64 * 64 + b3 % 64

/-- the same of bytes that are told by their place -/
def fk (f : Nat → Nat) (n : Nat) : Nat := len n (f 0) (f 1) (f 2) (f 3)
def fs (f : Nat → Nat) (n : Nat) : Nat := if n = 0 then 0 else size (f 0)
def fv (f : Nat → Nat) : Nat := val (f 0) (f 1) (f 2) (f 3)
def dec (f : Nat → Nat) (n : Nat) : Nat × Nat := decodeN n (f 0) (f 1) (f 2) (f 3)
/-- the bytes from a place on -/
def off (f : Nat → Nat) (a : Nat) : Nat → Nat := fun j => f (a + j)

theorem off_zero (f : Nat → Nat) : off f 0 = f := by funext j; simp [off]

/-- whole: the front is a character -/
def whole (f : Nat → Nat) (n : Nat) : Bool := decide (0 < fs f n ∧ fk f n = fs f n)
/-- waits: the bytes end within a character -/
def waits (f : Nat → Nat) (n : Nat) : Bool := decide (0 < fs f n ∧ fk f n = n ∧ n < fs f n)

theorem size_le (x : Nat) : size x ≤ 4 := by unfold size; repeat' split
                                             all_goals omega
theorem len_le_size (n b0 b1 b2 b3 : Nat) : len n b0 b1 b2 b3 ≤ size b0 := by
  unfold len
  repeat' split
  all_goals have := size_le b0
  all_goals omega
theorem len_le (n b0 b1 b2 b3 : Nat) : len n b0 b1 b2 b3 ≤ n := by
  unfold len
  repeat' split
  all_goals omega
theorem len_pos {n b0 b1 b2 b3 : Nat} (hn : 0 < n) (h : 0 < size b0) : 0 < len n b0 b1 b2 b3 := by
  unfold len
  repeat' split
  all_goals omega
theorem fk_le (f : Nat → Nat) (n : Nat) : fk f n ≤ n := len_le ..
theorem fk_le_fs (f : Nat → Nat) (n : Nat) : fk f n ≤ fs f n := by
  unfold fs
  split
  · have := fk_le f n; omega
  · exact len_le_size ..
theorem fs_le (f : Nat → Nat) (n : Nat) : fs f n ≤ 4 := by
  unfold fs
  split
  · omega
  · exact size_le _
theorem fk_pos (f : Nat → Nat) (n : Nat) (h : 0 < fs f n) : 0 < fk f n := by
  unfold fs at h
  split at h
  · omega
  · exact len_pos (by omega) h

theorem len1 {n b0 b1 b2 b3 : Nat} (e : size b0 = 1) : len n b0 b1 b2 b3 = 1 ↔ 0 < n := by
  unfold len; repeat' split
  all_goals omega
theorem len2 {n b0 b1 b2 b3 : Nat} (e : size b0 = 2) : len n b0 b1 b2 b3 = 2 ↔ 1 < n ∧ lo b0 ≤ b1 ∧ b1 ≤ hi b0 := by
  unfold len; repeat' split
  all_goals omega
theorem len3 {n b0 b1 b2 b3 : Nat} (e : size b0 = 3) : len n b0 b1 b2 b3 = 3 ↔ 2 < n ∧ lo b0 ≤ b1 ∧ b1 ≤ hi b0 ∧ 128 ≤ b2 ∧ b2 ≤ 191 := by
  unfold len; repeat' split
  all_goals omega
theorem len4 {n b0 b1 b2 b3 : Nat} (e : size b0 = 4) : len n b0 b1 b2 b3 = 4 ↔ 3 < n ∧ lo b0 ≤ b1 ∧ b1 ≤ hi b0 ∧ 128 ≤ b2 ∧ b2 ≤ 191 ∧ 128 ≤ b3 ∧ b3 ≤ 191 := by
  unfold len; repeat' split
  all_goals omega
theorem size_cases (x : Nat) : (size x = 1 ∧ x < 128) ∨ (size x = 2 ∧ 194 ≤ x ∧ x ≤ 223 ∧ lo x = 128 ∧ hi x = 191) ∨
    (size x = 3 ∧ 224 ≤ x ∧ x ≤ 239 ∧ ((x = 224 ∧ lo x = 160 ∧ hi x = 191) ∨ (x = 237 ∧ lo x = 128 ∧ hi x = 159) ∨ (x ≠ 224 ∧ x ≠ 237 ∧ lo x = 128 ∧ hi x = 191))) ∨
    (size x = 4 ∧ 240 ≤ x ∧ x ≤ 244 ∧ ((x = 240 ∧ lo x = 144 ∧ hi x = 191) ∨ (x = 244 ∧ lo x = 128 ∧ hi x = 143) ∨ (x ≠ 240 ∧ x ≠ 244 ∧ lo x = 128 ∧ hi x = 191))) ∨
    (size x = 0 ∧ 128 ≤ x ∧ (x < 194 ∨ 244 < x)) := by
  unfold size lo hi
  repeat' split
  all_goals omega

set_option maxHeartbeats 4000000 in
/-- what Go's decoder gives: the front's character, or U+FFFD of one byte -/
theorem dec_eq (n b0 b1 b2 b3 : Nat) (hn : 0 < n) (h1 : b1 < 256) (h2 : b2 < 256) (h3 : b3 < 256) :
    decodeN n b0 b1 b2 b3 = if 0 < size b0 ∧ len n b0 b1 b2 b3 = size b0 then (val b0 b1 b2 b3, size b0) else (65533, 1) := by
  rcases size_cases b0 with ⟨e, c⟩ | ⟨e, c, d, l, h⟩ | ⟨e, c, d, h⟩ | ⟨e, c, d, h⟩ | ⟨e, c, d⟩
  · unfold val; rw [e]; simp only [len1 e, decodeN, if_pos c, if_true]; rw [if_pos (by omega)]
  · unfold val; rw [e]; simp only [len2 e, l, h, decodeN]
    by_cases k : 1 < n ∧ 128 ≤ b1 ∧ b1 ≤ 191
    · rw [if_neg (by omega), if_pos (by omega), if_pos (by omega), if_pos (by omega)]; rfl
    · rw [if_neg (by omega), if_neg (by omega), if_neg (by omega), if_neg (by omega), if_neg (by omega)]
  · unfold val; rw [e]; simp only [len3 e, decodeN]
    by_cases k : 2 < n ∧ lo b0 ≤ b1 ∧ b1 ≤ hi b0 ∧ 128 ≤ b2 ∧ b2 ≤ 191
    · rw [if_neg (by omega), if_neg (by omega), if_pos (by omega), if_pos (by omega), if_pos (by omega)]; rfl
    · rw [if_neg (by omega), if_neg (by omega)]
      by_cases k2 : b0 / 16 = 14 ∧ (1 < n ∧ b1 / 64 = 2) ∧ (2 < n ∧ b2 / 64 = 2)
      · rw [if_pos k2, if_neg (by omega), if_neg (by omega)]
      · rw [if_neg k2, if_neg (by omega), if_neg (by omega)]
  · unfold val; rw [e]; simp only [len4 e, decodeN]
    by_cases k : 3 < n ∧ lo b0 ≤ b1 ∧ b1 ≤ hi b0 ∧ 128 ≤ b2 ∧ b2 ≤ 191 ∧ 128 ≤ b3 ∧ b3 ≤ 191
    · rw [if_neg (by omega), if_neg (by omega), if_neg (by omega), if_pos (by omega), if_pos (by omega), if_pos (by omega)]; rfl
    · rw [if_neg (by omega), if_neg (by omega), if_neg (by omega)]
      by_cases k2 : b0 / 8 = 30 ∧ (1 < n ∧ b1 / 64 = 2) ∧ (2 < n ∧ b2 / 64 = 2) ∧ (3 < n ∧ b3 / 64 = 2)
      · rw [if_pos k2, if_neg (by omega), if_neg (by omega)]
      · rw [if_neg k2, if_neg (by omega)]
  · rw [if_neg (by omega)]
    unfold decodeN
    rw [if_neg (by omega)]
    split
    · rw [if_neg (by omega)]
    · rw [if_neg (by omega)]
      split
      · rw [if_neg (by omega)]
      · rfl

/-- what FullRune says, in the words of its own text -/
def fullN (n b0 b1 b2 : Nat) : Bool :=
  decide (n ≠ 0 ∧ (firstT b0 % 8 ≤ n ∨ (1 < n ∧ (b1 < accLo (firstT b0 / 16) ∨ accHi (firstT b0 / 16) < b1)) ∨ (2 < n ∧ (b2 < 128 ∨ 191 < b2))))
theorem first_size : ∀ x, x < 256 → 1 < size x → firstT x % 8 = size x ∧ accLo (firstT x / 16) = lo x ∧ accHi (firstT x / 16) = hi x := by
  decide +kernel
theorem first_none : ∀ x, x < 256 → size x ≤ 1 → firstT x % 8 ≤ 1 := by
  decide +kernel

/-- FullRune denies just the bytes that end within a character -/
theorem full_eq (n b0 b1 b2 b3 : Nat) (hb : b0 < 256) : fullN n b0 b1 b2 = !decide (n = 0 ∨ (0 < size b0 ∧ len n b0 b1 b2 b3 = n ∧ n < size b0)) := by
  have hs := size_le b0
  by_cases h0 : n = 0
  · simp [fullN, h0]
  · rw [Bool.eq_iff_iff]
    simp only [fullN, Bool.not_eq_true', decide_eq_true_eq, decide_eq_false_iff_not]
    by_cases h1 : size b0 ≤ 1
    · have := first_none b0 hb h1
      constructor
      · intro _; omega
      · intro _; exact ⟨h0, .inl (by omega)⟩
    · obtain ⟨e1, e2, e3⟩ := first_size b0 hb (by omega)
      rw [e1, e2, e3]
      unfold len
      repeat' split
      all_goals omega
end Go.Proofs.YtcnagbkdckipnaaGreatDoor.Rn
/-
  WALKS over unicode/utf8.FullRune: what it says of the bytes of a slice, told by their place; nothing old in memory turns.
-/
namespace Go.Proofs.YtcnagbkdckipnaaGreatDoor
open Go.RowKit Go.Lib

set_option maxHeartbeats 400000 in
theorem isWrong_any (r n : Int) (w : World) :
    Calls Tryz.prog 93 #[.int .i32 r, .int .i64 n] w fun e w' => e = .returned (.bool ((r == 65533) && (n == 1))) ∧ w' = w := by
  by_cases h : r = 65533
  · subst h
    go_enter Tryz.func93, Tryz.ntmps93
    go_wp2
    go_ret
    exact ⟨by simp, rfl⟩
  · have h' : (r == 65533) = false := by simp [h]
    go_enter Tryz.func93, Tryz.ntmps93
    go_wp2
    go_ret
    exact ⟨by rw [h']; rfl, rfl⟩

/-- no bytes: not full -/
theorem full_none (b : Option Addr) (cap : Nat) (w : World) :
    Calls Tryz.prog 91 #[.slice b 0 cap] w fun e w' => e = .returned (.bool false) ∧ Below w.heap.size w w' := by
  go_enter Tryz.func91, Tryz.ntmps91
  go_wp2
  go_ret
  exact ⟨rfl, Below.refl _ _⟩

theorem full_240 (n b0 b off cap : Nat) (w : World) (hn : 0 < n) (hb : b0 < 256)
    (c0 : w.cell? ⟨b, off, none⟩ = some (.int .u8 b0)) (hc : w.cell? ⟨1, b0, none⟩ = some (.int .u8 240)) :
    Calls Tryz.prog 91 #[.slice (some ⟨b, off, none⟩) n cap] w fun e w' => e = .returned (.bool true) ∧ Below w.heap.size w w' := by
  have h0 : ((n : Int) == 0) = false := by simp; omega
  have hz : (0 : Int) < n := by omega
  have h1 : (0 : Int) ≤ n := by omega
  go_enter Tryz.func91, Tryz.ntmps91
  go_wp2
  go_ret
  exact ⟨rfl, Below.refl _ _⟩

theorem full_241 (n b0 b off cap : Nat) (w : World) (hn : 0 < n) (hb : b0 < 256)
    (c0 : w.cell? ⟨b, off, none⟩ = some (.int .u8 b0)) (hc : w.cell? ⟨1, b0, none⟩ = some (.int .u8 241)) :
    Calls Tryz.prog 91 #[.slice (some ⟨b, off, none⟩) n cap] w fun e w' => e = .returned (.bool true) ∧ Below w.heap.size w w' := by
  have h0 : ((n : Int) == 0) = false := by simp; omega
  have hz : (0 : Int) < n := by omega
  have h1 : (1 : Int) ≤ n := by omega
  go_enter Tryz.func91, Tryz.ntmps91
  go_wp2
  go_ret
  exact ⟨rfl, Below.refl _ _⟩

set_option maxHeartbeats 1000000 in
/-- a first byte whose row in utf8.first is 2 -/
theorem full_2 (n b0 b1 b2 b off cap : Nat) (w : World) (hn : 0 < n) (hb : b0 < 256)
    (c0 : w.cell? ⟨b, off, none⟩ = some (.int .u8 b0)) (c1 : 1 < n → w.cell? ⟨b, off + 1, none⟩ = some (.int .u8 b1)) (c2 : 2 < n → w.cell? ⟨b, off + 2, none⟩ = some (.int .u8 b2))
    (hc : w.cell? ⟨1, b0, none⟩ = some (.int .u8 2)) (ha : w.cell? ⟨2, 0, none⟩ = some (.int .u8 128)) (ha' : w.cell? ⟨2, 1, none⟩ = some (.int .u8 191)) :
    Calls Tryz.prog 91 #[.slice (some ⟨b, off, none⟩) n cap] w fun e w' => e = .returned (.bool (decide (2 ≤ n ∨ (1 < n ∧ (b1 < 128 ∨ 191 < b1)) ∨ (2 < n ∧ (b2 < 128 ∨ 191 < b2))))) ∧ Below w.heap.size w w' := by
  have h0 : ((n : Int) == 0) = false := by simp; omega
  have hz : (0 : Int) < n := by omega
  have hbk : b < w.heap.size := block_lt_of_cell c0
  by_cases hs : 2 ≤ n
  · rw [decide_eq_true (Or.inl hs)]
    have h1 : (2 : Int) ≤ n := by omega
    clear c1 c2 ha ha'
    go_enter Tryz.func91, Tryz.ntmps91
    go_wp2
    go_ret
    exact ⟨rfl, Below.refl _ _⟩
  have h1 : ¬ ((2 : Int) ≤ n) := by omega
  by_cases hn1 : n = 1
  · subst hn1
    rw [decide_eq_false (by omega)]
    clear c1 c2
    go_enter Tryz.func91, Tryz.ntmps91
    go_wp2
    go_quiet (fail)
    go_wp2
    go_ret
    exact ⟨rfl, by repeat (first | exact Below.refl _ _ | apply below_drewN | apply Below.drew | exact (Below.refl _ _).alloc (Nat.le_refl _) _)⟩
  exfalso; omega

set_option maxHeartbeats 1000000 in
/-- a first byte whose row in utf8.first is 19 -/
theorem full_19 (n b0 b1 b2 b off cap : Nat) (w : World) (hn : 0 < n) (hb : b0 < 256)
    (c0 : w.cell? ⟨b, off, none⟩ = some (.int .u8 b0)) (c1 : 1 < n → w.cell? ⟨b, off + 1, none⟩ = some (.int .u8 b1)) (c2 : 2 < n → w.cell? ⟨b, off + 2, none⟩ = some (.int .u8 b2))
    (hc : w.cell? ⟨1, b0, none⟩ = some (.int .u8 19)) (ha : w.cell? ⟨2, 2, none⟩ = some (.int .u8 160)) (ha' : w.cell? ⟨2, 3, none⟩ = some (.int .u8 191)) :
    Calls Tryz.prog 91 #[.slice (some ⟨b, off, none⟩) n cap] w fun e w' => e = .returned (.bool (decide (3 ≤ n ∨ (1 < n ∧ (b1 < 160 ∨ 191 < b1)) ∨ (2 < n ∧ (b2 < 128 ∨ 191 < b2))))) ∧ Below w.heap.size w w' := by
  have h0 : ((n : Int) == 0) = false := by simp; omega
  have hz : (0 : Int) < n := by omega
  have hbk : b < w.heap.size := block_lt_of_cell c0
  by_cases hs : 3 ≤ n
  · rw [decide_eq_true (Or.inl hs)]
    have h1 : (3 : Int) ≤ n := by omega
    clear c1 c2 ha ha'
    go_enter Tryz.func91, Tryz.ntmps91
    go_wp2
    go_ret
    exact ⟨rfl, Below.refl _ _⟩
  have h1 : ¬ ((3 : Int) ≤ n) := by omega
  by_cases hn1 : n = 1
  · subst hn1
    rw [decide_eq_false (by omega)]
    clear c1 c2
    go_enter Tryz.func91, Tryz.ntmps91
    go_wp2
    go_quiet (fail)
    go_wp2
    go_ret
    exact ⟨rfl, by repeat (first | exact Below.refl _ _ | apply below_drewN | apply Below.drew | exact (Below.refl _ _).alloc (Nat.le_refl _) _)⟩
  have d1 := c1 (by omega)
  have g1 : (1 : Int) < n := by omega
  by_cases q1 : b1 < 160
  · rw [decide_eq_true (by omega)]
    have e1 : decide ((b1 : Int) < 160) = true := by simp; omega
    clear c1 c2
    go_enter Tryz.func91, Tryz.ntmps91
    go_wp2
    go_quiet (fail)
    go_wp2
    go_ret
    exact ⟨rfl, by repeat (first | exact Below.refl _ _ | apply below_drewN | apply Below.drew | exact (Below.refl _ _).alloc (Nat.le_refl _) _)⟩
  have e1 : decide ((b1 : Int) < 160) = false := by simp; omega
  by_cases q2 : 191 < b1
  · rw [decide_eq_true (by omega)]
    have e2 : decide (191 < (b1 : Int)) = true := by simp; omega
    clear c1 c2
    go_enter Tryz.func91, Tryz.ntmps91
    go_wp2
    go_quiet (fail)
    go_wp2
    go_ret
    exact ⟨rfl, by repeat (first | exact Below.refl _ _ | apply below_drewN | apply Below.drew | exact (Below.refl _ _).alloc (Nat.le_refl _) _)⟩
  have e2 : decide (191 < (b1 : Int)) = false := by simp; omega
  by_cases hn2 : n = 2
  · subst hn2
    rw [decide_eq_false (by omega)]
    clear c1 c2
    go_enter Tryz.func91, Tryz.ntmps91
    go_wp2
    go_quiet (fail)
    go_wp2
    go_ret
    exact ⟨rfl, by repeat (first | exact Below.refl _ _ | apply below_drewN | apply Below.drew | exact (Below.refl _ _).alloc (Nat.le_refl _) _)⟩
  exfalso; omega

set_option maxHeartbeats 1000000 in
/-- a first byte whose row in utf8.first is 3 -/
theorem full_3 (n b0 b1 b2 b off cap : Nat) (w : World) (hn : 0 < n) (hb : b0 < 256)
    (c0 : w.cell? ⟨b, off, none⟩ = some (.int .u8 b0)) (c1 : 1 < n → w.cell? ⟨b, off + 1, none⟩ = some (.int .u8 b1)) (c2 : 2 < n → w.cell? ⟨b, off + 2, none⟩ = some (.int .u8 b2))
    (hc : w.cell? ⟨1, b0, none⟩ = some (.int .u8 3)) (ha : w.cell? ⟨2, 0, none⟩ = some (.int .u8 128)) (ha' : w.cell? ⟨2, 1, none⟩ = some (.int .u8 191)) :
    Calls Tryz.prog 91 #[.slice (some ⟨b, off, none⟩) n cap] w fun e w' => e = .returned (.bool (decide (3 ≤ n ∨ (1 < n ∧ (b1 < 128 ∨ 191 < b1)) ∨ (2 < n ∧ (b2 < 128 ∨ 191 < b2))))) ∧ Below w.heap.size w w' := by
  have h0 : ((n : Int) == 0) = false := by simp; omega
  have hz : (0 : Int) < n := by omega
  have hbk : b < w.heap.size := block_lt_of_cell c0
  by_cases hs : 3 ≤ n
  · rw [decide_eq_true (Or.inl hs)]
    have h1 : (3 : Int) ≤ n := by omega
    clear c1 c2 ha ha'
    go_enter Tryz.func91, Tryz.ntmps91
    go_wp2
    go_ret
    exact ⟨rfl, Below.refl _ _⟩
  have h1 : ¬ ((3 : Int) ≤ n) := by omega
  by_cases hn1 : n = 1
  · subst hn1
    rw [decide_eq_false (by omega)]
    clear c1 c2
    go_enter Tryz.func91, Tryz.ntmps91
    go_wp2
    go_quiet (fail)
    go_wp2
    go_ret
    exact ⟨rfl, by repeat (first | exact Below.refl _ _ | apply below_drewN | apply Below.drew | exact (Below.refl _ _).alloc (Nat.le_refl _) _)⟩
  have d1 := c1 (by omega)
  have g1 : (1 : Int) < n := by omega
  by_cases q1 : b1 < 128
  · rw [decide_eq_true (by omega)]
    have e1 : decide ((b1 : Int) < 128) = true := by simp; omega
    clear c1 c2
    go_enter Tryz.func91, Tryz.ntmps91
    go_wp2
    go_quiet (fail)
    go_wp2
    go_ret
    exact ⟨rfl, by repeat (first | exact Below.refl _ _ | apply below_drewN | apply Below.drew | exact (Below.refl _ _).alloc (Nat.le_refl _) _)⟩
  have e1 : decide ((b1 : Int) < 128) = false := by simp; omega
  by_cases q2 : 191 < b1
  · rw [decide_eq_true (by omega)]
    have e2 : decide (191 < (b1 : Int)) = true := by simp; omega
    clear c1 c2
    go_enter Tryz.func91, Tryz.ntmps91
    go_wp2
    go_quiet (fail)
    go_wp2
    go_ret
    exact ⟨rfl, by repeat (first | exact Below.refl _ _ | apply below_drewN | apply Below.drew | exact (Below.refl _ _).alloc (Nat.le_refl _) _)⟩
  have e2 : decide (191 < (b1 : Int)) = false := by simp; omega
  by_cases hn2 : n = 2
  · subst hn2
    rw [decide_eq_false (by omega)]
    clear c1 c2
    go_enter Tryz.func91, Tryz.ntmps91
    go_wp2
    go_quiet (fail)
    go_wp2
    go_ret
    exact ⟨rfl, by repeat (first | exact Below.refl _ _ | apply below_drewN | apply Below.drew | exact (Below.refl _ _).alloc (Nat.le_refl _) _)⟩
  exfalso; omega

set_option maxHeartbeats 1000000 in
/-- a first byte whose row in utf8.first is 35 -/
theorem full_35 (n b0 b1 b2 b off cap : Nat) (w : World) (hn : 0 < n) (hb : b0 < 256)
    (c0 : w.cell? ⟨b, off, none⟩ = some (.int .u8 b0)) (c1 : 1 < n → w.cell? ⟨b, off + 1, none⟩ = some (.int .u8 b1)) (c2 : 2 < n → w.cell? ⟨b, off + 2, none⟩ = some (.int .u8 b2))
    (hc : w.cell? ⟨1, b0, none⟩ = some (.int .u8 35)) (ha : w.cell? ⟨2, 4, none⟩ = some (.int .u8 128)) (ha' : w.cell? ⟨2, 5, none⟩ = some (.int .u8 159)) :
    Calls Tryz.prog 91 #[.slice (some ⟨b, off, none⟩) n cap] w fun e w' => e = .returned (.bool (decide (3 ≤ n ∨ (1 < n ∧ (b1 < 128 ∨ 159 < b1)) ∨ (2 < n ∧ (b2 < 128 ∨ 191 < b2))))) ∧ Below w.heap.size w w' := by
  have h0 : ((n : Int) == 0) = false := by simp; omega
  have hz : (0 : Int) < n := by omega
  have hbk : b < w.heap.size := block_lt_of_cell c0
  by_cases hs : 3 ≤ n
  · rw [decide_eq_true (Or.inl hs)]
    have h1 : (3 : Int) ≤ n := by omega
    clear c1 c2 ha ha'
    go_enter Tryz.func91, Tryz.ntmps91
    go_wp2
    go_ret
    exact ⟨rfl, Below.refl _ _⟩
  have h1 : ¬ ((3 : Int) ≤ n) := by omega
  by_cases hn1 : n = 1
  · subst hn1
    rw [decide_eq_false (by omega)]
    clear c1 c2
    go_enter Tryz.func91, Tryz.ntmps91
    go_wp2
    go_quiet (fail)
    go_wp2
    go_ret
    exact ⟨rfl, by repeat (first | exact Below.refl _ _ | apply below_drewN | apply Below.drew | exact (Below.refl _ _).alloc (Nat.le_refl _) _)⟩
  have d1 := c1 (by omega)
  have g1 : (1 : Int) < n := by omega
  by_cases q1 : b1 < 128
  · rw [decide_eq_true (by omega)]
    have e1 : decide ((b1 : Int) < 128) = true := by simp; omega
    clear c1 c2
    go_enter Tryz.func91, Tryz.ntmps91
    go_wp2
    go_quiet (fail)
    go_wp2
    go_ret
    exact ⟨rfl, by repeat (first | exact Below.refl _ _ | apply below_drewN | apply Below.drew | exact (Below.refl _ _).alloc (Nat.le_refl _) _)⟩
  have e1 : decide ((b1 : Int) < 128) = false := by simp; omega
  by_cases q2 : 159 < b1
  · rw [decide_eq_true (by omega)]
    have e2 : decide (159 < (b1 : Int)) = true := by simp; omega
    clear c1 c2
    go_enter Tryz.func91, Tryz.ntmps91
    go_wp2
    go_quiet (fail)
    go_wp2
    go_ret
    exact ⟨rfl, by repeat (first | exact Below.refl _ _ | apply below_drewN | apply Below.drew | exact (Below.refl _ _).alloc (Nat.le_refl _) _)⟩
  have e2 : decide (159 < (b1 : Int)) = false := by simp; omega
  by_cases hn2 : n = 2
  · subst hn2
    rw [decide_eq_false (by omega)]
    clear c1 c2
    go_enter Tryz.func91, Tryz.ntmps91
    go_wp2
    go_quiet (fail)
    go_wp2
    go_ret
    exact ⟨rfl, by repeat (first | exact Below.refl _ _ | apply below_drewN | apply Below.drew | exact (Below.refl _ _).alloc (Nat.le_refl _) _)⟩
  exfalso; omega

set_option maxHeartbeats 1000000 in
/-- a first byte whose row in utf8.first is 52 -/
theorem full_52 (n b0 b1 b2 b off cap : Nat) (w : World) (hn : 0 < n) (hb : b0 < 256)
    (c0 : w.cell? ⟨b, off, none⟩ = some (.int .u8 b0)) (c1 : 1 < n → w.cell? ⟨b, off + 1, none⟩ = some (.int .u8 b1)) (c2 : 2 < n → w.cell? ⟨b, off + 2, none⟩ = some (.int .u8 b2))
    (hc : w.cell? ⟨1, b0, none⟩ = some (.int .u8 52)) (ha : w.cell? ⟨2, 6, none⟩ = some (.int .u8 144)) (ha' : w.cell? ⟨2, 7, none⟩ = some (.int .u8 191)) :
    Calls Tryz.prog 91 #[.slice (some ⟨b, off, none⟩) n cap] w fun e w' => e = .returned (.bool (decide (4 ≤ n ∨ (1 < n ∧ (b1 < 144 ∨ 191 < b1)) ∨ (2 < n ∧ (b2 < 128 ∨ 191 < b2))))) ∧ Below w.heap.size w w' := by
  have h0 : ((n : Int) == 0) = false := by simp; omega
  have hz : (0 : Int) < n := by omega
  have hbk : b < w.heap.size := block_lt_of_cell c0
  by_cases hs : 4 ≤ n
  · rw [decide_eq_true (Or.inl hs)]
    have h1 : (4 : Int) ≤ n := by omega
    clear c1 c2 ha ha'
    go_enter Tryz.func91, Tryz.ntmps91
    go_wp2
    go_ret
    exact ⟨rfl, Below.refl _ _⟩
  have h1 : ¬ ((4 : Int) ≤ n) := by omega
  by_cases hn1 : n = 1
  · subst hn1
    rw [decide_eq_false (by omega)]
    clear c1 c2
    go_enter Tryz.func91, Tryz.ntmps91
    go_wp2
    go_quiet (fail)
    go_wp2
    go_ret
    exact ⟨rfl, by repeat (first | exact Below.refl _ _ | apply below_drewN | apply Below.drew | exact (Below.refl _ _).alloc (Nat.le_refl _) _)⟩
  have d1 := c1 (by omega)
  have g1 : (1 : Int) < n := by omega
  by_cases q1 : b1 < 144
  · rw [decide_eq_true (by omega)]
    have e1 : decide ((b1 : Int) < 144) = true := by simp; omega
    clear c1 c2
    go_enter Tryz.func91, Tryz.ntmps91
    go_wp2
    go_quiet (fail)
    go_wp2
    go_ret
    exact ⟨rfl, by repeat (first | exact Below.refl _ _ | apply below_drewN | apply Below.drew | exact (Below.refl _ _).alloc (Nat.le_refl _) _)⟩
  have e1 : decide ((b1 : Int) < 144) = false := by simp; omega
  by_cases q2 : 191 < b1
  · rw [decide_eq_true (by omega)]
    have e2 : decide (191 < (b1 : Int)) = true := by simp; omega
    clear c1 c2
    go_enter Tryz.func91, Tryz.ntmps91
    go_wp2
    go_quiet (fail)
    go_wp2
    go_ret
    exact ⟨rfl, by repeat (first | exact Below.refl _ _ | apply below_drewN | apply Below.drew | exact (Below.refl _ _).alloc (Nat.le_refl _) _)⟩
  have e2 : decide (191 < (b1 : Int)) = false := by simp; omega
  by_cases hn2 : n = 2
  · subst hn2
    rw [decide_eq_false (by omega)]
    clear c1 c2
    go_enter Tryz.func91, Tryz.ntmps91
    go_wp2
    go_quiet (fail)
    go_wp2
    go_ret
    exact ⟨rfl, by repeat (first | exact Below.refl _ _ | apply below_drewN | apply Below.drew | exact (Below.refl _ _).alloc (Nat.le_refl _) _)⟩
  have d2 := c2 (by omega)
  have g2 : (2 : Int) < n := by omega
  by_cases q3 : b2 < 128
  · rw [decide_eq_true (by omega)]
    have e3 : decide ((b2 : Int) < 128) = true := by simp; omega
    clear c1 c2
    go_enter Tryz.func91, Tryz.ntmps91
    go_wp2
    go_quiet (fail)
    go_wp2
    go_ret
    exact ⟨rfl, by repeat (first | exact Below.refl _ _ | apply below_drewN | apply Below.drew | exact (Below.refl _ _).alloc (Nat.le_refl _) _)⟩
  have e3 : decide ((b2 : Int) < 128) = false := by simp; omega
  by_cases q4 : 191 < b2
  · rw [decide_eq_true (by omega)]
    have e4 : decide (191 < (b2 : Int)) = true := by simp; omega
    clear c1 c2
    go_enter Tryz.func91, Tryz.ntmps91
    go_wp2
    go_quiet (fail)
    go_wp2
    go_ret
    exact ⟨rfl, by repeat (first | exact Below.refl _ _ | apply below_drewN | apply Below.drew | exact (Below.refl _ _).alloc (Nat.le_refl _) _)⟩
  have e4 : decide (191 < (b2 : Int)) = false := by simp; omega
  rw [decide_eq_false (by omega)]
  clear c1 c2
  go_enter Tryz.func91, Tryz.ntmps91
  go_wp2
  go_quiet (fail)
  go_wp2
  go_ret
  exact ⟨rfl, by repeat (first | exact Below.refl _ _ | apply below_drewN | apply Below.drew | exact (Below.refl _ _).alloc (Nat.le_refl _) _)⟩

set_option maxHeartbeats 1000000 in
/-- a first byte whose row in utf8.first is 4 -/
theorem full_4 (n b0 b1 b2 b off cap : Nat) (w : World) (hn : 0 < n) (hb : b0 < 256)
    (c0 : w.cell? ⟨b, off, none⟩ = some (.int .u8 b0)) (c1 : 1 < n → w.cell? ⟨b, off + 1, none⟩ = some (.int .u8 b1)) (c2 : 2 < n → w.cell? ⟨b, off + 2, none⟩ = some (.int .u8 b2))
    (hc : w.cell? ⟨1, b0, none⟩ = some (.int .u8 4)) (ha : w.cell? ⟨2, 0, none⟩ = some (.int .u8 128)) (ha' : w.cell? ⟨2, 1, none⟩ = some (.int .u8 191)) :
    Calls Tryz.prog 91 #[.slice (some ⟨b, off, none⟩) n cap] w fun e w' => e = .returned (.bool (decide (4 ≤ n ∨ (1 < n ∧ (b1 < 128 ∨ 191 < b1)) ∨ (2 < n ∧ (b2 < 128 ∨ 191 < b2))))) ∧ Below w.heap.size w w' := by
  have h0 : ((n : Int) == 0) = false := by simp; omega
  have hz : (0 : Int) < n := by omega
  have hbk : b < w.heap.size := block_lt_of_cell c0
  by_cases hs : 4 ≤ n
  · rw [decide_eq_true (Or.inl hs)]
    have h1 : (4 : Int) ≤ n := by omega
    clear c1 c2 ha ha'
    go_enter Tryz.func91, Tryz.ntmps91
    go_wp2
    go_ret
    exact ⟨rfl, Below.refl _ _⟩
  have h1 : ¬ ((4 : Int) ≤ n) := by omega
  by_cases hn1 : n = 1
  · subst hn1
    rw [decide_eq_false (by omega)]
    clear c1 c2
    go_enter Tryz.func91, Tryz.ntmps91
    go_wp2
    go_quiet (fail)
    go_wp2
    go_ret
    exact ⟨rfl, by repeat (first | exact Below.refl _ _ | apply below_drewN | apply Below.drew | exact (Below.refl _ _).alloc (Nat.le_refl _) _)⟩
  have d1 := c1 (by omega)
  have g1 : (1 : Int) < n := by omega
  by_cases q1 : b1 < 128
  · rw [decide_eq_true (by omega)]
    have e1 : decide ((b1 : Int) < 128) = true := by simp; omega
    clear c1 c2
    go_enter Tryz.func91, Tryz.ntmps91
    go_wp2
    go_quiet (fail)
    go_wp2
    go_ret
    exact ⟨rfl, by repeat (first | exact Below.refl _ _ | apply below_drewN | apply Below.drew | exact (Below.refl _ _).alloc (Nat.le_refl _) _)⟩
  have e1 : decide ((b1 : Int) < 128) = false := by simp; omega
  by_cases q2 : 191 < b1
  · rw [decide_eq_true (by omega)]
    have e2 : decide (191 < (b1 : Int)) = true := by simp; omega
    clear c1 c2
    go_enter Tryz.func91, Tryz.ntmps91
    go_wp2
    go_quiet (fail)
    go_wp2
    go_ret
    exact ⟨rfl, by repeat (first | exact Below.refl _ _ | apply below_drewN | apply Below.drew | exact (Below.refl _ _).alloc (Nat.le_refl _) _)⟩
  have e2 : decide (191 < (b1 : Int)) = false := by simp; omega
  by_cases hn2 : n = 2
  · subst hn2
    rw [decide_eq_false (by omega)]
    clear c1 c2
    go_enter Tryz.func91, Tryz.ntmps91
    go_wp2
    go_quiet (fail)
    go_wp2
    go_ret
    exact ⟨rfl, by repeat (first | exact Below.refl _ _ | apply below_drewN | apply Below.drew | exact (Below.refl _ _).alloc (Nat.le_refl _) _)⟩
  have d2 := c2 (by omega)
  have g2 : (2 : Int) < n := by omega
  by_cases q3 : b2 < 128
  · rw [decide_eq_true (by omega)]
    have e3 : decide ((b2 : Int) < 128) = true := by simp; omega
    clear c1 c2
    go_enter Tryz.func91, Tryz.ntmps91
    go_wp2
    go_quiet (fail)
    go_wp2
    go_ret
    exact ⟨rfl, by repeat (first | exact Below.refl _ _ | apply below_drewN | apply Below.drew | exact (Below.refl _ _).alloc (Nat.le_refl _) _)⟩
  have e3 : decide ((b2 : Int) < 128) = false := by simp; omega
  by_cases q4 : 191 < b2
  · rw [decide_eq_true (by omega)]
    have e4 : decide (191 < (b2 : Int)) = true := by simp; omega
    clear c1 c2
    go_enter Tryz.func91, Tryz.ntmps91
    go_wp2
    go_quiet (fail)
    go_wp2
    go_ret
    exact ⟨rfl, by repeat (first | exact Below.refl _ _ | apply below_drewN | apply Below.drew | exact (Below.refl _ _).alloc (Nat.le_refl _) _)⟩
  have e4 : decide (191 < (b2 : Int)) = false := by simp; omega
  rw [decide_eq_false (by omega)]
  clear c1 c2
  go_enter Tryz.func91, Tryz.ntmps91
  go_wp2
  go_quiet (fail)
  go_wp2
  go_ret
  exact ⟨rfl, by repeat (first | exact Below.refl _ _ | apply below_drewN | apply Below.drew | exact (Below.refl _ _).alloc (Nat.le_refl _) _)⟩

set_option maxHeartbeats 1000000 in
/-- a first byte whose row in utf8.first is 68 -/
theorem full_68 (n b0 b1 b2 b off cap : Nat) (w : World) (hn : 0 < n) (hb : b0 < 256)
    (c0 : w.cell? ⟨b, off, none⟩ = some (.int .u8 b0)) (c1 : 1 < n → w.cell? ⟨b, off + 1, none⟩ = some (.int .u8 b1)) (c2 : 2 < n → w.cell? ⟨b, off + 2, none⟩ = some (.int .u8 b2))
    (hc : w.cell? ⟨1, b0, none⟩ = some (.int .u8 68)) (ha : w.cell? ⟨2, 8, none⟩ = some (.int .u8 128)) (ha' : w.cell? ⟨2, 9, none⟩ = some (.int .u8 143)) :
    Calls Tryz.prog 91 #[.slice (some ⟨b, off, none⟩) n cap] w fun e w' => e = .returned (.bool (decide (4 ≤ n ∨ (1 < n ∧ (b1 < 128 ∨ 143 < b1)) ∨ (2 < n ∧ (b2 < 128 ∨ 191 < b2))))) ∧ Below w.heap.size w w' := by
  have h0 : ((n : Int) == 0) = false := by simp; omega
  have hz : (0 : Int) < n := by omega
  have hbk : b < w.heap.size := block_lt_of_cell c0
  by_cases hs : 4 ≤ n
  · rw [decide_eq_true (Or.inl hs)]
    have h1 : (4 : Int) ≤ n := by omega
    clear c1 c2 ha ha'
    go_enter Tryz.func91, Tryz.ntmps91
    go_wp2
    go_ret
    exact ⟨rfl, Below.refl _ _⟩
  have h1 : ¬ ((4 : Int) ≤ n) := by omega
  by_cases hn1 : n = 1
  · subst hn1
    rw [decide_eq_false (by omega)]
    clear c1 c2
    go_enter Tryz.func91, Tryz.ntmps91
    go_wp2
    go_quiet (fail)
    go_wp2
    go_ret
    exact ⟨rfl, by repeat (first | exact Below.refl _ _ | apply below_drewN | apply Below.drew | exact (Below.refl _ _).alloc (Nat.le_refl _) _)⟩
  have d1 := c1 (by omega)
  have g1 : (1 : Int) < n := by omega
  by_cases q1 : b1 < 128
  · rw [decide_eq_true (by omega)]
    have e1 : decide ((b1 : Int) < 128) = true := by simp; omega
    clear c1 c2
    go_enter Tryz.func91, Tryz.ntmps91
    go_wp2
    go_quiet (fail)
    go_wp2
    go_ret
    exact ⟨rfl, by repeat (first | exact Below.refl _ _ | apply below_drewN | apply Below.drew | exact (Below.refl _ _).alloc (Nat.le_refl _) _)⟩
  have e1 : decide ((b1 : Int) < 128) = false := by simp; omega
  by_cases q2 : 143 < b1
  · rw [decide_eq_true (by omega)]
    have e2 : decide (143 < (b1 : Int)) = true := by simp; omega
    clear c1 c2
    go_enter Tryz.func91, Tryz.ntmps91
    go_wp2
    go_quiet (fail)
    go_wp2
    go_ret
    exact ⟨rfl, by repeat (first | exact Below.refl _ _ | apply below_drewN | apply Below.drew | exact (Below.refl _ _).alloc (Nat.le_refl _) _)⟩
  have e2 : decide (143 < (b1 : Int)) = false := by simp; omega
  by_cases hn2 : n = 2
  · subst hn2
    rw [decide_eq_false (by omega)]
    clear c1 c2
    go_enter Tryz.func91, Tryz.ntmps91
    go_wp2
    go_quiet (fail)
    go_wp2
    go_ret
    exact ⟨rfl, by repeat (first | exact Below.refl _ _ | apply below_drewN | apply Below.drew | exact (Below.refl _ _).alloc (Nat.le_refl _) _)⟩
  have d2 := c2 (by omega)
  have g2 : (2 : Int) < n := by omega
  by_cases q3 : b2 < 128
  · rw [decide_eq_true (by omega)]
    have e3 : decide ((b2 : Int) < 128) = true := by simp; omega
    clear c1 c2
    go_enter Tryz.func91, Tryz.ntmps91
    go_wp2
    go_quiet (fail)
    go_wp2
    go_ret
    exact ⟨rfl, by repeat (first | exact Below.refl _ _ | apply below_drewN | apply Below.drew | exact (Below.refl _ _).alloc (Nat.le_refl _) _)⟩
  have e3 : decide ((b2 : Int) < 128) = false := by simp; omega
  by_cases q4 : 191 < b2
  · rw [decide_eq_true (by omega)]
    have e4 : decide (191 < (b2 : Int)) = true := by simp; omega
    clear c1 c2
    go_enter Tryz.func91, Tryz.ntmps91
    go_wp2
    go_quiet (fail)
    go_wp2
    go_ret
    exact ⟨rfl, by repeat (first | exact Below.refl _ _ | apply below_drewN | apply Below.drew | exact (Below.refl _ _).alloc (Nat.le_refl _) _)⟩
  have e4 : decide (191 < (b2 : Int)) = false := by simp; omega
  rw [decide_eq_false (by omega)]
  clear c1 c2
  go_enter Tryz.func91, Tryz.ntmps91
  go_wp2
  go_quiet (fail)
  go_wp2
  go_ret
  exact ⟨rfl, by repeat (first | exact Below.refl _ _ | apply below_drewN | apply Below.drew | exact (Below.refl _ _).alloc (Nat.le_refl _) _)⟩

/-- FullRune AT EVERY SLICE OF BYTES THAT IS NOT nil -/
theorem full_any (f : Nat → Nat) (n b off cap : Nat) (w : World) (hT : Lib.Utf8Tabs 1 2 w) (hf : ∀ j, f j < 256)
    (hp : ∀ j, j < n → w.cell? ⟨b, off + j, none⟩ = some (.int .u8 (f j))) :
    Calls Tryz.prog 91 #[.slice (some ⟨b, off, none⟩) n cap] w fun e w' => e = .returned (.bool (Rn.fullN n (f 0) (f 1) (f 2))) ∧ Below w.heap.size w w' := by
  by_cases h0 : n = 0
  · subst h0
    exact full_none _ _ _
  have e : Rn.fullN n (f 0) (f 1) (f 2) = decide (firstT (f 0) % 8 ≤ n ∨ (1 < n ∧ (f 1 < accLo (firstT (f 0) / 16) ∨ accHi (firstT (f 0) / 16) < f 1)) ∨ (2 < n ∧ (f 2 < 128 ∨ 191 < f 2))) := by
    simp [Rn.fullN, h0]
  rw [e]
  have c0 : w.cell? ⟨b, off, none⟩ = some (.int .u8 (f 0)) := hp 0 (by omega)
  have hc := hT.1 (f 0) (hf 0)
  rcases Lib.firstT_cases (f 0) with hX | hX | hX | hX | hX | hX | hX | hX | hX
  · rw [hX] at hc ⊢
    rw [decide_eq_true (Or.inl (by omega))]
    exact full_240 n (f 0) b off cap w (by omega) (hf 0) c0 hc
  · rw [hX] at hc ⊢
    rw [decide_eq_true (Or.inl (by omega))]
    exact full_241 n (f 0) b off cap w (by omega) (hf 0) c0 hc
  · rw [hX] at hc ⊢
    have ha := (hT.2 0 (by omega)).1
    have ha' := (hT.2 0 (by omega)).2
    exact full_2 n (f 0) (f 1) (f 2) b off cap w (by omega) (hf 0) c0 (hp 1) (hp 2) hc ha ha'
  · rw [hX] at hc ⊢
    have ha := (hT.2 1 (by omega)).1
    have ha' := (hT.2 1 (by omega)).2
    exact full_19 n (f 0) (f 1) (f 2) b off cap w (by omega) (hf 0) c0 (hp 1) (hp 2) hc ha ha'
  · rw [hX] at hc ⊢
    have ha := (hT.2 0 (by omega)).1
    have ha' := (hT.2 0 (by omega)).2
    exact full_3 n (f 0) (f 1) (f 2) b off cap w (by omega) (hf 0) c0 (hp 1) (hp 2) hc ha ha'
  · rw [hX] at hc ⊢
    have ha := (hT.2 2 (by omega)).1
    have ha' := (hT.2 2 (by omega)).2
    exact full_35 n (f 0) (f 1) (f 2) b off cap w (by omega) (hf 0) c0 (hp 1) (hp 2) hc ha ha'
  · rw [hX] at hc ⊢
    have ha := (hT.2 3 (by omega)).1
    have ha' := (hT.2 3 (by omega)).2
    exact full_52 n (f 0) (f 1) (f 2) b off cap w (by omega) (hf 0) c0 (hp 1) (hp 2) hc ha ha'
  · rw [hX] at hc ⊢
    have ha := (hT.2 0 (by omega)).1
    have ha' := (hT.2 0 (by omega)).2
    exact full_4 n (f 0) (f 1) (f 2) b off cap w (by omega) (hf 0) c0 (hp 1) (hp 2) hc ha ha'
  · rw [hX] at hc ⊢
    have ha := (hT.2 4 (by omega)).1
    have ha' := (hT.2 4 (by omega)).2
    exact full_68 n (f 0) (f 1) (f 2) b off cap w (by omega) (hf 0) c0 (hp 1) (hp 2) hc ha ha'
end Go.Proofs.YtcnagbkdckipnaaGreatDoor
/-
  Contracts of the kit's shelf, laid at this seat's program in plain words (by the kit's lay-plain.mjs).
-/
namespace Go.Proofs
open Go.Shelf
def Tryz.lays169_ren : Go.Shelf.Ren := ⟨fun | 169 => 55 | n => n, fun | 70 => 113 | 9 => 9 | 0 => 0 | 72 => 115 | 37 => 22 | 127 => 165 | 3 => 3 | 5 => 5 | n => n, fun | n => n⟩
theorem Tryz.lays169 : Go.Proofs.Lays.n169 Tryz.prog Tryz.lays169_ren := {
  mixed := by kernel_rfl
  f169 := Tryz.func55.trans (congrArg some (by kernel_rfl))
  t0 := Tryz.underlying0
  a0 := Tryz.isAgg0
  z0 := Tryz.sizeOf0
  v0 := Tryz.zeroValue0
  t3 := Tryz.underlying3
  a3 := Tryz.isAgg3
  z3 := Tryz.sizeOf3
  v3 := Tryz.zeroValue3
  t9 := Tryz.underlying9
  a9 := Tryz.isAgg9
  z9 := Tryz.sizeOf9
  v9 := Tryz.zeroValue9
  t37 := Tryz.underlying22
  a37 := Tryz.isAgg22
  z37 := Tryz.sizeOf22
  v37 := Tryz.zeroValue22
  t70 := Tryz.underlying113
  a70 := Tryz.isAgg113
  z70 := Tryz.sizeOf113
  v70 := Tryz.zeroValue113
  t72 := Tryz.underlying115
  a72 := Tryz.isAgg115
  z72 := Tryz.sizeOf115
  v72 := Tryz.zeroValue115
  t127 := Tryz.underlying165
  a127 := Tryz.isAgg165
  z127 := Tryz.sizeOf165
  v127 := Tryz.zeroValue165 }
theorem Tryz.Builder_Extra_169 : Builder.Extra Tryz.prog Tryz.lays169_ren := {
  sizeBuilder := by kernel_rfl
  liesBuilder := by kernel_rfl
  t5 := Tryz.underlying5
  a5 := Tryz.isAgg5
  z5 := Tryz.sizeOf5
  v5 := Tryz.zeroValue5
  infoByte := by kernel_rfl
  cellsByte := by kernel_rfl
  sizeByte := by kernel_rfl
  neB5 := by decide }
def Tryz.lays7n32_ren : Go.Shelf.Ren := ⟨fun | 32 => 92 | 49 => 118 | n => n, fun | 30 => 22 | 21 => 21 | 3 => 3 | 0 => 0 | 5 => 5 | 4 => 4 | 33 => 183 | 66 => 141 | 25 => 145 | 69 => 144 | 68 => 143 | n => n, fun | 2 => 1 | 3 => 2 | n => n⟩
theorem Tryz.lays7n32 : Go.Proofs.Lays7.n32 Tryz.prog Tryz.lays7n32_ren := {
  mixed := by kernel_rfl
  f32 := Tryz.func92.trans (congrArg some (by kernel_rfl))
  f49 := Tryz.func118.trans (congrArg some (by kernel_rfl))
  t0 := Tryz.underlying0
  a0 := Tryz.isAgg0
  z0 := Tryz.sizeOf0
  v0 := Tryz.zeroValue0
  i0 := by kernel_rfl
  t3 := Tryz.underlying3
  a3 := Tryz.isAgg3
  z3 := Tryz.sizeOf3
  v3 := Tryz.zeroValue3
  i3 := by kernel_rfl
  t4 := Tryz.underlying4
  a4 := Tryz.isAgg4
  z4 := Tryz.sizeOf4
  v4 := Tryz.zeroValue4
  i4 := by kernel_rfl
  t5 := Tryz.underlying5
  a5 := Tryz.isAgg5
  z5 := Tryz.sizeOf5
  v5 := Tryz.zeroValue5
  i5 := by kernel_rfl
  t21 := Tryz.underlying21
  a21 := Tryz.isAgg21
  z21 := Tryz.sizeOf21
  v21 := Tryz.zeroValue21
  i21 := by kernel_rfl
  t25 := Tryz.underlying145
  a25 := Tryz.isAgg145
  z25 := Tryz.sizeOf145
  v25 := Tryz.zeroValue145
  i25 := by kernel_rfl
  t30 := Tryz.underlying22
  a30 := Tryz.isAgg22
  z30 := Tryz.sizeOf22
  v30 := Tryz.zeroValue22
  i30 := by kernel_rfl
  t33 := Tryz.underlying183
  a33 := Tryz.isAgg183
  z33 := Tryz.sizeOf183
  v33 := Tryz.zeroValue183
  i33 := by kernel_rfl
  t66 := Tryz.underlying141
  a66 := Tryz.isAgg141
  z66 := Tryz.sizeOf141
  t68 := Tryz.underlying143
  a68 := Tryz.isAgg143
  z68 := Tryz.sizeOf143
  v68 := Tryz.zeroValue143
  i68 := by kernel_rfl
  t69 := Tryz.underlying144
  a69 := Tryz.isAgg144
  z69 := Tryz.sizeOf144
  v69 := Tryz.zeroValue144
  i69 := by kernel_rfl
  g2 := by kernel_rfl
  g3 := by kernel_rfl }
open Go.RowKit in
theorem Tryz.Builder_String_any_k (B b : Nat) (l : List UInt8) (w : World) (h : Lib.IsBuilderF 115 5 B b (Lib.byteCells l) w) (hBw : B ≤ w.heap.size) :
    Calls Tryz.prog 55 #[.pointer (some ⟨b, 0, none⟩)] w fun e w' => e = .returned (.string ⟨l.toArray⟩) ∧ (Lib.IsBuilderF 115 5 B b (Lib.byteCells l) w' ∧ Below B w w' ∧ Lib.OthersKept 5 (some b) w w') := Any.Builder_String_any_k Tryz.lays169 Tryz.Builder_Extra_169 B b l w h hBw
open Go.RowKit in
theorem Tryz.utf8_DecodeRune (s : ByteArray) (b off cap : Nat) (w : World) (hT : Lib.Utf8Tabs 1 2 w) (hp : ∀ j, j < s.size → w.cell? ⟨b, off + j, none⟩ = some (.int .u8 (s.get! j).toNat)) :
    Calls Tryz.prog 92 #[.slice (some ⟨b, off, none⟩) s.size cap] w fun e w' => e = .returned (.tuple #[.int .i32 (Lib.decodeGo s).1, .int .i64 (Lib.decodeGo s).2]) ∧ Below w.heap.size w w' := Any7.utf8_DecodeRune Tryz.lays7n32 s b off cap w hT hp
end Go.Proofs
/-
  WALKS over runes.Next: what it answers of the bytes of a slice, told by their place.
-/
namespace Go.Proofs.YtcnagbkdckipnaaGreatDoor
open Go.RowKit Go.Lib

namespace Rn
/-- bytes that are told by their place, as an array of bytes -/
def arr (f : Nat → Nat) (n : Nat) : ByteArray := ⟨Array.ofFn (n := n) fun i => (f i).toUInt8⟩
theorem arr_size (f : Nat → Nat) (n : Nat) : (arr f n).size = n := by
  show (Array.ofFn (n := n) fun i => (f i).toUInt8).size = n
  simp
theorem arr_get (f : Nat → Nat) (n j : Nat) (h : j < n) (hf : f j < 256) : ((arr f n).get! j).toNat = f j := by
  have e : (arr f n).get! j = (f j).toUInt8 := by
    show (Array.ofFn (n := n) fun i => (f i).toUInt8)[j]! = _
    rw [getElem!_pos _ _ (by simpa using h)]
    simp
  rw [e]
  simp; omega
theorem decodeN_congr {n a0 a1 a2 a3 b0 b1 b2 b3 : Nat} (h0 : 0 < n → a0 = b0) (h1 : 1 < n → a1 = b1) (h2 : 2 < n → a2 = b2) (h3 : 3 < n → a3 = b3) (hn : 0 < n) : decodeN n a0 a1 a2 a3 = decodeN n b0 b1 b2 b3 := by
  obtain rfl := h0 hn
  by_cases c1 : 1 < n
  · obtain rfl := h1 c1
    by_cases c2 : 2 < n
    · obtain rfl := h2 c2
      by_cases c3 : 3 < n
      · rw [h3 c3]
      · simp [decodeN, c3]
    · have c3 : ¬ 3 < n := by omega
      simp [decodeN, c2, c3]
  · have c2 : ¬ 2 < n := by omega
    have c3 : ¬ 3 < n := by omega
    simp [decodeN, c1, c2, c3]
theorem arr_dec (f : Nat → Nat) (n : Nat) (hf : ∀ j, f j < 256) (hn : 0 < n) : decodeGo (arr f n) = dec f n := by
  unfold decodeGo
  rw [if_neg (by rw [arr_size]; omega), decode_at, arr_size, dec]
  exact decodeN_congr (fun h => arr_get f n 0 h (hf 0)) (fun h => arr_get f n 1 h (hf 1)) (fun h => arr_get f n 2 h (hf 2)) (fun h => arr_get f n 3 h (hf 3)) hn

/-- what Next answers where the place is none of the bytes' ends: the rune, its width, how -/
def nx (f : Nat → Nat) (n : Nat) : Nat × Nat × Nat :=
  if n = 0 then (0, 0, 3) else if waits f n then (0, n, 1) else if whole f n then (fv f, fs f n, 0) else (65533, 1, 2)
theorem fv_le (f : Nat → Nat) (hf : ∀ j, f j < 256) : fv f < 2097152 := by
  have := hf 0
  unfold fv val
  repeat' split
  all_goals omega
theorem waits_full (f : Nat → Nat) (n : Nat) (hf : ∀ j, f j < 256) (hn : 0 < n) : fullN n (f 0) (f 1) (f 2) = !waits f n := by
  rw [full_eq n (f 0) (f 1) (f 2) (f 3) (hf 0)]
  have : ¬ n = 0 := by omega
  simp [waits, fs, fk, this]
theorem dec_whole (f : Nat → Nat) (n : Nat) (hf : ∀ j, f j < 256) (hn : 0 < n) : dec f n = if whole f n then (fv f, fs f n) else (65533, 1) := by
  have : ¬ n = 0 := by omega
  rw [dec, dec_eq _ _ _ _ _ hn (hf 1) (hf 2) (hf 3)]
  simp [whole, fs, fk, fv, this]
/-- a whole character of one byte is no U+FFFD -/
theorem whole_one (f : Nat → Nat) (n : Nat) (h1 : fs f n = 1) : fv f < 128 := by
  unfold fs at h1
  split at h1
  · omega
  · rcases size_cases (f 0) with ⟨e, c⟩ | ⟨e, c⟩ | ⟨e, c⟩ | ⟨e, c⟩ | ⟨e, c⟩
    · simp [fv, val, e, c]
    all_goals omega
end Rn

/-- utf8.DecodeRune, over bytes that are told by their place -/
theorem decode_any (f : Nat → Nat) (n b off cap : Nat) (w : World) (hT : Lib.Utf8Tabs 1 2 w) (hf : ∀ j, f j < 256) (hn : 0 < n)
    (hp : ∀ j, j < n → w.cell? ⟨b, off + j, none⟩ = some (.int .u8 (f j))) :
    Calls Tryz.prog 92 #[.slice (some ⟨b, off, none⟩) n cap] w fun e w' => e = .returned (.tuple #[.int .i32 (Rn.dec f n).1, .int .i64 (Rn.dec f n).2]) ∧ Below w.heap.size w w' := by
  have h := Tryz.utf8_DecodeRune (Rn.arr f n) b off cap w hT (fun j hj => by rw [Rn.arr_size] at hj; rw [Rn.arr_get f n j hj (hf j)]; exact hp j hj)
  rw [Rn.arr_size, Rn.arr_dec f n hf hn] at h
  exact h

set_option maxHeartbeats 1000000 in
/-- the place is outside -/
theorem next_out (v : Option Addr) (n cap : Nat) (at' : Int) (w : World) (h : at' < 0 ∨ (n : Int) < at') :
    Calls Tryz.prog 67 #[.slice v n cap, .int .i64 at'] w fun e w' => e = .returned (.tuple #[.int .i32 0, .int .i64 0, .int .i64 0, .int .i64 2]) ∧ w' = w := by
  rcases h with h | h
  · go_enter Tryz.func67, Tryz.ntmps67
    go_wp2
    exact bodyPost_ret (v := .tuple #[.int .i32 0, .int .i64 0, .int .i64 0, .int .i64 2]) (by simp [results, Tryz.results67, go_sem]) rfl ⟨rfl, rfl⟩
  · have h0 : ¬ at' < 0 := by omega
    go_enter Tryz.func67, Tryz.ntmps67
    go_wp2
    exact bodyPost_ret (v := .tuple #[.int .i32 0, .int .i64 0, .int .i64 0, .int .i64 2]) (by simp [results, Tryz.results67, go_sem]) rfl ⟨rfl, rfl⟩

set_option maxHeartbeats 1000000 in
/-- the place is the end -/
theorem next_nil (w : World) :
    Calls Tryz.prog 67 #[.slice none 0 0, .int .i64 0] w fun e w' => e = .returned (.tuple #[.int .i32 0, .int .i64 0, .int .i64 3, .int .i64 0]) ∧ w' = w := by
  go_enter Tryz.func67, Tryz.ntmps67
  go_wp2
  exact bodyPost_ret (v := .tuple #[.int .i32 0, .int .i64 0, .int .i64 3, .int .i64 0]) (by simp [results, Tryz.results67, go_sem]) rfl ⟨rfl, rfl⟩

set_option maxHeartbeats 1000000 in
theorem next_done (b off n cap : Nat) (w : World) (_hc : n ≤ cap) (_hm : cap ≤ maxLen) :
    Calls Tryz.prog 67 #[.slice (some ⟨b, off, none⟩) n cap, .int .i64 n] w fun e w' => e = .returned (.tuple #[.int .i32 0, .int .i64 0, .int .i64 3, .int .i64 0]) ∧ w' = w := by
  have h2 : cap ≤ 9223372036854775807 := by unfold maxLen at _hm; omega
  have h0 : ¬ (n : Int) < 0 := by omega
  have h1 : ¬ (n : Int) < (n : Int) := by omega
  go_enter Tryz.func67, Tryz.ntmps67
  go_wp2
  all_goals exact bodyPost_ret (v := .tuple #[.int .i32 0, .int .i64 0, .int .i64 3, .int .i64 0]) (by simp [results, Tryz.results67, go_sem]) rfl ⟨rfl, rfl⟩

theorem tabs_below {B : Nat} {w w' : World} (hT : Lib.Utf8Tabs 1 2 w) (h : Below B w w') (hB : w.heap.size ≤ B) : Lib.Utf8Tabs 1 2 w' := by
  constructor
  · intro c hc
    have e := hT.1 c hc
    exact (h.cell (p := ⟨1, c, none⟩) (Nat.lt_of_lt_of_le (block_lt_of_cell e) hB)).trans e
  · intro i hi
    obtain ⟨e1, e2⟩ := hT.2 i hi
    exact ⟨(h.cell (p := ⟨2, 2 * i, none⟩) (Nat.lt_of_lt_of_le (block_lt_of_cell e1) hB)).trans e1, (h.cell (p := ⟨2, 2 * i + 1, none⟩) (Nat.lt_of_lt_of_le (block_lt_of_cell e2) hB)).trans e2⟩

/-- the bytes of a slice, told by their place -/
def Bytes (w : World) (b off n : Nat) (f : Nat → Nat) : Prop := ∀ j, j < n → w.cell? ⟨b, off + j, none⟩ = some (.int .u8 (f j))
theorem Bytes.below {w w' : World} {B b off n : Nat} {f : Nat → Nat} (h : Bytes w b off n f) (hb : Below B w w') (hB : w.heap.size ≤ B) : Bytes w' b off n f :=
  fun j hj => (hb.cell (p := ⟨b, off + j, none⟩) (Nat.lt_of_lt_of_le (block_lt_of_cell (h j hj)) hB)).trans (h j hj)
theorem Bytes.off {w : World} {b off n : Nat} {f : Nat → Nat} (h : Bytes w b off n f) {k : Nat} (hk : k ≤ n) : Bytes w b (off + k) (n - k) (Rn.off f k) :=
  fun j hj => by have := h (k + j) (by omega); rw [← Nat.add_assoc] at this; exact this
theorem Bytes.le {w : World} {b off n m : Nat} {f : Nat → Nat} (h : Bytes w b off n f) (hm : m ≤ n) : Bytes w b off m f :=
  fun j hj => h j (by omega)

set_option maxHeartbeats 1000000 in
/-- Next at a place of the bytes -/
theorem next_in (f : Nat → Nat) (n b off cap k : Nat) (w : World) (hT : Lib.Utf8Tabs 1 2 w) (hf : ∀ j, f j < 256) (hk : k < n) (hc : n ≤ cap) (_hm : cap ≤ maxLen)
    (hp : Bytes w b off n f) :
    Calls Tryz.prog 67 #[.slice (some ⟨b, off, none⟩) n cap, .int .i64 k] w fun e w' =>
      e = .returned (.tuple #[.int .i32 (Rn.nx (Rn.off f k) (n - k)).1, .int .i64 (Rn.nx (Rn.off f k) (n - k)).2.1, .int .i64 (Rn.nx (Rn.off f k) (n - k)).2.2, .int .i64 0]) ∧ Below w.heap.size w w' := by
  have hm : cap ≤ 9223372036854775807 := by unfold maxLen at _hm; omega
  have h0 : ¬ (k : Int) < 0 := by omega
  have h1 : ¬ (n : Int) < (k : Int) := by omega
  have hg : ∀ j, Rn.off f k j < 256 := fun j => hf _
  have hq := hp.off (k := k) (by omega)
  have cF := full_any (Rn.off f k) (n - k) b (off + k) (cap - k) w hT hg hq
  have hD : ∀ w1, Below w.heap.size w w1 → _ := fun w1 hb => decode_any (Rn.off f k) (n - k) b (off + k) (cap - k) w1 (tabs_below hT hb (Nat.le_refl _)) hg (by omega) (hq.below hb (Nat.le_refl _))
  rw [Rn.waits_full _ _ hg (by omega)] at cF
  simp only [Rn.dec_whole _ _ hg (show 0 < n - k by omega)] at hD
  have hnk : ¬ n - k = 0 := by omega
  have hone := Rn.whole_one (Rn.off f k) (n - k)
  unfold Rn.nx
  rw [if_neg hnk]
  clear hq hp hT hf
  generalize Rn.off f k = g at *
  cases hw : Rn.waits g (n - k)
  · rw [hw] at cF
    simp only [Bool.not_false] at cF
    clear hw
    simp only [Bool.false_eq_true, if_false]
    cases hwh : Rn.whole g (n - k)
    · simp only [hwh, Bool.false_eq_true, if_false] at hD ⊢
      clear hwh hone
      go_enter Tryz.func67, Tryz.ntmps67
      go_wp2_with fail
      refine cF.mono ?_
      rintro e w1 ⟨rfl, hb1⟩
      go_wp2_with fail
      refine (hD w1 hb1).mono ?_
      rintro e w2 ⟨rfl, hb2⟩
      go_wp2_with (go_at_call 93; refine (isWrong_any _ _ _).mono ?_; rintro e w' ⟨rfl, rfl⟩)
      exact bodyPost_ret (v := .tuple #[.int .i32 65533, .int .i64 1, .int .i64 2, .int .i64 0]) (by simp [results, Tryz.results67, go_sem]) rfl ⟨rfl, hb1.trans (hb2.mono hb1.size)⟩
    · simp only [hwh, if_true] at hD ⊢
      clear hwh
      have hw1 : ((((Rn.fv g : Nat) : Int) == 65533) && (((Rn.fs g (n - k) : Nat) : Int) == 1)) = false := by
        by_cases q : Rn.fs g (n - k) = 1
        · have := hone q
          simp; omega
        · simp; omega
      clear hone
      generalize Rn.fv g = r at *
      generalize Rn.fs g (n - k) = m at *
      go_enter Tryz.func67, Tryz.ntmps67
      go_wp2_with fail
      refine cF.mono ?_
      rintro e w1 ⟨rfl, hb1⟩
      go_wp2_with fail
      refine (hD w1 hb1).mono ?_
      rintro e w2 ⟨rfl, hb2⟩
      go_wp2_with (go_at_call 93; refine (isWrong_any _ _ _).mono ?_; rw [hw1]; rintro e w' ⟨rfl, rfl⟩)
      exact bodyPost_ret (v := .tuple #[.int .i32 r, .int .i64 m, .int .i64 0, .int .i64 0]) (by simp [results, Tryz.results67, go_sem]) rfl ⟨rfl, hb1.trans (hb2.mono hb1.size)⟩
  · rw [hw] at cF
    clear hw hD hone
    simp only [Bool.not_true] at cF
    simp only [if_true]
    go_enter Tryz.func67, Tryz.ntmps67
    go_wp2_with fail
    refine cF.mono ?_
    rintro e w1 ⟨rfl, hb1⟩
    go_wp2_with fail
    exact bodyPost_ret (v := .tuple #[.int .i32 0, .int .i64 (n - k : Nat), .int .i64 1, .int .i64 0]) (by simp [results, Tryz.results67, go_sem]) rfl ⟨rfl, hb1⟩
end Go.Proofs.YtcnagbkdckipnaaGreatDoor
/-
  WALKS over runes.beginning and runes.Good: the longest beginning that can go on to be characters.
-/
namespace Go.Proofs.YtcnagbkdckipnaaGreatDoor
open Go.RowKit Go.Lib

theorem hide' {p : Prop} (h : p) : Hid p := h

namespace Rn
theorem len_min {m n b0 b1 b2 b3 : Nat} (h : m ≤ n) (hs : 0 < size b0) : len m b0 b1 b2 b3 = min m (len n b0 b1 b2 b3) := by
  unfold len
  repeat' split
  all_goals omega
theorem fk_min (f : Nat → Nat) {m n : Nat} (h : m ≤ n) (hs : 0 < size (f 0)) : fk f m = min m (fk f n) := len_min h hs
theorem fk_zero (f : Nat → Nat) (n : Nat) (hs : size (f 0) = 0) : fk f n = 0 := by simp [fk, len, hs]
/-- one byte more of a front that is no whole character: it waits just up to the front -/
theorem waits_upto (f : Nat → Nat) (n m : Nat) (hw : whole f n = false) (hm : m < n) : waits f (m + 1) = decide (m < fk f n) := by
  have a1 := fk_le_fs f n
  have a2 := fk_le f n
  have e0 : fs f n = size (f 0) := by unfold fs; rw [if_neg (by omega)]
  have e1 : fs f (m + 1) = size (f 0) := by unfold fs; rw [if_neg (by omega)]
  by_cases hs : size (f 0) = 0
  · have := fk_zero f n hs
    simp [waits, e1, hs, this]
  · have e2 := fk_min f (m := m + 1) (n := n) (by omega) (by omega)
    simp only [whole, decide_eq_false_iff_not] at hw
    rw [Bool.eq_iff_iff]
    simp only [waits, decide_eq_true_eq, e1, e2]
    rw [e0] at hw a1
    omega
end Rn

set_option maxHeartbeats 1000000 in
theorem beginning_any (f : Nat → Nat) (n b off cap : Nat) (w : World) (hT : Lib.Utf8Tabs 1 2 w) (hf : ∀ j, f j < 256) (hc : n ≤ cap) (_hm : cap ≤ maxLen)
    (hp : Bytes w b off n f) (hw : Rn.whole f n = false) :
    Calls Tryz.prog 68 #[.slice (some ⟨b, off, none⟩) n cap] w fun e w' => e = .returned (.int .i64 (Rn.fk f n)) ∧ Below w.heap.size w w' := by
  have hm : cap ≤ 9223372036854775807 := by unfold maxLen at _hm; omega
  have hle := Rn.fk_le f n
  have hup := Rn.waits_upto f n
  have cF : ∀ k w1, k < n → Below w.heap.size w w1 → _ := fun k w1 hk hb => full_any f (k + 1) b off cap w1 (tabs_below hT hb (Nat.le_refl _)) hf ((hp.below hb (Nat.le_refl _)).le (by omega))
  have hfu := fun k => Rn.waits_full f (k + 1) hf (by omega)
  clear hT hp
  go_enter Tryz.func68, Tryz.ntmps68
  go_wp2
  go_loopw [3] (fun i wr => ∃ k : Nat, i = .int .i64 k ∧ k ≤ Rn.fk f n ∧ Below w.heap.size w wr) (fun i _ => n - (RowKit.intOf i).toNat)
  case atStart => exact ⟨0, rfl, Nat.zero_le _, Below.refl _ _⟩
  case round =>
    obtain ⟨k, rfl, hk, hb⟩ := hrel
    by_cases hlt : k < n
    · have c := cF k wr hlt hb
      rw [hfu k, hup k hw hlt] at c
      have hl : (k : Int) < n := by omega
      have ht : decide ((k : Int) < n) = true := by simp; omega
      clear cF hfu hup hw
      by_cases hk2 : k < Rn.fk f n
      · rw [decide_eq_true hk2] at c
        go_wp2_with fail
        refine c.mono ?_
        rintro e w1 ⟨rfl, hb1⟩
        go_wp2_with fail
        go_roundw
        case rel => exact ⟨k + 1, by go_num, by omega, hb.trans (hb1.mono hb.size)⟩
        case measure => simp [RowKit.intOf]; omega
      · rw [decide_eq_false hk2] at c
        have HK : Hid (k = Rn.fk f n) := by show k = Rn.fk f n; omega
        go_wp2_with fail
        refine c.mono ?_
        rintro e w1 ⟨rfl, hb1⟩
        go_wp2_with fail
        go_ret
        exact ⟨by rw [← HK.out]; rfl, hb.trans (hb1.mono hb.size)⟩
    · have ht : decide ((k : Int) < n) = false := by simp; omega
      have HK : Hid (k = Rn.fk f n) := by show k = Rn.fk f n; omega
      clear cF hfu hup hw
      go_wp2_with fail
      go_ret
      exact ⟨by rw [← HK.out]; rfl, hb⟩

namespace Rn
/-- Good, from a place on, by at most so many characters -/
def goodFrom (f : Nat → Nat) (n : Nat) : Nat → Nat → Nat
  | 0, a => a
  | fuel + 1, a => if n ≤ a then a else if whole (off f a) (n - a) then goodFrom f n fuel (a + fs (off f a) (n - a)) else a + fk (off f a) (n - a)
def good (f : Nat → Nat) (n : Nat) : Nat := goodFrom f n n 0
theorem goodFrom_le (f : Nat → Nat) (n : Nat) (fuel a : Nat) (ha : a ≤ n) : goodFrom f n fuel a ≤ n := by
  induction fuel generalizing a with
  | zero => exact ha
  | succ m ih =>
    unfold goodFrom
    split
    · exact ha
    · split
      · next h =>
        simp only [whole, decide_eq_true_eq] at h
        have := fk_le (off f a) (n - a)
        exact ih _ (by omega)
      · have := fk_le (off f a) (n - a)
        omega
theorem good_le (f : Nat → Nat) (n : Nat) : good f n ≤ n := goodFrom_le f n n 0 (Nat.zero_le _)
theorem goodFrom_end (f : Nat → Nat) (n fuel a : Nat) (h : n ≤ a) : goodFrom f n fuel a = a := by
  cases fuel with
  | zero => rfl
  | succ m => unfold goodFrom; rw [if_pos h]
theorem nx_whole {f : Nat → Nat} {n : Nat} (h : whole f n = true) : nx f n = (fv f, fs f n, 0) := by
  have hw : waits f n = false := by
    simp only [whole, waits, decide_eq_true_eq, decide_eq_false_iff_not] at *
    omega
  have hn : ¬ n = 0 := by
    intro e
    subst e
    simp [whole, fs] at h
  unfold nx
  rw [if_neg hn, hw, h]
  simp
theorem nx_waits {f : Nat → Nat} {n : Nat} (h : waits f n = true) : nx f n = (0, n, 1) ∧ fk f n = n := by
  have hn : ¬ n = 0 := by
    intro e
    subst e
    simp [waits, fs] at h
  unfold nx
  rw [if_neg hn, h]
  simp only [waits, decide_eq_true_eq] at h
  exact ⟨rfl, h.2.1⟩
theorem nx_bad {f : Nat → Nat} {n : Nat} (hn : 0 < n) (h : waits f n = false) (h2 : whole f n = false) : nx f n = (65533, 1, 2) := by
  unfold nx
  rw [if_neg (by omega), h, h2]
  simp
theorem nx_how (f : Nat → Nat) (n : Nat) : (nx f n).2.2 = 0 ∨ (nx f n).2.2 = 1 ∨ (nx f n).2.2 = 2 ∨ (nx f n).2.2 = 3 := by
  unfold nx
  repeat' split
  all_goals simp
end Rn

/-- Next at the beginning -/
theorem next_first (f : Nat → Nat) (n b off cap : Nat) (w : World) (hT : Lib.Utf8Tabs 1 2 w) (hf : ∀ j, f j < 256) (hn : 0 < n) (hc : n ≤ cap) (hm : cap ≤ maxLen)
    (hp : Bytes w b off n f) :
    Calls Tryz.prog 67 #[.slice (some ⟨b, off, none⟩) n cap, .int .i64 0] w fun e w' =>
      e = .returned (.tuple #[.int .i32 (Rn.nx f n).1, .int .i64 (Rn.nx f n).2.1, .int .i64 (Rn.nx f n).2.2, .int .i64 0]) ∧ Below w.heap.size w w' := by
  have h := next_in f n b off cap 0 w hT hf hn hc hm hp
  rw [Rn.off_zero, Nat.sub_zero] at h
  exact h

end Go.Proofs.YtcnagbkdckipnaaGreatDoor
