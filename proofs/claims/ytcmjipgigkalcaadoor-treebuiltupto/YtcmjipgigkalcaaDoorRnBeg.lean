import Derived.Test.YtcmjipgigkalcaaDoorRnFull
import Derived.Test.YtcmjipgigkalcaaDoorRnShelf
import Derived.Deep.DeepFit
import Derived.LoopTactic
/-
  WALKS over runes.Next: what it answers of the bytes of a slice, told by their place.
-/
namespace Go.Proofs.YtcmjipgigkalcaaDoor
open Go.RowKit Go.Lib

namespace Rn
/-- bytes that are told by their place, as an array of bytes -/
def arr (f : Nat → Nat) (n : Nat) : ByteArray := ⟨Array.ofFn (n := n) fun i => (f i).toUInt8⟩
theorem arr_size (f : Nat → Nat) (n : Nat) : (arr f n).size = n := by
  show (Array.ofFn (n := n) fun i => (f i).toUInt8).size = n
  simp
theorem arr_get (f : Nat → Nat) (n j : Nat) (h : j < n) (hf : f j < 256) : ((arr f n).get! j).toNat = f j := by
  have e : (arr f n).get! j = (f j).toUInt8 := by
    show (Array.ofFn (n := n) fun i => (f i).toUInt8)[j]! = _
    rw [getElem!_pos _ _ (by simpa using h)]
    simp
  rw [e]
  simp; omega
theorem decodeN_congr {n a0 a1 a2 a3 b0 b1 b2 b3 : Nat} (h0 : 0 < n → a0 = b0) (h1 : 1 < n → a1 = b1) (h2 : 2 < n → a2 = b2) (h3 : 3 < n → a3 = b3) (hn : 0 < n) : decodeN n a0 a1 a2 a3 = decodeN n b0 b1 b2 b3 := by
  obtain rfl := h0 hn
  by_cases c1 : 1 < n
  · obtain rfl := h1 c1
    by_cases c2 : 2 < n
    · obtain rfl := h2 c2
      by_cases c3 : 3 < n
      · rw [h3 c3]
      · simp [decodeN, c3]
    · have c3 : ¬ 3 < n := by omega
      simp [decodeN, c2, c3]
  · have c2 : ¬ 2 < n := by omega
    have c3 : ¬ 3 < n := by omega
    simp [decodeN, c1, c2, c3]
theorem arr_dec (f : Nat → Nat) (n : Nat) (hf : ∀ j, f j < 256) (hn : 0 < n) : decodeGo (arr f n) = dec f n := by
  unfold decodeGo
  rw [if_neg (by rw [arr_size]; omega), decode_at, arr_size, dec]
  exact decodeN_congr (fun h => arr_get f n 0 h (hf 0)) (fun h => arr_get f n 1 h (hf 1)) (fun h => arr_get f n 2 h (hf 2)) (fun h => arr_get f n 3 h (hf 3)) hn

/-- what Next answers where the place is none of the bytes' ends: the rune, its width, how -/
def nx (f : Nat → Nat) (n : Nat) : Nat × Nat × Nat :=
  if n = 0 then (0, 0, 3) else if waits f n then (0, n, 1) else if whole f n then (fv f, fs f n, 0) else (65533, 1, 2)
theorem fv_le (f : Nat → Nat) (hf : ∀ j, f j < 256) : fv f < 2097152 := by
  have := hf 0
  unfold fv val
  repeat' split
  all_goals omega
theorem waits_full (f : Nat → Nat) (n : Nat) (hf : ∀ j, f j < 256) (hn : 0 < n) : fullN n (f 0) (f 1) (f 2) = !waits f n := by
  rw [full_eq n (f 0) (f 1) (f 2) (f 3) (hf 0)]
  have : ¬ n = 0 := by omega
  simp [waits, fs, fk, this]
theorem dec_whole (f : Nat → Nat) (n : Nat) (hf : ∀ j, f j < 256) (hn : 0 < n) : dec f n = if whole f n then (fv f, fs f n) else (65533, 1) := by
  have : ¬ n = 0 := by omega
  rw [dec, dec_eq _ _ _ _ _ hn (hf 1) (hf 2) (hf 3)]
  simp [whole, fs, fk, fv, this]
/-- a whole character of one byte is no U+FFFD -/
theorem whole_one (f : Nat → Nat) (n : Nat) (h1 : fs f n = 1) : fv f < 128 := by
  unfold fs at h1
  split at h1
  · omega
  · rcases size_cases (f 0) with ⟨e, c⟩ | ⟨e, c⟩ | ⟨e, c⟩ | ⟨e, c⟩ | ⟨e, c⟩
    · simp [fv, val, e, c]
    all_goals omega
end Rn

theorem tabs_below {B : Nat} {w w' : World} (hT : Lib.Utf8Tabs 1 2 w) (h : Below B w w') (hB : w.heap.size ≤ B) : Lib.Utf8Tabs 1 2 w' := by
  constructor
  · intro c hc
    have e := hT.1 c hc
    exact (h.cell (p := ⟨1, c, none⟩) (Nat.lt_of_lt_of_le (block_lt_of_cell e) hB)).trans e
  · intro i hi
    obtain ⟨e1, e2⟩ := hT.2 i hi
    exact ⟨(h.cell (p := ⟨2, 2 * i, none⟩) (Nat.lt_of_lt_of_le (block_lt_of_cell e1) hB)).trans e1, (h.cell (p := ⟨2, 2 * i + 1, none⟩) (Nat.lt_of_lt_of_le (block_lt_of_cell e2) hB)).trans e2⟩

/-- the bytes of a slice, told by their place -/
def Bytes (w : World) (b off n : Nat) (f : Nat → Nat) : Prop := ∀ j, j < n → w.cell? ⟨b, off + j, none⟩ = some (.int .u8 (f j))
theorem Bytes.below {w w' : World} {B b off n : Nat} {f : Nat → Nat} (h : Bytes w b off n f) (hb : Below B w w') (hB : w.heap.size ≤ B) : Bytes w' b off n f :=
  fun j hj => (hb.cell (p := ⟨b, off + j, none⟩) (Nat.lt_of_lt_of_le (block_lt_of_cell (h j hj)) hB)).trans (h j hj)
theorem Bytes.off {w : World} {b off n : Nat} {f : Nat → Nat} (h : Bytes w b off n f) {k : Nat} (hk : k ≤ n) : Bytes w b (off + k) (n - k) (Rn.off f k) :=
  fun j hj => by have := h (k + j) (by omega); rw [← Nat.add_assoc] at this; exact this
theorem Bytes.le {w : World} {b off n m : Nat} {f : Nat → Nat} (h : Bytes w b off n f) (hm : m ≤ n) : Bytes w b off m f :=
  fun j hj => h j (by omega)

end Go.Proofs.YtcmjipgigkalcaaDoor
/-
  WALKS over runes.beginning and runes.Good: the longest beginning that can go on to be characters.
-/
namespace Go.Proofs.YtcmjipgigkalcaaDoor
open Go.RowKit Go.Lib

theorem hide' {p : Prop} (h : p) : Hid p := h

namespace Rn
theorem len_min {m n b0 b1 b2 b3 : Nat} (h : m ≤ n) (hs : 0 < size b0) : len m b0 b1 b2 b3 = min m (len n b0 b1 b2 b3) := by
  unfold len
  repeat' split
  all_goals omega
theorem fk_min (f : Nat → Nat) {m n : Nat} (h : m ≤ n) (hs : 0 < size (f 0)) : fk f m = min m (fk f n) := len_min h hs
theorem fk_zero (f : Nat → Nat) (n : Nat) (hs : size (f 0) = 0) : fk f n = 0 := by simp [fk, len, hs]
/-- one byte more of a front that is no whole character: it waits just up to the front -/
theorem waits_upto (f : Nat → Nat) (n m : Nat) (hw : whole f n = false) (hm : m < n) : waits f (m + 1) = decide (m < fk f n) := by
  have a1 := fk_le_fs f n
  have a2 := fk_le f n
  have e0 : fs f n = size (f 0) := by unfold fs; rw [if_neg (by omega)]
  have e1 : fs f (m + 1) = size (f 0) := by unfold fs; rw [if_neg (by omega)]
  by_cases hs : size (f 0) = 0
  · have := fk_zero f n hs
    simp [waits, e1, hs, this]
  · have e2 := fk_min f (m := m + 1) (n := n) (by omega) (by omega)
    simp only [whole, decide_eq_false_iff_not] at hw
    rw [Bool.eq_iff_iff]
    simp only [waits, decide_eq_true_eq, e1, e2]
    rw [e0] at hw a1
    omega
end Rn

namespace Rn
/-- Good, from a place on, by at most so many characters -/
def goodFrom (f : Nat → Nat) (n : Nat) : Nat → Nat → Nat
  | 0, a => a
  | fuel + 1, a => if n ≤ a then a else if whole (off f a) (n - a) then goodFrom f n fuel (a + fs (off f a) (n - a)) else a + fk (off f a) (n - a)
def good (f : Nat → Nat) (n : Nat) : Nat := goodFrom f n n 0
theorem goodFrom_le (f : Nat → Nat) (n : Nat) (fuel a : Nat) (ha : a ≤ n) : goodFrom f n fuel a ≤ n := by
  induction fuel generalizing a with
  | zero => exact ha
  | succ m ih =>
    unfold goodFrom
    split
    · exact ha
    · split
      · next h =>
        simp only [whole, decide_eq_true_eq] at h
        have := fk_le (off f a) (n - a)
        exact ih _ (by omega)
      · have := fk_le (off f a) (n - a)
        omega
theorem good_le (f : Nat → Nat) (n : Nat) : good f n ≤ n := goodFrom_le f n n 0 (Nat.zero_le _)
theorem goodFrom_end (f : Nat → Nat) (n fuel a : Nat) (h : n ≤ a) : goodFrom f n fuel a = a := by
  cases fuel with
  | zero => rfl
  | succ m => unfold goodFrom; rw [if_pos h]
theorem nx_whole {f : Nat → Nat} {n : Nat} (h : whole f n = true) : nx f n = (fv f, fs f n, 0) := by
  have hw : waits f n = false := by
    simp only [whole, waits, decide_eq_true_eq, decide_eq_false_iff_not] at *
    omega
  have hn : ¬ n = 0 := by
    intro e
    subst e
    simp [whole, fs] at h
  unfold nx
  rw [if_neg hn, hw, h]
  simp
theorem nx_waits {f : Nat → Nat} {n : Nat} (h : waits f n = true) : nx f n = (0, n, 1) ∧ fk f n = n := by
  have hn : ¬ n = 0 := by
    intro e
    subst e
    simp [waits, fs] at h
  unfold nx
  rw [if_neg hn, h]
  simp only [waits, decide_eq_true_eq] at h
  exact ⟨rfl, h.2.1⟩
theorem nx_bad {f : Nat → Nat} {n : Nat} (hn : 0 < n) (h : waits f n = false) (h2 : whole f n = false) : nx f n = (65533, 1, 2) := by
  unfold nx
  rw [if_neg (by omega), h, h2]
  simp
theorem nx_how (f : Nat → Nat) (n : Nat) : (nx f n).2.2 = 0 ∨ (nx f n).2.2 = 1 ∨ (nx f n).2.2 = 2 ∨ (nx f n).2.2 = 3 := by
  unfold nx
  repeat' split
  all_goals simp
end Rn

end Go.Proofs.YtcmjipgigkalcaaDoor
