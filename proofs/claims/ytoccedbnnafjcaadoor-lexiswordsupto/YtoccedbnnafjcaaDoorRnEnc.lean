import Derived.Test.YtoccedbnnafjcaaDoorRnFull
import Derived.Test.YtoccedbnnafjcaaDoorRnShelf
import Derived.Deep.DeepFit
import Derived.LoopTactic
import Derived.Lib.RuneBytes
/-
  WALKS over runes.Next: what it answers of the bytes of a slice, told by their place.
-/
namespace Go.Proofs.YtoccedbnnafjcaaDoor
open Go.RowKit Go.Lib

namespace Rn
/-- bytes that are told by their place, as an array of bytes -/
def arr (f : Nat → Nat) (n : Nat) : ByteArray := ⟨Array.ofFn (n := n) fun i => (f i).toUInt8⟩
theorem arr_size (f : Nat → Nat) (n : Nat) : (arr f n).size = n := by
  show (Array.ofFn (n := n) fun i => (f i).toUInt8).size = n
  simp
theorem arr_get (f : Nat → Nat) (n j : Nat) (h : j < n) (hf : f j < 256) : ((arr f n).get! j).toNat = f j := by
  have e : (arr f n).get! j = (f j).toUInt8 := by
    show (Array.ofFn (n := n) fun i => (f i).toUInt8)[j]! = _
    rw [getElem!_pos _ _ (by simpa using h)]
    simp
  rw [e]
  simp; omega
theorem decodeN_congr {n a0 a1 a2 a3 b0 b1 b2 b3 : Nat} (h0 : 0 < n → a0 = b0) (h1 : 1 < n → a1 = b1) (h2 : 2 < n → a2 = b2) (h3 : 3 < n → a3 = b3) (hn : 0 < n) : decodeN n a0 a1 a2 a3 = decodeN n b0 b1 b2 b3 := by
  obtain rfl := h0 hn
  by_cases c1 : 1 < n
  · obtain rfl := h1 c1
    by_cases c2 : 2 < n
    · obtain rfl := h2 c2
      by_cases c3 : 3 < n
      · rw [h3 c3]
      · simp [decodeN, c3]
    · have c3 : ¬ 3 < n := by omega
      simp [decodeN, c2, c3]
  · have c2 : ¬ 2 < n := by omega
    have c3 : ¬ 3 < n := by omega
    simp [decodeN, c1, c2, c3]
theorem arr_dec (f : Nat → Nat) (n : Nat) (hf : ∀ j, f j < 256) (hn : 0 < n) : decodeGo (arr f n) = dec f n := by
  unfold decodeGo
  rw [if_neg (by rw [arr_size]; omega), decode_at, arr_size, dec]
  exact decodeN_congr (fun h => arr_get f n 0 h (hf 0)) (fun h => arr_get f n 1 h (hf 1)) (fun h => arr_get f n 2 h (hf 2)) (fun h => arr_get f n 3 h (hf 3)) hn

/-- what Next answers where the place is none of the bytes' ends: the rune, its width, how -/
def nx (f : Nat → Nat) (n : Nat) : Nat × Nat × Nat :=
  if n = 0 then (0, 0, 3) else if waits f n then (0, n, 1) else if whole f n then (fv f, fs f n, 0) else (65533, 1, 2)
theorem fv_le (f : Nat → Nat) (hf : ∀ j, f j < 256) : fv f < 2097152 := by
  have := hf 0
  unfold fv val
  repeat' split
  all_goals omega
theorem waits_full (f : Nat → Nat) (n : Nat) (hf : ∀ j, f j < 256) (hn : 0 < n) : fullN n (f 0) (f 1) (f 2) = !waits f n := by
  rw [full_eq n (f 0) (f 1) (f 2) (f 3) (hf 0)]
  have : ¬ n = 0 := by omega
  simp [waits, fs, fk, this]
theorem dec_whole (f : Nat → Nat) (n : Nat) (hf : ∀ j, f j < 256) (hn : 0 < n) : dec f n = if whole f n then (fv f, fs f n) else (65533, 1) := by
  have : ¬ n = 0 := by omega
  rw [dec, dec_eq _ _ _ _ _ hn (hf 1) (hf 2) (hf 3)]
  simp [whole, fs, fk, fv, this]
/-- a whole character of one byte is no U+FFFD -/
theorem whole_one (f : Nat → Nat) (n : Nat) (h1 : fs f n = 1) : fv f < 128 := by
  unfold fs at h1
  split at h1
  · omega
  · rcases size_cases (f 0) with ⟨e, c⟩ | ⟨e, c⟩ | ⟨e, c⟩ | ⟨e, c⟩ | ⟨e, c⟩
    · simp [fv, val, e, c]
    all_goals omega
end Rn

/-- utf8.DecodeRune, over bytes that are told by their place -/
theorem decode_any (f : Nat → Nat) (n b off cap : Nat) (w : World) (hT : Lib.Utf8Tabs 1 2 w) (hf : ∀ j, f j < 256) (hn : 0 < n)
    (hp : ∀ j, j < n → w.cell? ⟨b, off + j, none⟩ = some (.int .u8 (f j))) :
    Calls Tryd.prog 61 #[.slice (some ⟨b, off, none⟩) n cap] w fun e w' => e = .returned (.tuple #[.int .i32 (Rn.dec f n).1, .int .i64 (Rn.dec f n).2]) ∧ Below w.heap.size w w' := by
  have h := Tryd.utf8_DecodeRune (Rn.arr f n) b off cap w hT (fun j hj => by rw [Rn.arr_size] at hj; rw [Rn.arr_get f n j hj (hf j)]; exact hp j hj)
  rw [Rn.arr_size, Rn.arr_dec f n hf hn] at h
  exact h

set_option maxHeartbeats 1000000 in
/-- the place is outside -/
theorem next_out (v : Option Addr) (n cap : Nat) (at' : Int) (w : World) (h : at' < 0 ∨ (n : Int) < at') :
    Calls Tryd.prog 42 #[.slice v n cap, .int .i64 at'] w fun e w' => e = .returned (.tuple #[.int .i32 0, .int .i64 0, .int .i64 0, .int .i64 2]) ∧ w' = w := by
  rcases h with h | h
  · go_enter Tryd.func42, Tryd.ntmps42
    go_wp2
    exact bodyPost_ret (v := .tuple #[.int .i32 0, .int .i64 0, .int .i64 0, .int .i64 2]) (by simp [results, Tryd.results42, go_sem]) rfl ⟨rfl, rfl⟩
  · have h0 : ¬ at' < 0 := by omega
    go_enter Tryd.func42, Tryd.ntmps42
    go_wp2
    exact bodyPost_ret (v := .tuple #[.int .i32 0, .int .i64 0, .int .i64 0, .int .i64 2]) (by simp [results, Tryd.results42, go_sem]) rfl ⟨rfl, rfl⟩

set_option maxHeartbeats 1000000 in
/-- the place is the end -/
theorem next_nil (w : World) :
    Calls Tryd.prog 42 #[.slice none 0 0, .int .i64 0] w fun e w' => e = .returned (.tuple #[.int .i32 0, .int .i64 0, .int .i64 3, .int .i64 0]) ∧ w' = w := by
  go_enter Tryd.func42, Tryd.ntmps42
  go_wp2
  exact bodyPost_ret (v := .tuple #[.int .i32 0, .int .i64 0, .int .i64 3, .int .i64 0]) (by simp [results, Tryd.results42, go_sem]) rfl ⟨rfl, rfl⟩

set_option maxHeartbeats 1000000 in
theorem next_done (b off n cap : Nat) (w : World) (_hc : n ≤ cap) (_hm : cap ≤ maxLen) :
    Calls Tryd.prog 42 #[.slice (some ⟨b, off, none⟩) n cap, .int .i64 n] w fun e w' => e = .returned (.tuple #[.int .i32 0, .int .i64 0, .int .i64 3, .int .i64 0]) ∧ w' = w := by
  have h2 : cap ≤ 9223372036854775807 := by unfold maxLen at _hm; omega
  have h0 : ¬ (n : Int) < 0 := by omega
  have h1 : ¬ (n : Int) < (n : Int) := by omega
  go_enter Tryd.func42, Tryd.ntmps42
  go_wp2
  all_goals exact bodyPost_ret (v := .tuple #[.int .i32 0, .int .i64 0, .int .i64 3, .int .i64 0]) (by simp [results, Tryd.results42, go_sem]) rfl ⟨rfl, rfl⟩

theorem tabs_below {B : Nat} {w w' : World} (hT : Lib.Utf8Tabs 1 2 w) (h : Below B w w') (hB : w.heap.size ≤ B) : Lib.Utf8Tabs 1 2 w' := by
  constructor
  · intro c hc
    have e := hT.1 c hc
    exact (h.cell (p := ⟨1, c, none⟩) (Nat.lt_of_lt_of_le (block_lt_of_cell e) hB)).trans e
  · intro i hi
    obtain ⟨e1, e2⟩ := hT.2 i hi
    exact ⟨(h.cell (p := ⟨2, 2 * i, none⟩) (Nat.lt_of_lt_of_le (block_lt_of_cell e1) hB)).trans e1, (h.cell (p := ⟨2, 2 * i + 1, none⟩) (Nat.lt_of_lt_of_le (block_lt_of_cell e2) hB)).trans e2⟩

/-- the bytes of a slice, told by their place -/
def Bytes (w : World) (b off n : Nat) (f : Nat → Nat) : Prop := ∀ j, j < n → w.cell? ⟨b, off + j, none⟩ = some (.int .u8 (f j))
theorem Bytes.below {w w' : World} {B b off n : Nat} {f : Nat → Nat} (h : Bytes w b off n f) (hb : Below B w w') (hB : w.heap.size ≤ B) : Bytes w' b off n f :=
  fun j hj => (hb.cell (p := ⟨b, off + j, none⟩) (Nat.lt_of_lt_of_le (block_lt_of_cell (h j hj)) hB)).trans (h j hj)
theorem Bytes.off {w : World} {b off n : Nat} {f : Nat → Nat} (h : Bytes w b off n f) {k : Nat} (hk : k ≤ n) : Bytes w b (off + k) (n - k) (Rn.off f k) :=
  fun j hj => by have := h (k + j) (by omega); rw [← Nat.add_assoc] at this; exact this
theorem Bytes.le {w : World} {b off n m : Nat} {f : Nat → Nat} (h : Bytes w b off n f) (hm : m ≤ n) : Bytes w b off m f :=
  fun j hj => h j (by omega)

set_option maxHeartbeats 1000000 in
/-- Next at a place of the bytes -/
theorem next_in (f : Nat → Nat) (n b off cap k : Nat) (w : World) (hT : Lib.Utf8Tabs 1 2 w) (hf : ∀ j, f j < 256) (hk : k < n) (hc : n ≤ cap) (_hm : cap ≤ maxLen)
    (hp : Bytes w b off n f) :
    Calls Tryd.prog 42 #[.slice (some ⟨b, off, none⟩) n cap, .int .i64 k] w fun e w' =>
      e = .returned (.tuple #[.int .i32 (Rn.nx (Rn.off f k) (n - k)).1, .int .i64 (Rn.nx (Rn.off f k) (n - k)).2.1, .int .i64 (Rn.nx (Rn.off f k) (n - k)).2.2, .int .i64 0]) ∧ Below w.heap.size w w' := by
  have hm : cap ≤ 9223372036854775807 := by unfold maxLen at _hm; omega
  have h0 : ¬ (k : Int) < 0 := by omega
  have h1 : ¬ (n : Int) < (k : Int) := by omega
  have hg : ∀ j, Rn.off f k j < 256 := fun j => hf _
  have hq := hp.off (k := k) (by omega)
  have cF := full_any (Rn.off f k) (n - k) b (off + k) (cap - k) w hT hg hq
  have hD : ∀ w1, Below w.heap.size w w1 → _ := fun w1 hb => decode_any (Rn.off f k) (n - k) b (off + k) (cap - k) w1 (tabs_below hT hb (Nat.le_refl _)) hg (by omega) (hq.below hb (Nat.le_refl _))
  rw [Rn.waits_full _ _ hg (by omega)] at cF
  simp only [Rn.dec_whole _ _ hg (show 0 < n - k by omega)] at hD
  have hnk : ¬ n - k = 0 := by omega
  have hone := Rn.whole_one (Rn.off f k) (n - k)
  unfold Rn.nx
  rw [if_neg hnk]
  clear hq hp hT hf
  generalize Rn.off f k = g at *
  cases hw : Rn.waits g (n - k)
  · rw [hw] at cF
    simp only [Bool.not_false] at cF
    clear hw
    simp only [Bool.false_eq_true, if_false]
    cases hwh : Rn.whole g (n - k)
    · simp only [hwh, Bool.false_eq_true, if_false] at hD ⊢
      clear hwh hone
      go_enter Tryd.func42, Tryd.ntmps42
      go_wp2_with fail
      refine cF.mono ?_
      rintro e w1 ⟨rfl, hb1⟩
      go_wp2_with fail
      refine (hD w1 hb1).mono ?_
      rintro e w2 ⟨rfl, hb2⟩
      go_wp2_with (go_at_call 62; refine (isWrong_any _ _ _).mono ?_; rintro e w' ⟨rfl, rfl⟩)
      exact bodyPost_ret (v := .tuple #[.int .i32 65533, .int .i64 1, .int .i64 2, .int .i64 0]) (by simp [results, Tryd.results42, go_sem]) rfl ⟨rfl, hb1.trans (hb2.mono hb1.size)⟩
    · simp only [hwh, if_true] at hD ⊢
      clear hwh
      have hw1 : ((((Rn.fv g : Nat) : Int) == 65533) && (((Rn.fs g (n - k) : Nat) : Int) == 1)) = false := by
        by_cases q : Rn.fs g (n - k) = 1
        · have := hone q
          simp; omega
        · simp; omega
      clear hone
      generalize Rn.fv g = r at *
      generalize Rn.fs g (n - k) = m at *
      go_enter Tryd.func42, Tryd.ntmps42
      go_wp2_with fail
      refine cF.mono ?_
      rintro e w1 ⟨rfl, hb1⟩
      go_wp2_with fail
      refine (hD w1 hb1).mono ?_
      rintro e w2 ⟨rfl, hb2⟩
      go_wp2_with (go_at_call 62; refine (isWrong_any _ _ _).mono ?_; rw [hw1]; rintro e w' ⟨rfl, rfl⟩)
      exact bodyPost_ret (v := .tuple #[.int .i32 r, .int .i64 m, .int .i64 0, .int .i64 0]) (by simp [results, Tryd.results42, go_sem]) rfl ⟨rfl, hb1.trans (hb2.mono hb1.size)⟩
  · rw [hw] at cF
    clear hw hD hone
    simp only [Bool.not_true] at cF
    simp only [if_true]
    go_enter Tryd.func42, Tryd.ntmps42
    go_wp2_with fail
    refine cF.mono ?_
    rintro e w1 ⟨rfl, hb1⟩
    go_wp2_with fail
    exact bodyPost_ret (v := .tuple #[.int .i32 0, .int .i64 (n - k : Nat), .int .i64 1, .int .i64 0]) (by simp [results, Tryd.results42, go_sem]) rfl ⟨rfl, hb1⟩
end Go.Proofs.YtoccedbnnafjcaaDoor
/-
  WALKS over runes.beginning and runes.Good: the longest beginning that can go on to be characters.
-/
namespace Go.Proofs.YtoccedbnnafjcaaDoor
open Go.RowKit Go.Lib

theorem hide' {p : Prop} (h : p) : Hid p := h

namespace Rn
theorem len_min {m n b0 b1 b2 b3 : Nat} (h : m ≤ n) (hs : 0 < size b0) : len m b0 b1 b2 b3 = min m (len n b0 b1 b2 b3) := by
  unfold len
  repeat' split
  all_goals omega
theorem fk_min (f : Nat → Nat) {m n : Nat} (h : m ≤ n) (hs : 0 < size (f 0)) : fk f m = min m (fk f n) := len_min h hs
theorem fk_zero (f : Nat → Nat) (n : Nat) (hs : size (f 0) = 0) : fk f n = 0 := by simp [fk, len, hs]
/-- one byte more of a front that is no whole character: it waits just up to the front -/
theorem waits_upto (f : Nat → Nat) (n m : Nat) (hw : whole f n = false) (hm : m < n) : waits f (m + 1) = decide (m < fk f n) := by
  have a1 := fk_le_fs f n
  have a2 := fk_le f n
  have e0 : fs f n = size (f 0) := by unfold fs; rw [if_neg (by omega)]
  have e1 : fs f (m + 1) = size (f 0) := by unfold fs; rw [if_neg (by omega)]
  by_cases hs : size (f 0) = 0
  · have := fk_zero f n hs
    simp [waits, e1, hs, this]
  · have e2 := fk_min f (m := m + 1) (n := n) (by omega) (by omega)
    simp only [whole, decide_eq_false_iff_not] at hw
    rw [Bool.eq_iff_iff]
    simp only [waits, decide_eq_true_eq, e1, e2]
    rw [e0] at hw a1
    omega
end Rn

set_option maxHeartbeats 1000000 in
theorem beginning_any (f : Nat → Nat) (n b off cap : Nat) (w : World) (hT : Lib.Utf8Tabs 1 2 w) (hf : ∀ j, f j < 256) (hc : n ≤ cap) (_hm : cap ≤ maxLen)
    (hp : Bytes w b off n f) (hw : Rn.whole f n = false) :
    Calls Tryd.prog 43 #[.slice (some ⟨b, off, none⟩) n cap] w fun e w' => e = .returned (.int .i64 (Rn.fk f n)) ∧ Below w.heap.size w w' := by
  have hm : cap ≤ 9223372036854775807 := by unfold maxLen at _hm; omega
  have hle := Rn.fk_le f n
  have hup := Rn.waits_upto f n
  have cF : ∀ k w1, k < n → Below w.heap.size w w1 → _ := fun k w1 hk hb => full_any f (k + 1) b off cap w1 (tabs_below hT hb (Nat.le_refl _)) hf ((hp.below hb (Nat.le_refl _)).le (by omega))
  have hfu := fun k => Rn.waits_full f (k + 1) hf (by omega)
  clear hT hp
  go_enter Tryd.func43, Tryd.ntmps43
  go_wp2
  go_loopw [3] (fun i wr => ∃ k : Nat, i = .int .i64 k ∧ k ≤ Rn.fk f n ∧ Below w.heap.size w wr) (fun i _ => n - (RowKit.intOf i).toNat)
  case atStart => exact ⟨0, rfl, Nat.zero_le _, Below.refl _ _⟩
  case round =>
    obtain ⟨k, rfl, hk, hb⟩ := hrel
    by_cases hlt : k < n
    · have c := cF k wr hlt hb
      rw [hfu k, hup k hw hlt] at c
      have hl : (k : Int) < n := by omega
      have ht : decide ((k : Int) < n) = true := by simp; omega
      clear cF hfu hup hw
      by_cases hk2 : k < Rn.fk f n
      · rw [decide_eq_true hk2] at c
        go_wp2_with fail
        refine c.mono ?_
        rintro e w1 ⟨rfl, hb1⟩
        go_wp2_with fail
        go_roundw
        case rel => exact ⟨k + 1, by go_num, by omega, hb.trans (hb1.mono hb.size)⟩
        case measure => simp [RowKit.intOf]; omega
      · rw [decide_eq_false hk2] at c
        have HK : Hid (k = Rn.fk f n) := by show k = Rn.fk f n; omega
        go_wp2_with fail
        refine c.mono ?_
        rintro e w1 ⟨rfl, hb1⟩
        go_wp2_with fail
        go_ret
        exact ⟨by rw [← HK.out]; rfl, hb.trans (hb1.mono hb.size)⟩
    · have ht : decide ((k : Int) < n) = false := by simp; omega
      have HK : Hid (k = Rn.fk f n) := by show k = Rn.fk f n; omega
      clear cF hfu hup hw
      go_wp2_with fail
      go_ret
      exact ⟨by rw [← HK.out]; rfl, hb⟩

namespace Rn
/-- Good, from a place on, by at most so many characters -/
def goodFrom (f : Nat → Nat) (n : Nat) : Nat → Nat → Nat
  | 0, a => a
  | fuel + 1, a => if n ≤ a then a else if whole (off f a) (n - a) then goodFrom f n fuel (a + fs (off f a) (n - a)) else a + fk (off f a) (n - a)
def good (f : Nat → Nat) (n : Nat) : Nat := goodFrom f n n 0
theorem goodFrom_le (f : Nat → Nat) (n : Nat) (fuel a : Nat) (ha : a ≤ n) : goodFrom f n fuel a ≤ n := by
  induction fuel generalizing a with
  | zero => exact ha
  | succ m ih =>
    unfold goodFrom
    split
    · exact ha
    · split
      · next h =>
        simp only [whole, decide_eq_true_eq] at h
        have := fk_le (off f a) (n - a)
        exact ih _ (by omega)
      · have := fk_le (off f a) (n - a)
        omega
theorem good_le (f : Nat → Nat) (n : Nat) : good f n ≤ n := goodFrom_le f n n 0 (Nat.zero_le _)
theorem goodFrom_end (f : Nat → Nat) (n fuel a : Nat) (h : n ≤ a) : goodFrom f n fuel a = a := by
  cases fuel with
  | zero => rfl
  | succ m => unfold goodFrom; rw [if_pos h]
theorem nx_whole {f : Nat → Nat} {n : Nat} (h : whole f n = true) : nx f n = (fv f, fs f n, 0) := by
  have hw : waits f n = false := by
    simp only [whole, waits, decide_eq_true_eq, decide_eq_false_iff_not] at *
    omega
  have hn : ¬ n = 0 := by
    intro e
    subst e
    simp [whole, fs] at h
  unfold nx
  rw [if_neg hn, hw, h]
  simp
theorem nx_waits {f : Nat → Nat} {n : Nat} (h : waits f n = true) : nx f n = (0, n, 1) ∧ fk f n = n := by
  have hn : ¬ n = 0 := by
    intro e
    subst e
    simp [waits, fs] at h
  unfold nx
  rw [if_neg hn, h]
  simp only [waits, decide_eq_true_eq] at h
  exact ⟨rfl, h.2.1⟩
theorem nx_bad {f : Nat → Nat} {n : Nat} (hn : 0 < n) (h : waits f n = false) (h2 : whole f n = false) : nx f n = (65533, 1, 2) := by
  unfold nx
  rw [if_neg (by omega), h, h2]
  simp
theorem nx_how (f : Nat → Nat) (n : Nat) : (nx f n).2.2 = 0 ∨ (nx f n).2.2 = 1 ∨ (nx f n).2.2 = 2 ∨ (nx f n).2.2 = 3 := by
  unfold nx
  repeat' split
  all_goals simp
end Rn

/-- Next at the beginning -/
theorem next_first (f : Nat → Nat) (n b off cap : Nat) (w : World) (hT : Lib.Utf8Tabs 1 2 w) (hf : ∀ j, f j < 256) (hn : 0 < n) (hc : n ≤ cap) (hm : cap ≤ maxLen)
    (hp : Bytes w b off n f) :
    Calls Tryd.prog 42 #[.slice (some ⟨b, off, none⟩) n cap, .int .i64 0] w fun e w' =>
      e = .returned (.tuple #[.int .i32 (Rn.nx f n).1, .int .i64 (Rn.nx f n).2.1, .int .i64 (Rn.nx f n).2.2, .int .i64 0]) ∧ Below w.heap.size w w' := by
  have h := next_in f n b off cap 0 w hT hf hn hc hm hp
  rw [Rn.off_zero, Nat.sub_zero] at h
  exact h

end Go.Proofs.YtoccedbnnafjcaaDoor
/-
  Plain mathematics: the bytes of a rune, told by their place: they are one whole character; each shorter beginning waits.
-/
namespace Go.Proofs.YtoccedbnnafjcaaDoor.Rn
open Go.Lib

theorem len_congr {n a0 a1 a2 a3 b0 b1 b2 b3 : Nat} (h0 : 0 < n → a0 = b0) (h1 : 1 < n → a1 = b1) (h2 : 2 < n → a2 = b2) (h3 : 3 < n → a3 = b3) : len n a0 a1 a2 a3 = len n b0 b1 b2 b3 := by
  by_cases c0 : 0 < n
  · obtain rfl := h0 c0
    by_cases c1 : 1 < n
    · obtain rfl := h1 c1
      by_cases c2 : 2 < n
      · obtain rfl := h2 c2
        by_cases c3 : 3 < n
        · rw [h3 c3]
        · obtain rfl : n = 3 := by omega
          simp [len]
      · obtain rfl : n = 2 := by omega
        simp [len]
    · obtain rfl : n = 1 := by omega
      simp [len]
  · obtain rfl : n = 0 := by omega
    simp [len]
theorem fk_congr {f g : Nat → Nat} {n : Nat} (h : ∀ j, j < n → f j = g j) : fk f n = fk g n := len_congr (h 0) (h 1) (h 2) (h 3)
theorem fs_congr {f g : Nat → Nat} {n : Nat} (h : ∀ j, j < n → f j = g j) : fs f n = fs g n := by
  unfold fs
  split
  · rfl
  · rw [h 0 (by omega)]
theorem whole_congr {f g : Nat → Nat} {n : Nat} (h : ∀ j, j < n → f j = g j) : whole f n = whole g n := by unfold whole; rw [fk_congr h, fs_congr h]
theorem waits_congr {f g : Nat → Nat} {n : Nat} (h : ∀ j, j < n → f j = g j) : waits f n = waits g n := by unfold waits; rw [fk_congr h, fs_congr h]
theorem fv_congr {f g : Nat → Nat} {n : Nat} (hw : whole f n = true) (h : ∀ j, j < n → f j = g j) : fv f = fv g := by
  simp only [whole, decide_eq_true_eq] at hw
  have hle := fk_le f n
  have hn : ¬ n = 0 := by
    intro e
    subst e
    simp [fs] at hw
  have e0 : fs f n = size (f 0) := by unfold fs; rw [if_neg hn]
  rw [e0] at hw
  have h0 := h 0 (by omega)
  unfold fv val
  rw [← h0]
  by_cases c1 : size (f 0) = 1
  · simp [c1]
  by_cases c2 : size (f 0) = 2
  · simp only [c2, Nat.reduceEqDiff, if_false, if_true]
    rw [h 1 (by omega)]
  by_cases c3 : size (f 0) = 3
  · simp only [c3, Nat.reduceEqDiff, if_false, if_true]
    rw [h 1 (by omega), h 2 (by omega)]
  · have c4 : size (f 0) = 4 := by have := size_le (f 0); omega
    simp only [c4, Nat.reduceEqDiff, if_false]
    rw [h 1 (by omega), h 2 (by omega), h 3 (by omega)]

theorem good_waits {f : Nat → Nat} {n : Nat} (h : waits f n = true) : good f n = n := by
  have hn : ¬ n = 0 := by
    intro e
    subst e
    simp [waits, fs] at h
  have hw : whole f n = false := by
    simp only [whole, waits, decide_eq_true_eq, decide_eq_false_iff_not] at *
    omega
  obtain ⟨m, rfl⟩ : ∃ m, n = m + 1 := ⟨n - 1, by omega⟩
  unfold good goodFrom
  rw [if_neg (by omega), off_zero, Nat.sub_zero, hw]
  simp only [waits, decide_eq_true_eq] at h
  simp
  omega
theorem good_whole {f : Nat → Nat} {n : Nat} (h : whole f n = true) (hs : fs f n = n) : good f n = n := by
  have hn : ¬ n = 0 := by
    intro e
    subst e
    simp [whole, fs] at h
  obtain ⟨m, rfl⟩ : ∃ m, n = m + 1 := ⟨n - 1, by omega⟩
  unfold good goodFrom
  rw [if_neg (by omega), off_zero, Nat.sub_zero, h, hs]
  simp only [if_true, Nat.zero_add]
  exact goodFrom_end _ _ _ _ (Nat.le_refl _)

/-- the bytes of a rune, by their place; how many they are; the character that is written -/
def eb (r : Int) : Nat → Nat := fun j => ((encodeRuneZ r)[j]?.getD 0).toNat
def el (r : Int) : Nat := (encodeRuneZ r).length
def want (r : Int) : Int := if r < 0 ∨ 1114111 < r ∨ (55296 ≤ r ∧ r ≤ 57343) then 65533 else r
theorem eb_lt (r : Int) : ∀ j, eb r j < 256 := by
  intro j
  unfold eb
  rcases h : (encodeRuneZ r)[j]? with _ | x
  · simp
  · have := encodeRuneZ_byte r x (List.mem_of_getElem? h)
    simp only [Option.getD_some]
    omega
theorem el_pos (r : Int) : 1 ≤ el r ∧ el r ≤ 4 := encodeRuneZ_length r

/-- what is known of a rune's bytes, by how many they are -/
inductive Enc (f : Nat → Nat) (n v : Nat) : Prop
  | one (hn : n = 1) (h0 : f 0 = v) (hv : v < 128)
  | two (hn : n = 2) (h0 : f 0 = 192 + v / 64) (h1 : f 1 = 128 + v % 64) (hv : 128 ≤ v) (hv2 : v < 2048)
  | three (hn : n = 3) (h0 : f 0 = 224 + v / 4096) (h1 : f 1 = 128 + v / 64 % 64) (h2 : f 2 = 128 + v % 64) (hv : 2048 ≤ v) (hv2 : v < 65536) (hv3 : v < 55296 ∨ 57343 < v)
  | four (hn : n = 4) (h0 : f 0 = 240 + v / 262144) (h1 : f 1 = 128 + v / 4096 % 64) (h2 : f 2 = 128 + v / 64 % 64) (h3 : f 3 = 128 + v % 64) (hv : 65536 ≤ v) (hv2 : v < 1114112)
theorem eb_enc (r : Int) : Enc (eb r) (el r) (want r).toNat := by
  by_cases h : r < 0 ∨ (55296 ≤ r ∧ r ≤ 57343) ∨ 1114111 < r
  · have e := encodeRuneZ_bad h
    have w : want r = 65533 := by unfold want; rw [if_pos (by omega)]
    rw [w]
    refine .three ?_ ?_ ?_ ?_ (by decide) (by decide) (by decide)
    · simp [el, e]
    all_goals simp [eb, e]
  · have w : want r = r := by unfold want; rw [if_neg (by omega)]
    rw [w]
    by_cases h1 : r ≤ 127
    · have e := encodeRuneZ_one (r := r) (by omega) h1
      exact .one (by simp [el, e]) (by simp [eb, e]) (by omega)
    by_cases h2 : r ≤ 2047
    · have e := encodeRuneZ_two (r := r) (by omega) h2
      exact .two (by simp [el, e]) (by simp [eb, e]; omega) (by simp [eb, e]; omega) (by omega) (by omega)
    by_cases h3 : r ≤ 65535
    · have e := encodeRuneZ_three (r := r) (by omega)
      exact .three (by simp [el, e]) (by simp [eb, e]; omega) (by simp [eb, e]; omega) (by simp [eb, e]; omega) (by omega) (by omega) (by omega)
    · have e := encodeRuneZ_four (r := r) (by omega) (by omega)
      exact .four (by simp [el, e]) (by simp [eb, e]; omega) (by simp [eb, e]; omega) (by simp [eb, e]; omega) (by simp [eb, e]; omega) (by omega) (by omega)
theorem Enc.fs {f : Nat → Nat} {n v : Nat} (h : Enc f n v) : size (f 0) = n := by
  cases h with
  | one hn h0 hv => rcases size_cases (f 0) with h | h | h | h | h <;> omega
  | two hn h0 h1 hv hv2 => rcases size_cases (f 0) with h | h | h | h | h <;> omega
  | three hn h0 h1 h2 hv hv2 hv3 => rcases size_cases (f 0) with h | h | h | h | h <;> omega
  | four hn h0 h1 h2 h3 hv hv2 => rcases size_cases (f 0) with h | h | h | h | h <;> omega
theorem Enc.fk {f : Nat → Nat} {n v : Nat} (h : Enc f n v) : Rn.fk f n = n := by
  have hs := h.fs
  unfold Rn.fk
  cases h with
  | one hn h0 hv => subst hn; rw [len1 hs]; omega
  | two hn h0 h1 hv hv2 =>
    subst hn
    rw [len2 hs]
    rcases size_cases (f 0) with h | ⟨_, _, _, _, _⟩ | h | h | h <;> omega
  | three hn h0 h1 h2 hv hv2 hv3 =>
    subst hn
    rw [len3 hs]
    rcases size_cases (f 0) with h | h | ⟨_, _, _, h | h | h⟩ | h | h <;> omega
  | four hn h0 h1 h2 h3 hv hv2 =>
    subst hn
    rw [len4 hs]
    rcases size_cases (f 0) with h | h | h | ⟨_, _, _, h | h | h⟩ | h <;> omega
theorem Enc.fv {f : Nat → Nat} {n v : Nat} (h : Enc f n v) : Rn.fv f = v := by
  have hs := h.fs
  unfold Rn.fv val
  rw [hs]
  cases h with
  | one hn h0 hv => subst hn; simp [h0]
  | two hn h0 h1 hv hv2 => subst hn; simp only [Nat.reduceEqDiff, if_false, if_true]; omega
  | three hn h0 h1 h2 hv hv2 hv3 => subst hn; simp only [Nat.reduceEqDiff, if_false, if_true]; omega
  | four hn h0 h1 h2 h3 hv hv2 => subst hn; simp only [Nat.reduceEqDiff, if_false]; omega
theorem Enc.pos {f : Nat → Nat} {n v : Nat} (h : Enc f n v) : 0 < n ∧ n ≤ 4 := by cases h <;> omega
theorem Enc.fsn {f : Nat → Nat} {n v : Nat} (h : Enc f n v) : Rn.fs f n = n := by
  have := h.pos
  unfold Rn.fs
  rw [if_neg (by omega)]
  exact h.fs
theorem Enc.whole {f : Nat → Nat} {n v : Nat} (h : Enc f n v) : Rn.whole f n = true := by
  have := h.pos
  have a := h.fk
  have b := h.fsn
  unfold Rn.whole
  rw [a, b]
  simp; omega
theorem Enc.waits {f : Nat → Nat} {n v : Nat} (h : Enc f n v) {m : Nat} (hm : 0 < m) (hmn : m < n) : Rn.waits f m = true := by
  have a := h.fk
  have b := h.fs
  have e := fk_min f (m := m) (n := n) (by omega) (by omega)
  have e1 : Rn.fs f m = n := by unfold Rn.fs; rw [if_neg (by omega)]; exact b
  unfold Rn.waits
  rw [e, e1, a]
  simp; omega
end Go.Proofs.YtoccedbnnafjcaaDoor.Rn
