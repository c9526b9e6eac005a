import Derived.Test.YtfockjlegpbooaaGreatDoorRnFull
import Derived.Test.YtfockjlegpbooaaGreatDoorRnShelf
import Derived.Deep.DeepFit
import Derived.LoopTactic
import Derived.Laws.RangeAny
import Derived.Laws.IdiomStrings
import Derived.Lib.ConvBytes
import Derived.Shelf.Strings.BuilderRune
/-
  WALKS over runes.Next: what it answers of the bytes of a slice, told by their place.
-/
namespace Go.Proofs.YtfockjlegpbooaaGreatDoor
open Go.RowKit Go.Lib

namespace Rn
/-- bytes that are told by their place, as an array of bytes -/
def arr (f : Nat → Nat) (n : Nat) : ByteArray := ⟨Array.ofFn (n := n) fun i => (f i).toUInt8⟩
theorem arr_size (f : Nat → Nat) (n : Nat) : (arr f n).size = n := by
  show (Array.ofFn (n := n) fun i => (f i).toUInt8).size = n
  simp
theorem arr_get (f : Nat → Nat) (n j : Nat) (h : j < n) (hf : f j < 256) : ((arr f n).get! j).toNat = f j := by
  have e : (arr f n).get! j = (f j).toUInt8 := by
    show (Array.ofFn (n := n) fun i => (f i).toUInt8)[j]! = _
    rw [getElem!_pos _ _ (by simpa using h)]
    simp
  rw [e]
  simp; omega
theorem decodeN_congr {n a0 a1 a2 a3 b0 b1 b2 b3 : Nat} (h0 : 0 < n → a0 = b0) (h1 : 1 < n → a1 = b1) (h2 : 2 < n → a2 = b2) (h3 : 3 < n → a3 = b3) (hn : 0 < n) : decodeN n a0 a1 a2 a3 = decodeN n b0 b1 b2 b3 := by
  obtain rfl := h0 hn
  by_cases c1 : 1 < n
  · obtain rfl := h1 c1
    by_cases c2 : 2 < n
    · obtain rfl := h2 c2
      by_cases c3 : 3 < n
      · rw [h3 c3]
      · simp [decodeN, c3]
    · have c3 : ¬ 3 < n := by omega
      simp [decodeN, c2, c3]
  · have c2 : ¬ 2 < n := by omega
    have c3 : ¬ 3 < n := by omega
    simp [decodeN, c1, c2, c3]
theorem arr_dec (f : Nat → Nat) (n : Nat) (hf : ∀ j, f j < 256) (hn : 0 < n) : decodeGo (arr f n) = dec f n := by
  unfold decodeGo
  rw [if_neg (by rw [arr_size]; omega), decode_at, arr_size, dec]
  exact decodeN_congr (fun h => arr_get f n 0 h (hf 0)) (fun h => arr_get f n 1 h (hf 1)) (fun h => arr_get f n 2 h (hf 2)) (fun h => arr_get f n 3 h (hf 3)) hn

/-- what Next answers where the place is none of the bytes' ends: the rune, its width, how -/
def nx (f : Nat → Nat) (n : Nat) : Nat × Nat × Nat :=
  if n = 0 then (0, 0, 3) else if waits f n then (0, n, 1) else if whole f n then (fv f, fs f n, 0) else (65533, 1, 2)
theorem fv_le (f : Nat → Nat) (hf : ∀ j, f j < 256) : fv f < 2097152 := by
  have := hf 0
  unfold fv val
  repeat' split
  all_goals omega
theorem waits_full (f : Nat → Nat) (n : Nat) (hf : ∀ j, f j < 256) (hn : 0 < n) : fullN n (f 0) (f 1) (f 2) = !waits f n := by
  rw [full_eq n (f 0) (f 1) (f 2) (f 3) (hf 0)]
  have : ¬ n = 0 := by omega
  simp [waits, fs, fk, this]
theorem dec_whole (f : Nat → Nat) (n : Nat) (hf : ∀ j, f j < 256) (hn : 0 < n) : dec f n = if whole f n then (fv f, fs f n) else (65533, 1) := by
  have : ¬ n = 0 := by omega
  rw [dec, dec_eq _ _ _ _ _ hn (hf 1) (hf 2) (hf 3)]
  simp [whole, fs, fk, fv, this]
/-- a whole character of one byte is no U+FFFD -/
theorem whole_one (f : Nat → Nat) (n : Nat) (h1 : fs f n = 1) : fv f < 128 := by
  unfold fs at h1
  split at h1
  · omega
  · rcases size_cases (f 0) with ⟨e, c⟩ | ⟨e, c⟩ | ⟨e, c⟩ | ⟨e, c⟩ | ⟨e, c⟩
    · simp [fv, val, e, c]
    all_goals omega
end Rn

theorem tabs_below {B : Nat} {w w' : World} (hT : Lib.Utf8Tabs 1 2 w) (h : Below B w w') (hB : w.heap.size ≤ B) : Lib.Utf8Tabs 1 2 w' := by
  constructor
  · intro c hc
    have e := hT.1 c hc
    exact (h.cell (p := ⟨1, c, none⟩) (Nat.lt_of_lt_of_le (block_lt_of_cell e) hB)).trans e
  · intro i hi
    obtain ⟨e1, e2⟩ := hT.2 i hi
    exact ⟨(h.cell (p := ⟨2, 2 * i, none⟩) (Nat.lt_of_lt_of_le (block_lt_of_cell e1) hB)).trans e1, (h.cell (p := ⟨2, 2 * i + 1, none⟩) (Nat.lt_of_lt_of_le (block_lt_of_cell e2) hB)).trans e2⟩

/-- the bytes of a slice, told by their place -/
def Bytes (w : World) (b off n : Nat) (f : Nat → Nat) : Prop := ∀ j, j < n → w.cell? ⟨b, off + j, none⟩ = some (.int .u8 (f j))
theorem Bytes.below {w w' : World} {B b off n : Nat} {f : Nat → Nat} (h : Bytes w b off n f) (hb : Below B w w') (hB : w.heap.size ≤ B) : Bytes w' b off n f :=
  fun j hj => (hb.cell (p := ⟨b, off + j, none⟩) (Nat.lt_of_lt_of_le (block_lt_of_cell (h j hj)) hB)).trans (h j hj)
theorem Bytes.off {w : World} {b off n : Nat} {f : Nat → Nat} (h : Bytes w b off n f) {k : Nat} (hk : k ≤ n) : Bytes w b (off + k) (n - k) (Rn.off f k) :=
  fun j hj => by have := h (k + j) (by omega); rw [← Nat.add_assoc] at this; exact this
theorem Bytes.le {w : World} {b off n m : Nat} {f : Nat → Nat} (h : Bytes w b off n f) (hm : m ≤ n) : Bytes w b off m f :=
  fun j hj => h j (by omega)

end Go.Proofs.YtfockjlegpbooaaGreatDoor
/-
  WALKS over runes.beginning and runes.Good: the longest beginning that can go on to be characters.
-/
namespace Go.Proofs.YtfockjlegpbooaaGreatDoor
open Go.RowKit Go.Lib

theorem hide' {p : Prop} (h : p) : Hid p := h

namespace Rn
theorem len_min {m n b0 b1 b2 b3 : Nat} (h : m ≤ n) (hs : 0 < size b0) : len m b0 b1 b2 b3 = min m (len n b0 b1 b2 b3) := by
  unfold len
  repeat' split
  all_goals omega
theorem fk_min (f : Nat → Nat) {m n : Nat} (h : m ≤ n) (hs : 0 < size (f 0)) : fk f m = min m (fk f n) := len_min h hs
theorem fk_zero (f : Nat → Nat) (n : Nat) (hs : size (f 0) = 0) : fk f n = 0 := by simp [fk, len, hs]
/-- one byte more of a front that is no whole character: it waits just up to the front -/
theorem waits_upto (f : Nat → Nat) (n m : Nat) (hw : whole f n = false) (hm : m < n) : waits f (m + 1) = decide (m < fk f n) := by
  have a1 := fk_le_fs f n
  have a2 := fk_le f n
  have e0 : fs f n = size (f 0) := by unfold fs; rw [if_neg (by omega)]
  have e1 : fs f (m + 1) = size (f 0) := by unfold fs; rw [if_neg (by omega)]
  by_cases hs : size (f 0) = 0
  · have := fk_zero f n hs
    simp [waits, e1, hs, this]
  · have e2 := fk_min f (m := m + 1) (n := n) (by omega) (by omega)
    simp only [whole, decide_eq_false_iff_not] at hw
    rw [Bool.eq_iff_iff]
    simp only [waits, decide_eq_true_eq, e1, e2]
    rw [e0] at hw a1
    omega
end Rn

namespace Rn
/-- Good, from a place on, by at most so many characters -/
def goodFrom (f : Nat → Nat) (n : Nat) : Nat → Nat → Nat
  | 0, a => a
  | fuel + 1, a => if n ≤ a then a else if whole (off f a) (n - a) then goodFrom f n fuel (a + fs (off f a) (n - a)) else a + fk (off f a) (n - a)
def good (f : Nat → Nat) (n : Nat) : Nat := goodFrom f n n 0
theorem goodFrom_le (f : Nat → Nat) (n : Nat) (fuel a : Nat) (ha : a ≤ n) : goodFrom f n fuel a ≤ n := by
  induction fuel generalizing a with
  | zero => exact ha
  | succ m ih =>
    unfold goodFrom
    split
    · exact ha
    · split
      · next h =>
        simp only [whole, decide_eq_true_eq] at h
        have := fk_le (off f a) (n - a)
        exact ih _ (by omega)
      · have := fk_le (off f a) (n - a)
        omega
theorem good_le (f : Nat → Nat) (n : Nat) : good f n ≤ n := goodFrom_le f n n 0 (Nat.zero_le _)
theorem goodFrom_end (f : Nat → Nat) (n fuel a : Nat) (h : n ≤ a) : goodFrom f n fuel a = a := by
  cases fuel with
  | zero => rfl
  | succ m => unfold goodFrom; rw [if_pos h]
theorem nx_whole {f : Nat → Nat} {n : Nat} (h : whole f n = true) : nx f n = (fv f, fs f n, 0) := by
  have hw : waits f n = false := by
    simp only [whole, waits, decide_eq_true_eq, decide_eq_false_iff_not] at *
    omega
  have hn : ¬ n = 0 := by
    intro e
    subst e
    simp [whole, fs] at h
  unfold nx
  rw [if_neg hn, hw, h]
  simp
theorem nx_waits {f : Nat → Nat} {n : Nat} (h : waits f n = true) : nx f n = (0, n, 1) ∧ fk f n = n := by
  have hn : ¬ n = 0 := by
    intro e
    subst e
    simp [waits, fs] at h
  unfold nx
  rw [if_neg hn, h]
  simp only [waits, decide_eq_true_eq] at h
  exact ⟨rfl, h.2.1⟩
theorem nx_bad {f : Nat → Nat} {n : Nat} (hn : 0 < n) (h : waits f n = false) (h2 : whole f n = false) : nx f n = (65533, 1, 2) := by
  unfold nx
  rw [if_neg (by omega), h, h2]
  simp
theorem nx_how (f : Nat → Nat) (n : Nat) : (nx f n).2.2 = 0 ∨ (nx f n).2.2 = 1 ∨ (nx f n).2.2 = 2 ∨ (nx f n).2.2 = 3 := by
  unfold nx
  repeat' split
  all_goals simp
end Rn

end Go.Proofs.YtfockjlegpbooaaGreatDoor
/-
  WALKS over runes.endsLine and runes.At: a place by its bytes.
-/
namespace Go.Proofs.YtfockjlegpbooaaGreatDoor
open Go.RowKit Go.Lib

namespace Rn
/-- does a line end behind the character r at p? -/
def lineEnd (f : Nat → Nat) (n p r : Nat) : Bool := if r = 13 then decide (p + 1 = n ∨ f (p + 1) ≠ 10) else decide (r = 10)
/-- rune, line, column behind the characters from p on up to a, by at most so many -/
def plcFrom (f : Nat → Nat) (n a : Nat) : Nat → Nat → Nat → Nat → Nat → Nat × Nat × Nat
  | 0, _, rn, ln, co => (rn, ln, co)
  | fuel + 1, p, rn, ln, co => if a ≤ p then (rn, ln, co) else
      if lineEnd f n p (dec (off f p) (a - p)).1 then plcFrom f n a fuel (p + (dec (off f p) (a - p)).2) (rn + 1) (ln + 1) 1
      else plcFrom f n a fuel (p + (dec (off f p) (a - p)).2) (rn + 1) ln (co + 1)
def plc (f : Nat → Nat) (n a : Nat) : Nat × Nat × Nat := plcFrom f n a a 0 0 1 1
theorem plcFrom_end (f : Nat → Nat) (n a fuel p rn ln co : Nat) (h : a ≤ p) : plcFrom f n a fuel p rn ln co = (rn, ln, co) := by
  cases fuel with
  | zero => rfl
  | succ m => unfold plcFrom; rw [if_pos h]
theorem dec_pos (f : Nat → Nat) (n : Nat) (hf : ∀ j, f j < 256) (hn : 0 < n) : 0 < (dec f n).2 ∧ (dec f n).2 ≤ n ∧ (dec f n).2 ≤ 4 := by
  rw [dec_whole f n hf hn]
  have a1 := fk_le f n
  have a2 := fs_le f n
  split
  · next h =>
    simp only [whole, decide_eq_true_eq] at h
    exact ⟨h.1, by show fs f n ≤ n; omega, a2⟩
  · exact ⟨by simp, by show 1 ≤ n; omega, by simp⟩
theorem dec_lt (f : Nat → Nat) (n : Nat) (hf : ∀ j, f j < 256) (hn : 0 < n) : (dec f n).1 < 2097152 := by
  rw [dec_whole f n hf hn]
  split
  · exact fv_le f hf
  · show 65533 < 2097152; omega
/-- the model's decoder at a place of such bytes -/
theorem arr_decode (f : Nat → Nat) (n p : Nat) (hf : ∀ j, f j < 256) (hp : p < n) : Utf8.decode (arr f n) p = dec (off f p) (n - p) := by
  rw [decode_at, arr_size, dec]
  exact decodeN_congr (fun _ => arr_get f n p hp (hf _)) (fun h => arr_get f n (p + 1) (by omega) (hf _)) (fun h => arr_get f n (p + 2) (by omega) (hf _)) (fun h => arr_get f n (p + 3) (by omega) (hf _)) (by omega)
end Rn

theorem ret_bool {a b : Bool} (h : a = b) : Ending.returned (.bool a) = .returned (.bool b) := by rw [h]

/-- 'string(b)' of bytes that are told by their place -/
theorem bytes_string (W : World) (b off n cap : Nat) (f : Nat → Nat) (hf : ∀ j, f j < 256) (hp : Bytes W b off n f) :
    (convert 142 9 (.slice (some ⟨b, off, none⟩) n cap)).run Tryz.prog W = .ok (.string (Rn.arr f n)) W := by
  have h := run_convert_bytes_back (P := Tryz.prog) W 142 9 5 ⟨b, off, none⟩ cap (Rn.arr f n).data.toList Tryz.underlying142 Tryz.underlying5 Tryz.underlying9 (fun j hj => by
    have hj' : j < n := by simpa [Rn.arr] using hj
    rw [show (Addr.add ⟨b, off, none⟩ j) = ⟨b, off + j, none⟩ from by simp [Addr.add], hp j hj']
    have e : ((Rn.arr f n).data.toList[j]).toNat = f j := by
      simp [Rn.arr]
      have := hf j
      omega
    rw [e])
  have e1 : (Rn.arr f n).data.toList.length = n := by simp [Rn.arr]
  rw [e1] at h
  simpa using h

/-- 'next' of an iterator that is the last block -/
theorem next_alloc (W : World) (k : Nat) (hk : W.heap.size = k) (f : Nat → Nat) (a pos : Nat) (hf : ∀ j, f j < 256) (hlt : pos < a) (ty : TypeId) :
    (Instr.next (.pointer (some ⟨k, 0, none⟩)) true ty).run Tryz.prog (W.alloc (.stringIter (Rn.arr f a) pos)) =
      .ok (.tuple #[.bool true, .int .i64 pos, .int .i32 (Rn.dec (Rn.off f pos) (a - pos)).1]) (W.alloc (.stringIter (Rn.arr f a) (pos + (Rn.dec (Rn.off f pos) (a - pos)).2))) := by
  subst hk
  have := run_next_any (P := Tryz.prog) W (Rn.arr f a) pos ty (by rw [Rn.arr_size]; exact hlt)
  rw [Rn.arr_decode f a pos hf hlt] at this
  exact this
theorem next_alloc_end (W : World) (k : Nat) (hk : W.heap.size = k) (f : Nat → Nat) (a pos : Nat) (hlt : ¬ pos < a) (ty : TypeId) :
    (Instr.next (.pointer (some ⟨k, 0, none⟩)) true ty).run Tryz.prog (W.alloc (.stringIter (Rn.arr f a) pos)) = .ok (.tuple #[.bool false]) (W.alloc (.stringIter (Rn.arr f a) pos)) := by
  subst hk
  exact run_next_end (P := Tryz.prog) W (Rn.arr f a) pos ty (by rw [Rn.arr_size]; exact hlt)
theorem iterPos_alloc (W : World) (k : Nat) (s : ByteArray) (p : Nat) (hk : W.heap.size = k) : (W.alloc (.stringIter s p)).iterPos k = p := by
  subst hk
  exact World.iterPos_iter W s p
end Go.Proofs.YtfockjlegpbooaaGreatDoor
/-
  WALKS over (*strings.Builder).copyCheck and WriteRune (over this program; the shelf's own proofs are of another body of copyCheck), and over runes.pieceWidth.
-/
namespace Go.Proofs.YtfockjlegpbooaaGreatDoor
open Go.RowKit Go.Lib

theorem sizeBuilder : (Tryz.prog.info? 144).map (·.size) = some 2 := by kernel_rfl
theorem liesBuilder : liesAt Tryz.prog Tryz.prog.depth 144 (2 / Tryz.prog.cellsOf 144) 0 144 1 = true := by kernel_rfl

set_option maxHeartbeats 1000000 in
set_option maxRecDepth 100000 in
theorem copyCheck_used (b : Nat) (w : World) (h0 : w.cell? ⟨b, 0, none⟩ = some (.pointer (some ⟨b, 0, none⟩))) :
    Calls Tryz.prog 103 #[.pointer (some ⟨b, 0, none⟩)] w fun e w' => e = .returned (.tuple #[]) ∧ w' = w := by
  obtain ⟨j, hj, _⟩ := Option.map_eq_some_iff.1 sizeBuilder
  go_enter Tryz.func103, Tryz.ntmps103
  go_wp2
  rw [Lib.run_neq_ptr_same w _ Tryz.underlying141 hj]
  go_wp2
  go_end0
  exact ⟨rfl, rfl⟩

set_option maxHeartbeats 1000000 in
set_option maxRecDepth 100000 in
theorem copyCheck_fresh (b : Nat) (w : World) (h0 : w.cell? ⟨b, 0, none⟩ = some (.pointer none)) (hsh : w.shape? b = some (144, 2)) (hfz : w.frozen? ⟨b, 0, none⟩ = false) :
    Calls Tryz.prog 103 #[.pointer (some ⟨b, 0, none⟩)] w fun e w' => e = .returned (.tuple #[]) ∧ w' = w.setCell ⟨b, 0, none⟩ (.pointer (some ⟨b, 0, none⟩)) := by
  obtain ⟨j, hj, hjs⟩ := Option.map_eq_some_iff.1 sizeBuilder
  go_enter Tryz.func103, Tryz.ntmps103
  go_wp2
  rw [Lib.run_to_unsafe w ⟨b, 0, none⟩ Tryz.underlying141 Tryz.underlying178 hj (by rw [hjs]; decide) hsh (Nat.zero_lt_succ 1)]
  simp only [Result.andThen]
  rw [Oper.upon_value]
  go_wp2
  rw [run_callFunc_extern Tryz.func117 (by kernel_rfl) (by kernel_rfl) (by kernel_rfl) (e := Extern.AbiNoEscape.same) (by kernel_rfl)]
  rw [Lib.run_noEscape]
  simp only [Result.andThen]
  rw [Oper.upon_value]
  go_wp2
  rw [Lib.run_from_unsafe w ⟨b, 0, none⟩ Tryz.underlying178 Tryz.underlying141 hj hsh liesBuilder]
  simp only [Result.andThen]
  rw [Oper.upon_value]
  go_wp2
  go_end0
  exact ⟨rfl, rfl⟩

theorem copyCheck_k (B b : Nat) (bs : List Value) (w : World) (h : Lib.IsBuilderF 144 5 B b bs w) :
    Calls Tryz.prog 103 #[.pointer (some ⟨b, 0, none⟩)] w fun e w' => e = .returned (.tuple #[]) ∧ (Lib.BuilderAtF 144 5 B b (.pointer (some ⟨b, 0, none⟩)) bs w' ∧ Below B w w' ∧ Lib.OthersKept 5 (some b) w w') := by
  rcases h with h | h
  · refine (copyCheck_fresh b w h.cell0 h.shape h.frozen0).mono ?_
    rintro e w' ⟨rfl, rfl⟩
    exact ⟨rfl, h.used _, (Below.refl B w).setCell (p := ⟨b, 0, none⟩) h.1 _, (Lib.OthersKept.refl _ _ w).setCell ⟨b, 0, none⟩ rfl _⟩
  · refine (copyCheck_used b w h.cell0).mono ?_
    rintro e w' ⟨rfl, rfl⟩
    exact ⟨rfl, h, Below.refl B _, Lib.OthersKept.refl _ _ _⟩

namespace Rn
/-- how many bytes the U+FFFD stands for that range gives at the front -/
def pw (f : Nat → Nat) (n : Nat) : Nat := if whole f n then fs f n else max 1 (fk f n)
theorem arr_extract (f : Nat → Nat) (n a b : Nat) (ha : a ≤ b) (hb : b ≤ n) : (arr f n).extract a b = arr (off f a) (b - a) := by
  have e : ((arr f n).extract a b).data = (arr (off f a) (b - a)).data := by
    rw [ByteArray.data_extract]
    apply Array.ext
    · simp [arr]; omega
    · intro i h1 h2
      simp [arr, off]
  exact congrArg ByteArray.mk e
theorem whole_le {f : Nat → Nat} {m n : Nat} (h : m ≤ n) (hw : whole f n = false) : whole f m = false := by
  by_cases h0 : m = 0
  · subst h0; simp [whole, fs]
  have e0 : fs f n = size (f 0) := by unfold fs; rw [if_neg (by omega)]
  have e1 : fs f m = size (f 0) := by unfold fs; rw [if_neg (by omega)]
  simp only [whole, decide_eq_false_iff_not, e0, e1] at hw ⊢
  intro ⟨c1, c2⟩
  have e2 := fk_min f h c1
  have a1 := fk_le_fs f n
  omega
theorem fk_three {f : Nat → Nat} {n : Nat} (hw : whole f n = false) : fk f (min n 3) = fk f n := by
  have a1 := fk_le_fs f n
  have a2 := fs_le f n
  have a3 := fk_le f n
  by_cases h0 : n = 0
  · subst h0; rfl
  have e0 : fs f n = size (f 0) := by unfold fs; rw [if_neg (by omega)]
  by_cases hs : size (f 0) = 0
  · rw [fk_zero _ _ hs, fk_zero _ _ hs]
  have e2 := fk_min f (m := min n 3) (n := n) (by omega) (by omega)
  simp only [whole, decide_eq_false_iff_not] at hw
  omega
end Rn

theorem ret_int {k : IntKind} {a b : Int} (h : a = b) : Ending.returned (.int k a) = .returned (.int k b) := by rw [h]
theorem below_bytesWorld (w : World) (e : TypeId) (s : ByteArray) : Below w.heap.size w (Lib.bytesWorld w e s) :=
  ⟨rfl, rfl, rfl, by rw [Lib.bytesWorld_size]; omega, fun k hk => Lib.bytesWorld_at_old w e s k hk⟩
theorem bytes_bytesWorld (w : World) (e : TypeId) (f : Nat → Nat) (m : Nat) (hf : ∀ j, f j < 256) : Bytes (Lib.bytesWorld w e (Rn.arr f m)) w.heap.size 0 m f := by
  intro j hj
  have h := Lib.bytesWorld_cell w e (Rn.arr f m) j (by rw [Rn.arr_size]; exact hj)
  rw [Nat.zero_add, h]
  have e1 : (((Rn.arr f m).data.toList.getD j 0).toNat : Nat) = f j := by
    have := hf j
    simp [Rn.arr, List.getD, hj]
    omega
  rw [e1]

end Go.Proofs.YtfockjlegpbooaaGreatDoor
