import Derived.Test.YtbfabpjhdhhpfaaDoorRnBeg
import Derived.Laws.RangeAny
import Derived.Laws.IdiomStrings
import Derived.Lib.ConvBytes
import Derived.Shelf.Strings.BuilderRune
import Derived.RangeFuncNested
import Derived.RangeFuncBound
import Derived.RangeFuncCalls
import Derived.RangeFuncLeaves
import Derived.Shelf.Abstract
import Derived.Shelf.RegionOpen
import Derived.OwnWalkIn
import Derived.TacticsInMore
import Derived.LoopNIn
import Derived.LoopIn
import Derived.Lib.SmallJoins
import Derived.Laws.Cover4
import Derived.Test.YtbfabpjhdhhpfaaDoorRnEnc
/-
  WALKS over runes.endsLine and runes.At: a place by its bytes.
-/
namespace Go.Proofs.YtbfabpjhdhhpfaaDoor
open Go.RowKit Go.Lib

namespace Rn
/-- does a line end behind the character r at p? -/
def lineEnd (f : Nat → Nat) (n p r : Nat) : Bool := if r = 13 then decide (p + 1 = n ∨ f (p + 1) ≠ 10) else decide (r = 10)
/-- rune, line, column behind the characters from p on up to a, by at most so many -/
def plcFrom (f : Nat → Nat) (n a : Nat) : Nat → Nat → Nat → Nat → Nat → Nat × Nat × Nat
  | 0, _, rn, ln, co => (rn, ln, co)
  | fuel + 1, p, rn, ln, co => if a ≤ p then (rn, ln, co) else
      if lineEnd f n p (dec (off f p) (a - p)).1 then plcFrom f n a fuel (p + (dec (off f p) (a - p)).2) (rn + 1) (ln + 1) 1
      else plcFrom f n a fuel (p + (dec (off f p) (a - p)).2) (rn + 1) ln (co + 1)
def plc (f : Nat → Nat) (n a : Nat) : Nat × Nat × Nat := plcFrom f n a a 0 0 1 1
theorem plcFrom_end (f : Nat → Nat) (n a fuel p rn ln co : Nat) (h : a ≤ p) : plcFrom f n a fuel p rn ln co = (rn, ln, co) := by
  cases fuel with
  | zero => rfl
  | succ m => unfold plcFrom; rw [if_pos h]
theorem dec_pos (f : Nat → Nat) (n : Nat) (hf : ∀ j, f j < 256) (hn : 0 < n) : 0 < (dec f n).2 ∧ (dec f n).2 ≤ n ∧ (dec f n).2 ≤ 4 := by
  rw [dec_whole f n hf hn]
  have a1 := fk_le f n
  have a2 := fs_le f n
  split
  · next h =>
    simp only [whole, decide_eq_true_eq] at h
    exact ⟨h.1, by show fs f n ≤ n; omega, a2⟩
  · exact ⟨by simp, by show 1 ≤ n; omega, by simp⟩
theorem dec_lt (f : Nat → Nat) (n : Nat) (hf : ∀ j, f j < 256) (hn : 0 < n) : (dec f n).1 < 2097152 := by
  rw [dec_whole f n hf hn]
  split
  · exact fv_le f hf
  · show 65533 < 2097152; omega
/-- the model's decoder at a place of such bytes -/
theorem arr_decode (f : Nat → Nat) (n p : Nat) (hf : ∀ j, f j < 256) (hp : p < n) : Utf8.decode (arr f n) p = dec (off f p) (n - p) := by
  rw [decode_at, arr_size, dec]
  exact decodeN_congr (fun _ => arr_get f n p hp (hf _)) (fun h => arr_get f n (p + 1) (by omega) (hf _)) (fun h => arr_get f n (p + 2) (by omega) (hf _)) (fun h => arr_get f n (p + 3) (by omega) (hf _)) (by omega)
end Rn

theorem ret_bool {a b : Bool} (h : a = b) : Ending.returned (.bool a) = .returned (.bool b) := by rw [h]

set_option maxHeartbeats 1000000 in
theorem endsLine_any (f : Nat → Nat) (n b off cap i : Nat) (r : Nat) (w : World) (hi : i < n) (hn : n ≤ 9223372036854775807) (hp : Bytes w b off n f) :
    Calls Tryd.prog 41 #[.slice (some ⟨b, off, none⟩) n cap, .int .i64 i, .int .i32 r] w fun e w' => e = .returned (.bool (Rn.lineEnd f n i r)) ∧ w' = w := by
  unfold Rn.lineEnd
  by_cases hr : r = 13
  · subst hr
    by_cases h1 : i + 1 = n
    · have h2 : ((i : Int) + 1 == n) = true := by simp; omega
      clear hp
      go_enter Tryd.func41, Tryd.ntmps41
      go_wp2
      go_ret
      exact ⟨ret_bool (by simp), rfl⟩
    · have h2 : ((i : Int) + 1 == n) = false := by simp; omega
      have c1 := hp (i + 1) (by omega)
      have hl : (i : Int) + 1 < n := by omega
      clear hp
      go_enter Tryd.func41, Tryd.ntmps41
      go_wp2
      go_ret
      refine ⟨ret_bool ?_, rfl⟩
      rw [Bool.eq_iff_iff]
      simp
      omega
  · have h2 : ((r : Int) == 13) = false := by simp; omega
    clear hp
    go_enter Tryd.func41, Tryd.ntmps41
    go_wp2
    go_ret
    refine ⟨ret_bool ?_, rfl⟩
    rw [Bool.eq_iff_iff]
    simp
    omega

/-- 'string(b)' of bytes that are told by their place -/
theorem bytes_string (W : World) (b off n cap : Nat) (f : Nat → Nat) (hf : ∀ j, f j < 256) (hp : Bytes W b off n f) :
    (convert 27 9 (.slice (some ⟨b, off, none⟩) n cap)).run Tryd.prog W = .ok (.string (Rn.arr f n)) W := by
  have h := run_convert_bytes_back (P := Tryd.prog) W 27 9 5 ⟨b, off, none⟩ cap (Rn.arr f n).data.toList Tryd.underlying27 Tryd.underlying5 Tryd.underlying9 (fun j hj => by
    have hj' : j < n := by simpa [Rn.arr] using hj
    rw [show (Addr.add ⟨b, off, none⟩ j) = ⟨b, off + j, none⟩ from by simp [Addr.add], hp j hj']
    have e : ((Rn.arr f n).data.toList[j]).toNat = f j := by
      simp [Rn.arr]
      have := hf j
      omega
    rw [e])
  have e1 : (Rn.arr f n).data.toList.length = n := by simp [Rn.arr]
  rw [e1] at h
  simpa using h

set_option maxHeartbeats 1000000 in
/-- the place is outside -/
theorem at_out (v : Option Addr) (n cap : Nat) (k : Int) (w : World) (h : k < 0 ∨ (n : Int) < k) :
    Calls Tryd.prog 18 #[.slice v n cap, .int .i64 k] w fun e w' => e = .returned (.tuple #[.agg #[.int .i64 0, .int .i64 0, .int .i64 0, .int .i64 0], .int .i64 2]) ∧ Below w.heap.size w w' := by
  rcases h with h | h
  · go_enter Tryd.func18, Tryd.ntmps18
    go_wp2
    exact bodyPost_ret (v := .tuple #[.agg #[.int .i64 0, .int .i64 0, .int .i64 0, .int .i64 0], .int .i64 2]) (by simp [results, Tryd.results18, go_sem]) rfl ⟨rfl, (Below.refl _ _).alloc (Nat.le_refl _) _⟩
  · have h0 : ¬ k < 0 := by omega
    go_enter Tryd.func18, Tryd.ntmps18
    go_wp2
    exact bodyPost_ret (v := .tuple #[.agg #[.int .i64 0, .int .i64 0, .int .i64 0, .int .i64 0], .int .i64 2]) (by simp [results, Tryd.results18, go_sem]) rfl ⟨rfl, (Below.refl _ _).alloc (Nat.le_refl _) _⟩

/-- 'next' of an iterator that is the last block -/
theorem next_alloc (W : World) (k : Nat) (hk : W.heap.size = k) (f : Nat → Nat) (a pos : Nat) (hf : ∀ j, f j < 256) (hlt : pos < a) (ty : TypeId) :
    (Instr.next (.pointer (some ⟨k, 0, none⟩)) true ty).run Tryd.prog (W.alloc (.stringIter (Rn.arr f a) pos)) =
      .ok (.tuple #[.bool true, .int .i64 pos, .int .i32 (Rn.dec (Rn.off f pos) (a - pos)).1]) (W.alloc (.stringIter (Rn.arr f a) (pos + (Rn.dec (Rn.off f pos) (a - pos)).2))) := by
  subst hk
  have := run_next_any (P := Tryd.prog) W (Rn.arr f a) pos ty (by rw [Rn.arr_size]; exact hlt)
  rw [Rn.arr_decode f a pos hf hlt] at this
  exact this
theorem next_alloc_end (W : World) (k : Nat) (hk : W.heap.size = k) (f : Nat → Nat) (a pos : Nat) (hlt : ¬ pos < a) (ty : TypeId) :
    (Instr.next (.pointer (some ⟨k, 0, none⟩)) true ty).run Tryd.prog (W.alloc (.stringIter (Rn.arr f a) pos)) = .ok (.tuple #[.bool false]) (W.alloc (.stringIter (Rn.arr f a) pos)) := by
  subst hk
  exact run_next_end (P := Tryd.prog) W (Rn.arr f a) pos ty (by rw [Rn.arr_size]; exact hlt)
theorem iterPos_alloc (W : World) (k : Nat) (s : ByteArray) (p : Nat) (hk : W.heap.size = k) : (W.alloc (.stringIter s p)).iterPos k = p := by
  subst hk
  exact World.iterPos_iter W s p
/-- At's world in its loop -/
def atW (w : World) (s : ByteArray) (pos a rn ln co : Nat) : World :=
  ((w.alloc (.cells #[.int .i64 0, .int .i64 0, .int .i64 0, .int .i64 0] 34)).alloc (.cells #[.int .i64 a, .int .i64 rn, .int .i64 ln, .int .i64 co] 34)).alloc (.stringIter s pos)

set_option maxHeartbeats 2000000 in
/-- At of a place of the bytes -/
theorem at_in (f : Nat → Nat) (n b off cap a : Nat) (w : World) (hf : ∀ j, f j < 256) (ha : a ≤ n) (hc : n ≤ cap) (_hm : cap ≤ maxLen) (hbig : n ≤ 4611686018427387904)
    (hp : Bytes w b off n f) :
    Calls Tryd.prog 18 #[.slice (some ⟨b, off, none⟩) n cap, .int .i64 a] w fun e w' =>
      e = .returned (.tuple #[.agg #[.int .i64 a, .int .i64 (Rn.plc f n a).1, .int .i64 (Rn.plc f n a).2.1, .int .i64 (Rn.plc f n a).2.2], .int .i64 0]) ∧ Below w.heap.size w w' := by
  have hm : cap ≤ 9223372036854775807 := by unfold maxLen at _hm; omega
  have h0 : ¬ (a : Int) < 0 := by omega
  have h1 : ¬ (n : Int) < (a : Int) := by omega
  have hcv : ∀ o1 o2, (convert 27 9 (.slice (some ⟨b, off, none⟩) a cap)).run Tryd.prog ((w.alloc o1).alloc o2) = .ok (.string (Rn.arr f a)) ((w.alloc o1).alloc o2) := fun o1 o2 =>
    bytes_string _ b off a cap f hf (((hp.le ha).below ((Below.refl w.heap.size w).alloc (Nat.le_refl _) o1) (Nat.le_refl _)).below ((Below.refl (w.alloc o1).heap.size (w.alloc o1)).alloc (Nat.le_refl _) o2) (Nat.le_refl _))
  go_enter Tryd.func18, Tryd.ntmps18
  go_wp2
  go_loopw [] (fun wr => ∃ (pos fuel rn ln co : Nat), wr = atW w (Rn.arr f a) pos a rn ln co ∧ pos ≤ a ∧ a ≤ pos + fuel ∧ rn ≤ pos ∧ ln ≤ pos + 1 ∧ co ≤ pos + 1 ∧ Rn.plcFrom f n a fuel pos rn ln co = Rn.plc f n a) (fun wr => a - wr.iterPos (w.heap.size + 2))
  case atStart => exact ⟨0, a, 0, 1, 1, rfl, by omega, by omega, by omega, by omega, by omega, rfl⟩
  case round =>
    obtain ⟨pos, fuel, rn, ln, co, rfl, hpa, hfu, hrn, hln, hco, hpl⟩ := hrel
    have hsz : (Rn.arr f a).size = a := Rn.arr_size f a
    by_cases hlt : pos < a
    · obtain ⟨m, rfl⟩ : ∃ m, fuel = m + 1 := ⟨fuel - 1, by omega⟩
      have hg : ∀ j, Rn.off f pos j < 256 := fun j => hf _
      obtain ⟨hd1, hd2, hd3⟩ := Rn.dec_pos (Rn.off f pos) (a - pos) hg (by omega)
      have hd4 := Rn.dec_lt (Rn.off f pos) (a - pos) hg (by omega)
      have hnx := fun W hk ty => next_alloc W (w.heap.size + 1 + 1) hk f a pos hf hlt ty
      have cE : ∀ o1 o2 o3, _ := fun o1 o2 o3 => endsLine_any f n b off cap pos (Rn.dec (Rn.off f pos) (a - pos)).1 (((w.alloc o1).alloc o2).alloc o3) (by omega) (by omega)
        (((hp.below ((Below.refl w.heap.size w).alloc (Nat.le_refl _) o1) (Nat.le_refl _)).below ((Below.refl (w.alloc o1).heap.size (w.alloc o1)).alloc (Nat.le_refl _) o2) (Nat.le_refl _)).below ((Below.refl ((w.alloc o1).alloc o2).heap.size _).alloc (Nat.le_refl _) o3) (Nat.le_refl _))
      unfold Rn.plcFrom at hpl
      rw [if_neg (by omega)] at hpl
      unfold atW
      clear hcv hp hg
      generalize (Rn.dec (Rn.off f pos) (a - pos)).1 = r at *
      generalize (Rn.dec (Rn.off f pos) (a - pos)).2 = d at *
      cases hle : Rn.lineEnd f n pos r
      · rw [hle] at cE hpl
        have HP : Hid (_ = _) := hpl
        clear hpl hle
        go_wp2_with fail
        refine (cE _ _ _).mono ?_
        rintro e w1 ⟨rfl, rfl⟩
        go_wp2_with fail
        go_roundw
        case rel => exact ⟨pos + d, m, rn + 1, ln, co + 1, by go_num, by omega, by omega, by omega, by omega, by omega, HP.out⟩
        case measure => rw [iterPos_alloc _ _ _ _ (by simp), iterPos_alloc _ _ _ _ (by simp)]; omega
      · rw [hle] at cE hpl
        have HP : Hid (_ = _) := hpl
        clear hpl hle
        go_wp2_with fail
        refine (cE _ _ _).mono ?_
        rintro e w1 ⟨rfl, rfl⟩
        go_wp2_with fail
        go_roundw
        case rel => exact ⟨pos + d, m, rn + 1, ln + 1, 1, by go_num, by omega, by omega, by omega, by omega, by omega, HP.out⟩
        case measure => rw [iterPos_alloc _ _ _ _ (by simp), iterPos_alloc _ _ _ _ (by simp)]; omega
    · obtain rfl : pos = a := by omega
      rw [Rn.plcFrom_end _ _ _ _ _ _ _ _ (Nat.le_refl _)] at hpl
      have HP : Hid (_ = _) := hpl
      have hnx := fun W hk ty => next_alloc_end W (w.heap.size + 1 + 1) hk f pos pos hlt ty
      clear hpl hcv hp
      unfold atW
      go_wp2_with fail
      refine bodyPost_ret (v := .tuple #[.agg #[.int .i64 pos, .int .i64 rn, .int .i64 ln, .int .i64 co], .int .i64 0]) (by simp [results, Tryd.results18, go_sem]) rfl ⟨by rw [← HP.out], ?_⟩
      exact (((Below.refl w.heap.size w).alloc (Nat.le_refl _) _).alloc (by simp) _).alloc (by simp; omega) _
end Go.Proofs.YtbfabpjhdhhpfaaDoor
/-
  WALKS over (*strings.Builder).copyCheck and WriteRune (over this program; the shelf's own proofs are of another body of copyCheck), and over runes.pieceWidth.
-/
namespace Go.Proofs.YtbfabpjhdhhpfaaDoor
open Go.RowKit Go.Lib

theorem sizeBuilder : (Tryd.prog.info? 79).map (·.size) = some 2 := by kernel_rfl
theorem liesBuilder : liesAt Tryd.prog Tryd.prog.depth 79 (2 / Tryd.prog.cellsOf 79) 0 79 1 = true := by kernel_rfl

set_option maxHeartbeats 1000000 in
set_option maxRecDepth 100000 in
theorem copyCheck_used (b : Nat) (w : World) (h0 : w.cell? ⟨b, 0, none⟩ = some (.pointer (some ⟨b, 0, none⟩))) :
    Calls Tryd.prog 49 #[.pointer (some ⟨b, 0, none⟩)] w fun e w' => e = .returned (.tuple #[]) ∧ w' = w := by
  obtain ⟨j, hj, _⟩ := Option.map_eq_some_iff.1 sizeBuilder
  go_enter Tryd.func49, Tryd.ntmps49
  go_wp2
  rw [Lib.run_neq_ptr_same w _ Tryd.underlying77 hj]
  go_wp2
  go_end0
  exact ⟨rfl, rfl⟩

set_option maxHeartbeats 1000000 in
set_option maxRecDepth 100000 in
theorem copyCheck_fresh (b : Nat) (w : World) (h0 : w.cell? ⟨b, 0, none⟩ = some (.pointer none)) (hsh : w.shape? b = some (79, 2)) (hfz : w.frozen? ⟨b, 0, none⟩ = false) :
    Calls Tryd.prog 49 #[.pointer (some ⟨b, 0, none⟩)] w fun e w' => e = .returned (.tuple #[]) ∧ w' = w.setCell ⟨b, 0, none⟩ (.pointer (some ⟨b, 0, none⟩)) := by
  obtain ⟨j, hj, hjs⟩ := Option.map_eq_some_iff.1 sizeBuilder
  go_enter Tryd.func49, Tryd.ntmps49
  go_wp2
  rw [Lib.run_to_unsafe w ⟨b, 0, none⟩ Tryd.underlying77 Tryd.underlying108 hj (by rw [hjs]; decide) hsh (Nat.zero_lt_succ 1)]
  simp only [Result.andThen]
  rw [Oper.upon_value]
  go_wp2
  rw [run_callFunc_extern Tryd.func55 (by kernel_rfl) (by kernel_rfl) (by kernel_rfl) (e := Extern.AbiNoEscape.same) (by kernel_rfl)]
  rw [Lib.run_noEscape]
  simp only [Result.andThen]
  rw [Oper.upon_value]
  go_wp2
  rw [Lib.run_from_unsafe w ⟨b, 0, none⟩ Tryd.underlying108 Tryd.underlying77 hj hsh liesBuilder]
  simp only [Result.andThen]
  rw [Oper.upon_value]
  go_wp2
  go_end0
  exact ⟨rfl, rfl⟩

theorem copyCheck_k (B b : Nat) (bs : List Value) (w : World) (h : Lib.IsBuilderF 79 5 B b bs w) :
    Calls Tryd.prog 49 #[.pointer (some ⟨b, 0, none⟩)] w fun e w' => e = .returned (.tuple #[]) ∧ (Lib.BuilderAtF 79 5 B b (.pointer (some ⟨b, 0, none⟩)) bs w' ∧ Below B w w' ∧ Lib.OthersKept 5 (some b) w w') := by
  rcases h with h | h
  · refine (copyCheck_fresh b w h.cell0 h.shape h.frozen0).mono ?_
    rintro e w' ⟨rfl, rfl⟩
    exact ⟨rfl, h.used _, (Below.refl B w).setCell (p := ⟨b, 0, none⟩) h.1 _, (Lib.OthersKept.refl _ _ w).setCell ⟨b, 0, none⟩ rfl _⟩
  · refine (copyCheck_used b w h.cell0).mono ?_
    rintro e w' ⟨rfl, rfl⟩
    exact ⟨rfl, h, Below.refl B _, Lib.OthersKept.refl _ _ _⟩

set_option maxHeartbeats 2000000 in
/-- WriteRune, every rune -/
theorem writeRune_k (B b : Nat) (bs : List Value) (r : Int) (hr0 : -2147483648 ≤ r) (hr1 : r ≤ 2147483647) (w : World) (h : Lib.IsBuilderF 79 5 B b bs w) (hlen : bs.length + 4 ≤ 140737488355328) (hBw : B ≤ w.heap.size) :
    Calls Tryd.prog 39 #[.pointer (some ⟨b, 0, none⟩), .int .i32 r] w fun e w' => e = .returned (.tuple #[.int .i64 (Lib.runeCells r).length, .nilIface]) ∧ (Lib.BuilderAtF 79 5 B b (.pointer (some ⟨b, 0, none⟩)) (bs ++ Lib.runeCells r) w' ∧ Below B w w' ∧ Lib.OthersKept 5 (some b) w w') := by
  have hk4 := Lib.runeCells_le r
  go_enter Tryd.func39, Tryd.ntmps39
  go_wp2_with fail
  refine (copyCheck_k B b bs _ h).mono ?_
  rintro e w1 ⟨rfl, h1, hb1, hk1⟩
  obtain ⟨hB, v, hbk, hown, hne⟩ := h1
  obtain ⟨ao, cap, rfl⟩ : ∃ ao cap, v = .slice ao bs.length cap := by
    rcases hown.2 with ⟨hv, h0⟩ | ⟨g, cap, cur, fz, hv, _⟩
    · exact ⟨none, 0, by rw [hv, h0]⟩
    · exact ⟨_, _, hv⟩
  have c0 : w1.cell? ⟨b, 0, none⟩ = some (.pointer (some ⟨b, 0, none⟩)) := by rw [Lib.cell_of_heap hbk]; rfl
  have c1 : w1.cell? ⟨b, 1, none⟩ = some (.slice ao bs.length cap) := by rw [Lib.cell_of_heap hbk]; rfl
  go_wp2_with fail
  refine (Tryd.utf8_AppendRune_row B _ bs.length bs r hr0 hr1 _ hown hlen (by have := hb1.size; omega)).mono ?_
  rintro e w2 ⟨v', rfl, hown', o, hgrow⟩
  have hlt : b < w1.heap.size := by
    rcases Nat.lt_or_ge b w1.heap.size with h' | h'
    · exact h'
    · simp [Array.getElem?_eq_none h'] at hbk
  have hb2 : w2.heap[b]? = some (.cells #[.pointer (some ⟨b, 0, none⟩), .slice ao bs.length cap] 79 (0, 0)) := by
    rw [hgrow.block b (by simp; omega) (fun e => hne e.symm), Lib.alloc_old w1 _ b hlt]
    exact hbk
  have d0 : w2.cell? ⟨b, 0, none⟩ = some (.pointer (some ⟨b, 0, none⟩)) := by rw [Lib.cell_of_heap hb2]; rfl
  have d1 : w2.cell? ⟨b, 1, none⟩ = some (.slice ao bs.length cap) := by rw [Lib.cell_of_heap hb2]; rfl
  have f1 : w2.frozen? ⟨b, 1, none⟩ = false := Lib.frozen_of_heap hb2 1
  obtain ⟨g, cap', rfl⟩ : ∃ g cap', v' = .slice (some ⟨g, 0, none⟩) (bs.length + (Lib.runeCells r).length) cap' := by
    rcases hown'.2 with ⟨_, h0⟩ | ⟨g, cap', cur, fz, hv, _⟩
    · omega
    · exact ⟨g, cap', hv⟩
  go_wp2
  go_ret2
  refine ⟨?_, ?_, ?_, ((hk1.alloc _).grown hgrow (Lib.ownsRowF_kind (hown.alloc _))).setCell ⟨b, 1, none⟩ rfl _⟩
  · have e : ((bs.length : Int) + ((Lib.runeCells r).length : Int) - (bs.length : Int)) = ((Lib.runeCells r).length : Int) := by omega
    simp [e]
  · exact Lib.BuilderAtF.put (T := 79) (e := 5) hB hb2 (bs' := bs ++ Lib.runeCells r) (by simpa using hown') (by decide)
  · exact ((hb1.alloc (by have := hb1.size; omega) _).grown hgrow (by have := hb1.size; simp; omega) (fun k hk => (hown.lt k hk).1)).setCell (p := ⟨b, 1, none⟩) hB _

namespace Rn
/-- how many bytes the U+FFFD stands for that range gives at the front -/
def pw (f : Nat → Nat) (n : Nat) : Nat := if whole f n then fs f n else max 1 (fk f n)
theorem arr_extract (f : Nat → Nat) (n a b : Nat) (ha : a ≤ b) (hb : b ≤ n) : (arr f n).extract a b = arr (off f a) (b - a) := by
  have e : ((arr f n).extract a b).data = (arr (off f a) (b - a)).data := by
    rw [ByteArray.data_extract]
    apply Array.ext
    · simp [arr]; omega
    · intro i h1 h2
      simp [arr, off]
  exact congrArg ByteArray.mk e
theorem whole_le {f : Nat → Nat} {m n : Nat} (h : m ≤ n) (hw : whole f n = false) : whole f m = false := by
  by_cases h0 : m = 0
  · subst h0; simp [whole, fs]
  have e0 : fs f n = size (f 0) := by unfold fs; rw [if_neg (by omega)]
  have e1 : fs f m = size (f 0) := by unfold fs; rw [if_neg (by omega)]
  simp only [whole, decide_eq_false_iff_not, e0, e1] at hw ⊢
  intro ⟨c1, c2⟩
  have e2 := fk_min f h c1
  have a1 := fk_le_fs f n
  omega
theorem fk_three {f : Nat → Nat} {n : Nat} (hw : whole f n = false) : fk f (min n 3) = fk f n := by
  have a1 := fk_le_fs f n
  have a2 := fs_le f n
  have a3 := fk_le f n
  by_cases h0 : n = 0
  · subst h0; rfl
  have e0 : fs f n = size (f 0) := by unfold fs; rw [if_neg (by omega)]
  by_cases hs : size (f 0) = 0
  · rw [fk_zero _ _ hs, fk_zero _ _ hs]
  have e2 := fk_min f (m := min n 3) (n := n) (by omega) (by omega)
  simp only [whole, decide_eq_false_iff_not] at hw
  omega
end Rn

theorem ret_int {k : IntKind} {a b : Int} (h : a = b) : Ending.returned (.int k a) = .returned (.int k b) := by rw [h]
theorem below_bytesWorld (w : World) (e : TypeId) (s : ByteArray) : Below w.heap.size w (Lib.bytesWorld w e s) :=
  ⟨rfl, rfl, rfl, by rw [Lib.bytesWorld_size]; omega, fun k hk => Lib.bytesWorld_at_old w e s k hk⟩
theorem bytes_bytesWorld (w : World) (e : TypeId) (f : Nat → Nat) (m : Nat) (hf : ∀ j, f j < 256) : Bytes (Lib.bytesWorld w e (Rn.arr f m)) w.heap.size 0 m f := by
  intro j hj
  have h := Lib.bytesWorld_cell w e (Rn.arr f m) j (by rw [Rn.arr_size]; exact hj)
  rw [Nat.zero_add, h]
  have e1 : (((Rn.arr f m).data.toList.getD j 0).toNat : Nat) = f j := by
    have := hf j
    simp [Rn.arr, List.getD, hj]
    omega
  rw [e1]

end Go.Proofs.YtbfabpjhdhhpfaaDoor
/-
  WALKS over runes.All and the function that it hands back: places and characters, one by one.
-/
namespace Go.Proofs.YtbfabpjhdhhpfaaDoor
open Go.RowKit Go.Shelf
attribute [local go_sem] Oper.semAt_some

namespace Rn
/-- a place below n and a character -/
abbrev Chr (n : Nat) := { x : Nat × Nat // x.1 < n ∧ x.2 < 2097152 }
/-- the characters from a place on, by at most so many -/
def chFrom (f : Nat → Nat) (n : Nat) (hf : ∀ j, f j < 256) : Nat → Nat → List (Chr n)
  | 0, _ => []
  | fuel + 1, p => if h : p < n then ⟨(p, (dec (off f p) (n - p)).1), h, dec_lt _ _ (fun _ => hf _) (by omega)⟩ :: chFrom f n hf fuel (p + (dec (off f p) (n - p)).2) else []
def chs (f : Nat → Nat) (n : Nat) (hf : ∀ j, f j < 256) : List (Chr n) := chFrom f n hf n 0
theorem chFrom_end (f : Nat → Nat) (n : Nat) (hf : ∀ j, f j < 256) (fuel p : Nat) (h : ¬ p < n) : chFrom f n hf fuel p = [] := by
  cases fuel with
  | zero => rfl
  | succ m => unfold chFrom; rw [dif_neg h]
def encC {n : Nat} (x : Chr n) : Array Value := #[.int .i64 (x.1.1 : Int), .int .i32 (x.1.2 : Int)]
end Rn

theorem grownBy_iterAt (w : World) (k : Nat) (s : ByteArray) (p : Nat) : w.grownBy (w.iterAt k s p) (some k) :=
  ⟨rfl, rfl, rfl, by rw [Lib.iterAt_size]; exact Nat.le_refl _, fun j _ hj => Lib.iterAt_other w k j s p (fun e => hj (by rw [e]))⟩

set_option maxRecDepth 100000 in
set_option maxHeartbeats 2000000 in
/-- the function that All hands back: for every loop body that keeps what is no cells -/
theorem all1_in (F : Fence) (m : Nat) (hF : F.fn 48) (hro : F.round = none) (hm : 1 ≤ m) (l Bs n : Nat) (f : Nat → Nat) (hf : ∀ j, f j < 256) (J Jx : List (Rn.Chr n) → World → Prop)
    (W : World) (hJ : AbidesFrom W.heap.size J)
    (hY : ∀ pre x W1, J pre W1 → pre.length < n → YieldAt F (m - 1) Tryd.prog l (Rn.encC x) W1 fun e W' =>
      (e = .returned (.bool true) ∧ J (pre ++ [x]) W' ∧ KeepsWalks W1 W') ∨ (e = .returned (.bool false) ∧ Jx (pre ++ [x]) W'))
    (hBs : W.cell? ⟨Bs, 0, none⟩ = some (.string (Rn.arr f n))) (h0 : J [] W) :
    CallsIn F m Tryd.prog 48 #[.func (.yield l) #[] #[], .pointer (some ⟨Bs, 0, none⟩)] W fun e W' => (∃ v, e = .returned v) ∧
      ((∃ ys, ys = Rn.chs f n hf ∧ J ys W') ∨ (∃ pre, pre <+: Rn.chs f n hf ∧ Jx pre W')) := by
  refine callsIn_of_wp Tryd.func48 rfl hF ?_ hro
  simp only [Tryd.ntmps48, List.size_toArray, List.length_cons, List.length_nil, Nat.reduceAdd, Nat.reduceSub, Array.replicate_succ, Array.replicate_zero, List.push_toArray, List.append_toArray, List.nil_append, List.cons_append]
  have hsz := Rn.arr_size f n
  gi_wp2
  gi_loopw [] (fun wr => ∃ (pos fuel : Nat) (pre : List (Rn.Chr n)), wr.heap[W.heap.size]? = some (.stringIter (Rn.arr f n) pos) ∧ J pre wr ∧ pre ++ Rn.chFrom f n hf fuel pos = Rn.chs f n hf ∧ n ≤ pos + fuel ∧ pre.length ≤ pos)
    (fun wr => n - wr.iterPos W.heap.size)
  case atStart =>
    refine ⟨0, n, [], World.iter_heap W _ 0, ?_, rfl, by omega, by simp⟩
    exact hJ [] W _ none h0 (World.grownBy_alloc W _ none) (fun r e => by cases e)
  case round =>
    obtain ⟨pos, fuel, pre, hit, hJs, hpre, hfu, hpl⟩ := hrel
    by_cases hlt : pos < n
    · have hnx : ∀ ty, (Instr.next (.pointer (some ⟨W.heap.size, 0, none⟩)) true ty).run Tryd.prog wr = _ := fun ty => Lib.run_next_any_at wr W.heap.size (Rn.arr f n) pos ty hit (by rw [hsz]; exact hlt)
      rw [Rn.arr_decode f n pos hf hlt] at hnx
      obtain ⟨q, rfl⟩ : ∃ q, fuel = q + 1 := ⟨fuel - 1, by omega⟩
      unfold Rn.chFrom at hpre
      rw [dif_pos hlt] at hpre
      obtain ⟨hd1, hd2, hd3⟩ := Rn.dec_pos (Rn.off f pos) (n - pos) (fun _ => hf _) (by omega)
      have hJ2 := hJ pre wr _ (some W.heap.size) hJs (grownBy_iterAt wr W.heap.size (Rn.arr f n) (pos + (Rn.dec (Rn.off f pos) (n - pos)).2)) (fun r e => by cases e; exact ⟨Nat.le_refl _, _, hit, rfl⟩)
      have hit2 := Lib.iterAt_heap wr W.heap.size (Rn.arr f n) pos (pos + (Rn.dec (Rn.off f pos) (n - pos)).2) hit
      have hx4 := Rn.dec_lt (Rn.off f pos) (n - pos) (fun _ => hf _) (by omega)
      obtain ⟨fn, tmps, assign, body, hy, hR⟩ := hY pre ⟨(pos, (Rn.dec (Rn.off f pos) (n - pos)).1), hlt, hx4⟩ _ hJ2 (by omega)
      simp only [Rn.encC] at hy
      have HP := hide' hpre
      clear hpre hY hJs hJ2
      gi_wp2
      refine hR.mono ?_
      rintro e W3 (⟨rfl, hJ3, hk3⟩ | ⟨rfl, hJx3⟩)
      · have hit3 := hk3.same _ _ hit2 rfl
        gi_wp2
        go_roundw
        case rel => exact ⟨pos + (Rn.dec (Rn.off f pos) (n - pos)).2, q, _, hit3, hJ3, by rw [List.append_assoc]; exact HP.out, by omega, by simp; omega⟩
        case measure => simp only [World.iterPos, hit3, hit]; omega
      · gi_wp2
        refine bodyPost_ret (results_none rfl _ _ _) rfl ?_
        exact ⟨⟨_, rfl⟩, .inr ⟨_, ⟨_, by rw [List.append_assoc]; exact HP.out⟩, hJx3⟩⟩
    · have hnx : ∀ ty, (Instr.next (.pointer (some ⟨W.heap.size, 0, none⟩)) true ty).run Tryd.prog wr = _ := fun ty => Lib.run_next_end_at wr W.heap.size (Rn.arr f n) pos ty hit (by rw [hsz]; exact hlt)
      rw [Rn.chFrom_end _ _ _ _ _ hlt, List.append_nil] at hpre
      have HP := hide' hpre
      clear hpre hY
      gi_wp2
      go_end0
      exact ⟨⟨_, rfl⟩, .inl ⟨_, HP.out, hJs⟩⟩

set_option maxHeartbeats 1000000 in
/-- All: the string is boxed; the function value captures the box -/
theorem all_in (F : Fence) (m : Nat) (hF : F.fn 38) (hro : F.round = none) (s : ByteArray) (w : World) :
    CallsIn F m Tryd.prog 38 #[.string s] w fun e w' => e = .returned (.func (.func 48) #[] #[.pointer (some ⟨w.heap.size, 0, none⟩)]) ∧ w' = w.alloc (.cells #[.string s] 9) := by
  refine callsIn_of_wp Tryd.func38 rfl hF ?_ hro
  simp only [Tryd.ntmps38, List.size_toArray, List.length_cons, List.length_nil, Nat.reduceAdd, Nat.reduceSub, Array.replicate_succ, Array.replicate_zero, List.push_toArray, List.append_toArray, List.nil_append, List.cons_append]
  gi_wp2
  go_ret
  exact ⟨rfl, rfl⟩

/-- All gives the characters, in order; or a beginning of them -/
theorem all_stops (F : Fence) (m : Nat) (hF : F.fn 48) (hro : F.round = none) (hm : 1 ≤ m) (Bs n : Nat) (f : Nat → Nat) (hf : ∀ j, f j < 256) (w : World)
    (hBs : w.cell? ⟨Bs, 0, none⟩ = some (.string (Rn.arr f n))) :
    SeqStopsK F m Tryd.prog 48 #[.pointer (some ⟨Bs, 0, none⟩)] (Rn.encC (n := n)) KeepsWalks (fun ys => ys = Rn.chs f n hf) (fun pre => pre <+: Rn.chs f n hf) n w := fun l J Jx W hW hJ _ hY h0 =>
  all1_in F m hF hro hm l Bs n f hf J Jx W hJ hY ((hW.cell (p := ⟨Bs, 0, none⟩) (block_lt_of_cell hBs)).trans hBs) h0
end Go.Proofs.YtbfabpjhdhhpfaaDoor
/-
  WALKS over runes.MendParts and runes.Mend: what is written into the Builder, character by character.
-/
namespace Go.Proofs.YtbfabpjhdhhpfaaDoor
open Go.RowKit Go.Shelf
attribute [local go_sem] Oper.semAt_some

namespace Rn
/-- one character more: the bytes that are written, and the place behind the last piece of wrong bytes -/
def mpStep (f : Nat → Nat) (n : Nat) (st : List UInt8 × Nat) (x : Chr n) : List UInt8 × Nat :=
  if x.1.1 < st.2 then st else (st.1 ++ Lib.encodeRune x.1.2, if x.1.2 = 65533 then x.1.1 + pw (off f x.1.1) (n - x.1.1) else st.2)
def mp (f : Nat → Nat) (n : Nat) (xs : List (Chr n)) : List UInt8 × Nat := xs.foldl (mpStep f n) ([], 0)
theorem mp_snoc (f : Nat → Nat) (n : Nat) (xs : List (Chr n)) (x : Chr n) : mp f n (xs ++ [x]) = mpStep f n (mp f n xs) x := by
  simp [mp, List.foldl_append]
theorem pw_le (f : Nat → Nat) (n : Nat) (hn : 0 < n) : pw f n ≤ n ∧ 0 < pw f n := by
  have a1 := fk_le f n
  unfold pw
  split
  · next h =>
    simp only [whole, decide_eq_true_eq] at h
    omega
  · omega
end Rn

theorem kept_cells {W W' : World} {row : Option Nat} (hg : W.grownBy W' row) (hr : ∀ r, row = some r → ∃ o : Obj, W.heap[r]? = some o ∧ o.isCells = false) {k : Nat} {o : Obj} (hk : W.heap[k]? = some o) (ho : o.isCells = true) : W'.heap[k]? = some o := by
  have hlt : k < W.heap.size := (Array.getElem?_eq_some_iff.1 hk).1
  rw [hg.block k hlt (fun e => by
    obtain ⟨o', h1, h2⟩ := hr k e.symm
    rw [hk] at h1
    cases h1
    rw [ho] at h2
    cases h2)]
  exact hk
theorem builder_kept {T e : TypeId} {B b : Nat} {bs : List Value} {W W' : World} (h : Lib.IsBuilderF T e B b bs W) (hk : ∀ (k : Nat) (o : Obj), W.heap[k]? = some o → o.isCells = true → W'.heap[k]? = some o) : Lib.IsBuilderF T e B b bs W' := by
  have go : ∀ {p : Value}, Lib.BuilderAtF T e B b p bs W → Lib.BuilderAtF T e B b p bs W' := by
    rintro p ⟨hB, v, hb, hown, hne⟩
    refine ⟨hB, v, hk _ _ hb rfl, ⟨hown.1, ?_⟩, hne⟩
    rcases hown.2 with hn | ⟨g, cap, cur, fz, hv, hbg, hg, rest⟩
    · exact .inl hn
    · exact .inr ⟨g, cap, cur, fz, hv, hbg, hk _ _ hg rfl, rest⟩
  exact h.elim (fun x => .inl (go x)) (fun x => .inr (go x))

theorem builder_set {T e : TypeId} {B b : Nat} {bs : List Value} {W : World} (h : Lib.IsBuilderF T e B b bs W) {k i : Nat} {c : Array Value} {t : TypeId} {fz : Nat × Nat} (hk : W.heap[k]? = some (.cells c t fz)) (ht : t ≠ e) (hb' : k ≠ b) (u : Value) :
    Lib.IsBuilderF T e B b bs (W.setCell ⟨k, i, none⟩ u) := by
  have go : ∀ {p : Value}, Lib.BuilderAtF T e B b p bs W → Lib.BuilderAtF T e B b p bs (W.setCell ⟨k, i, none⟩ u) := by
    rintro p ⟨hB, v, hb, hown, hne⟩
    refine ⟨hB, v, (Below.heap_setCell W ⟨k, i, none⟩ u b (Ne.symm hb')).trans hb, ⟨hown.1, ?_⟩, hne⟩
    rcases hown.2 with hn | ⟨g, cap, cur, fz, hv, hbg, hg, rest⟩
    · exact .inl hn
    · refine .inr ⟨g, cap, cur, fz, hv, hbg, (Below.heap_setCell W ⟨k, i, none⟩ u g ?_).trans hg, rest⟩
      rintro rfl
      rw [hk] at hg
      cases hg
      exact ht rfl
  exact h.elim (fun x => .inl (go x)) (fun x => .inr (go x))

/-- between two rounds of MendParts -/
structure MI (f : Nat → Nat) (n N : Nat) (w : World) (pre : List (Rn.Chr n)) (W : World) : Prop where
  below : Below N w W
  str : W.heap[N]? = some (.cells #[.string (Rn.arr f n)] 9 (0, 0))
  out : Lib.IsBuilderF 79 5 (N + 1) (N + 1) (Lib.byteCells (Rn.mp f n pre).1) W
  men : W.heap[N + 1 + 1]? = some (.cells #[.int .i64 (Rn.mp f n pre).2] 3 (0, 0))
  len : (Rn.mp f n pre).1.length ≤ 4 * pre.length
  cnt : pre.length ≤ n
  mle : (Rn.mp f n pre).2 ≤ n
theorem MI.own (f : Nat → Nat) (n N : Nat) (w : World) (B : Nat) (hB : N ≤ B) : OwnFrom B (MI f n N w) := by
  intro pre W W' row h hg hr
  have hk : ∀ (k : Nat) (o : Obj), W.heap[k]? = some o → o.isCells = true → W'.heap[k]? = some o := fun k o h1 h2 => kept_cells hg (fun r e => (hr r e).2) h1 h2
  refine ⟨?_, hk _ _ h.str rfl, builder_kept h.out hk, hk _ _ h.men rfl, h.len, h.cnt, h.mle⟩
  exact h.below.trans ⟨hg.os, hg.tape, hg.output, hg.size, fun k hk' => hg.block k (by
    have := (Array.getElem?_eq_some_iff.1 h.str).1
    omega) (fun e => by have := (hr k e.symm).1; omega)⟩
theorem keepsOthers_of {e : TypeId} {b : Nat} {B : Nat} {W W' : World} (hk : Lib.OthersKept e (some b) W W') (hb : Below B W W') {c : Array Value} {t : TypeId} {fz : Nat × Nat} (hc : W.heap[b]? = some (.cells c t fz)) : KeepsOthers W W' :=
  ⟨hb.size, fun k o ho hn => hk k o ho (fun e1 => by cases e1; rw [hc] at ho; cases ho; cases hn) (fun c' fz' e1 => by rw [e1] at hn; cases hn)⟩
theorem keepsOthers_below {W W' : World} (hb : Below W.heap.size W W') : KeepsOthers W W' :=
  ⟨hb.size, fun k _ ho _ => (hb.block k (Array.getElem?_eq_some_iff.1 ho).1).trans ho⟩
theorem keepsWalks_of {W W' : World} (h : KeepsOthers W W') : KeepsWalks W W' :=
  ⟨h.size, fun k o ho hw => h.same k o ho (Obj.not_cells_of_walk hw)⟩
theorem isB_block {T e : TypeId} {B b : Nat} {bs : List Value} {W : World} (h : Lib.IsBuilderF T e B b bs W) : ∃ c, W.heap[b]? = some (.cells c T (0, 0)) := by
  rcases h with ⟨_, v, hb, _⟩ | ⟨_, v, hb, _⟩
  · exact ⟨_, hb⟩
  · exact ⟨_, hb⟩

end Go.Proofs.YtbfabpjhdhhpfaaDoor
/-
  THE WALK over runes.Mend: each character's bytes, one behind the other.
-/
namespace Go.Proofs.YtbfabpjhdhhpfaaDoor
open Go.RowKit Go.Shelf
attribute [local go_sem] Oper.semAt_some

namespace Rn
/-- the bytes of these characters, one behind the other -/
def md {n : Nat} (xs : List (Chr n)) : List UInt8 := xs.flatMap fun x => Lib.encodeRune x.1.2
theorem md_snoc {n : Nat} (xs : List (Chr n)) (x : Chr n) : md (xs ++ [x]) = md xs ++ Lib.encodeRune x.1.2 := by simp [md]
end Rn

/-- between two rounds of Mend -/
structure MD (n N : Nat) (w : World) (pre : List (Rn.Chr n)) (W : World) : Prop where
  below : Below N w W
  out : Lib.IsBuilderF 79 5 N N (Lib.byteCells (Rn.md pre)) W
  len : (Rn.md pre).length ≤ 4 * pre.length
  cnt : pre.length ≤ n
  big : N < W.heap.size
theorem MD.own (n N : Nat) (w : World) (B : Nat) (hB : N ≤ B) : OwnFrom B (MD n N w) := by
  intro pre W W' row h hg hr
  have hk : ∀ (k : Nat) (o : Obj), W.heap[k]? = some o → o.isCells = true → W'.heap[k]? = some o := fun k o h1 h2 => kept_cells hg (fun r e => (hr r e).2) h1 h2
  refine ⟨?_, builder_kept h.out hk, h.len, h.cnt, Nat.lt_of_lt_of_le h.big hg.size⟩
  exact h.below.trans ⟨hg.os, hg.tape, hg.output, hg.size, fun k hk' => hg.block k (by have := h.big; omega) (fun e => by have := (hr k e.symm).1; omega)⟩

set_option maxRecDepth 100000 in
set_option maxHeartbeats 2000000 in
theorem mend_any (f : Nat → Nat) (n : Nat) (w : World) (hf : ∀ j, f j < 256) (hbig : n ≤ 35184372088832) :
    Calls Tryd.prog 17 #[.string (Rn.arr f n)] w fun e w' => e = .returned (.string ⟨(Rn.md (Rn.chs f n hf)).toArray⟩) ∧ Below w.heap.size w w' ∧ (Rn.md (Rn.chs f n hf)).length ≤ 4 * n := by
  refine (callsIn_wide (n := 6)).1 ?_
  refine callsIn_of_wp_marks Tryd.func17 rfl trivial ?_ rfl
  simp only [Tryd.ntmps17, List.size_toArray, List.length_cons, List.length_nil, Nat.reduceAdd, Nat.reduceSub, Array.replicate_succ, Array.replicate_zero, List.push_toArray, List.append_toArray, List.nil_append, List.cons_append]
  gi_wp2_with fail
  refine ⟨trivial, ?_⟩
  refine (all_in Fence.wide _ trivial rfl _ _).mono ?_
  rintro e w' ⟨rfl, rfl⟩
  gi_wp2
  obtain ⟨W0, hW0⟩ : ∃ W0, ((w.alloc (.cells #[.pointer none, .slice none 0 0] 79)).alloc (.cells #[.string (Rn.arr f n)] 9)) = W0 := ⟨_, rfl⟩
  have hsz0 : W0.heap.size = w.heap.size + 2 := by
    subst hW0
    simp
  have hI0 : MD n w.heap.size w [] W0 := by
    refine ⟨?_, ?_, by simp [Rn.md], by simp, by omega⟩
    · subst hW0
      exact (((Below.refl w.heap.size w).alloc (Nat.le_refl _) _).alloc (by simp) _)
    · subst hW0
      have hb := Lib.IsBuilderF.of (Lib.fresh_isBuilder 79 5 w)
      exact hb.alloc _
  have hbox : W0.cell? ⟨w.heap.size + 1, 0, none⟩ = some (.string (Rn.arr f n)) := by
    subst hW0
    have := World.alloc_heap_new (w.alloc (.cells #[.pointer none, .slice none 0 0] 79)) (.cells #[.string (Rn.arr f n)] 9)
    rw [World.size_alloc] at this
    rw [Lib.cell_of_heap this]
    rfl
  rw [hW0]
  clear hW0
  refine wpIn_rangeFunc_ownG rfl (by omega) (gf := 48) (lb := #[.pointer (some ⟨w.heap.size + 1, 0, none⟩)]) rfl trivial (enters_of Tryd.func48 (by kernel_rfl) rfl)
    (all_stops Fence.wide 5 trivial rfl (by omega) (w.heap.size + 1) n f hf W0 hbox) walksK_t walksK_b (Below.refl _ _) (fun _ => rfl)
    (MD n w.heap.size w) (fun _ _ _ => False) (MD.own n w.heap.size w _ (by omega)) (fun _ _ _ _ _ h _ _ => h) hI0
    (fun x => { tmps := #[.string (Rn.arr f n), undef, .string ⟨#[]⟩, .pointer (some ⟨w.heap.size, 0, none⟩), undef, .int .i32 x.1.2, .string (Rn.arr f n), .func (.func 48) #[] #[.pointer (some ⟨w.heap.size + 1, 0, none⟩)], .int .i64 x.1.1, .int .i32 x.1.2, undef, undef, undef], defers := [] }) ?assign ?body ?done ?stop
  case assign =>
    intro l x W K hK
    simp only [Rn.encC]
    gi_wp2
    exact hK
  case body =>
    rintro l pre ⟨⟨a, r⟩, ha, hr⟩ W hI hlt
    dsimp only at ha hr
    obtain ⟨hB, hO, hL, hC, hE⟩ := hI
    have hsn := Rn.md_snoc pre ⟨(a, r), ha, hr⟩
    obtain ⟨cb, hcb⟩ := isB_block hO
    generalize hout : Rn.md pre = out at *
    have HS := hide' hsn
    have HOut := hide' hout
    clear hsn hout
    gi_wp2_with fail
    refine ⟨trivial, ?_⟩
    refine (CallsIn.inRound l (callsIn_wide.2 (writeRune_k w.heap.size w.heap.size _ (r : Int) (by omega) (by omega) W hO (by rw [Lib.byteCells_length]; omega) (by omega)))).mono ?_
    rintro e W1 ⟨rfl, h2, b1, k1⟩
    have hO1 : Lib.IsBuilderF 79 5 w.heap.size w.heap.size (Lib.byteCells (out ++ Lib.encodeRune r)) W1 := by rw [Lib.byteCells_append, Lib.byteCells_encodeRune]; exact .inr h2
    have hKO := keepsOthers_of k1 b1 hcb
    have hl4 := Lib.runeCells_le (r : Int)
    rw [Lib.runeCells_length] at hl4
    gi_wp2
    refine ⟨hKO.from _, keepsWalks_of hKO, hB.trans b1, ?_, ?_, ?_, Nat.lt_of_lt_of_le hE b1.size⟩
    · rw [HS.out]; exact hO1
    · rw [HS.out]; simp; omega
    · simp; omega
  case done =>
    rintro D ys W hD rfl hI hK
    gi_wp2_with fail
    refine ⟨trivial, ?_⟩
    refine (callsIn_wide.2 (Tryd.Builder_String_any_k w.heap.size w.heap.size _ W hI.out (by have := hI.big; omega))).mono ?_
    rintro e W1 ⟨rfl, _, b1, k1⟩
    have hK1 : W1.heap[D]? = some (.deferred (some [])) := k1 D _ hK (fun e => by cases e; omega) (fun c fz e => by cases e)
    gi_wp2
    refine ⟨by simp, .inl ⟨_, _, rfl, run_takeDeferred hK1, ?_⟩⟩
    exact ⟨_, results_tmp rfl _ _ _, rfl, (hI.below.trans b1).trans (belowK_b (w := w) (Nat.le_refl _) W1 D _ _ (by omega) hK1 rfl rfl), by have := hI.len; have := hI.cnt; omega⟩
  case stop =>
    rintro D c pre W _ _ h _
    exact h.elim
end Go.Proofs.YtbfabpjhdhhpfaaDoor
/-
  THE WALK over runes.Byte: where the character of that number begins.
-/
namespace Go.Proofs.YtbfabpjhdhhpfaaDoor
open Go.RowKit Go.Shelf
attribute [local go_sem] Oper.semAt_some

theorem results_cell2 {P : Program} {fn : Func} {p q : Tmp} {t u : TypeId} (h : fn.results = #[.cell p t, .cell q u]) (tmps : Array Value) (w : World) (a b : Addr) (x y : Value)
    (hp : tmps.getD p undef = .pointer (some a)) (hq : tmps.getD q undef = .pointer (some b)) (ha : w.cell? a = some x) (hb : w.cell? b = some y) (ht : P.underlying t = some (.int .i64)) (hu : P.underlying u = some (.int .i64)) :
    (results fn tmps).run P w = .ok (.tuple #[x, y]) w := by
  have hp' : tmps[p]?.getD undef = .pointer (some a) := by simpa using hp
  have hq' : tmps[q]?.getD undef = .pointer (some b) := by simpa using hq
  simp [results, h, hp', hq', asAddr, loadVar, isAgg, underlying, ht, hu, ha, hb, Result.andThen]

namespace Rn
def byt {n : Nat} (cs : List (Chr n)) (k : Nat) : Nat × Nat := match cs[k]? with
  | some x => (x.1.1, 0)
  | none => if k = cs.length then (n, 0) else (0, 2)
end Rn

/-- between two rounds of Byte -/
structure BI (n N k : Nat) (w : World) (pre : List (Rn.Chr n)) (W : World) : Prop where
  below : Below N w W
  num : W.heap[N]? = some (.cells #[.int .i64 ((k - pre.length : Nat) : Int)] 3 (0, 0))
  r0 : W.heap[N + 1]? = some (.cells #[.int .i64 0] 3 (0, 0))
  r1 : W.heap[N + 1 + 1]? = some (.cells #[.int .i64 0] 40 (0, 0))
  cnt : pre.length ≤ k
/-- where Byte has returned out of the loop -/
structure BX (n N k : Nat) (w : World) (c : Code) (pre : List (Rn.Chr n)) (W : World) : Prop where
  ret : c = .ret
  below : Below N w W
  got : ∃ pre' x, pre = pre' ++ [x] ∧ pre'.length = k ∧ W.heap[N + 1]? = some (.cells #[.int .i64 (x.1.1 : Nat)] 3 (0, 0))
  r1 : W.heap[N + 1 + 1]? = some (.cells #[.int .i64 0] 40 (0, 0))
theorem BI.own (n N k : Nat) (w : World) (B : Nat) (hB : N ≤ B) : OwnFrom B (BI n N k w) := by
  intro pre W W' row h hg hr
  have hk : ∀ (k : Nat) (o : Obj), W.heap[k]? = some o → o.isCells = true → W'.heap[k]? = some o := fun k o h1 h2 => kept_cells hg (fun r e => (hr r e).2) h1 h2
  refine ⟨?_, hk _ _ h.num rfl, hk _ _ h.r0 rfl, hk _ _ h.r1 rfl, h.cnt⟩
  exact h.below.trans ⟨hg.os, hg.tape, hg.output, hg.size, fun k hk' => hg.block k (by have := (Array.getElem?_eq_some_iff.1 h.num).1; omega) (fun e => by have := (hr k e.symm).1; omega)⟩
theorem BX.own (n N k : Nat) (w : World) (c : Code) (B : Nat) (hB : N ≤ B) : OwnFrom B (BX n N k w c) := by
  intro pre W W' row h hg hr
  have hk : ∀ (k : Nat) (o : Obj), W.heap[k]? = some o → o.isCells = true → W'.heap[k]? = some o := fun k o h1 h2 => kept_cells hg (fun r e => (hr r e).2) h1 h2
  obtain ⟨p', x, e1, e2, e3⟩ := h.got
  refine ⟨h.ret, ?_, ⟨p', x, e1, e2, hk _ _ e3 rfl⟩, hk _ _ h.r1 rfl⟩
  exact h.below.trans ⟨hg.os, hg.tape, hg.output, hg.size, fun k hk' => hg.block k (by have := (Array.getElem?_eq_some_iff.1 h.r1).1; omega) (fun e => by have := (hr k e.symm).1; omega)⟩

theorem byte_def {W : World} {N D : Nat} {o : Obj} (h : W.heap[D]? = some o) (hD : N + 1 + 1 < D) (u v : Value) : ((W.setCell ⟨N + 1, 0, none⟩ u).setCell ⟨N + 1 + 1, 0, none⟩ v).heap[D]? = some o :=
  (Below.heap_setCell _ _ _ _ (by show D ≠ N + 1 + 1; omega)).trans ((Below.heap_setCell _ _ _ _ (by show D ≠ N + 1; omega)).trans h)
theorem byte_c0 {W : World} {N D : Nat} {x : Value} {t : TypeId} (h : W.heap[N + 1]? = some (.cells #[x] t (0, 0))) (hD : N + 1 + 1 < D) (u v : Value) (o : Obj) : (((W.setCell ⟨N + 1, 0, none⟩ u).setCell ⟨N + 1 + 1, 0, none⟩ v).putObj D o).cell? ⟨N + 1, 0, none⟩ = some u := by
  have h1 : (W.setCell ⟨N + 1, 0, none⟩ u).heap[N + 1]? = some (.cells #[u] t (0, 0)) := Go.Joins.block_setCell (i := 0) h _
  rw [Lib.cell_of_heap ((World.putObj_heap_other (by omega)).trans ((Below.heap_setCell _ _ _ _ (by show N + 1 ≠ N + 1 + 1; omega)).trans h1))]
  rfl
theorem byte_c1 {W : World} {N D : Nat} {x : Value} {t : TypeId} (h : W.heap[N + 1 + 1]? = some (.cells #[x] t (0, 0))) (hD : N + 1 + 1 < D) (u v : Value) (o : Obj) : (((W.setCell ⟨N + 1, 0, none⟩ u).setCell ⟨N + 1 + 1, 0, none⟩ v).putObj D o).cell? ⟨N + 1 + 1, 0, none⟩ = some v := by
  have h1 : ((W.setCell ⟨N + 1, 0, none⟩ u).setCell ⟨N + 1 + 1, 0, none⟩ v).heap[N + 1 + 1]? = some (.cells #[v] t (0, 0)) := Go.Joins.block_setCell (i := 0) ((Below.heap_setCell W ⟨N + 1, 0, none⟩ u _ (by show N + 1 + 1 ≠ N + 1; omega)).trans h) _
  rw [Lib.cell_of_heap ((World.putObj_heap_other (by omega)).trans h1)]
  rfl
theorem byte_below {w W : World} {D : Nat} (h : Below w.heap.size w W) (hD : w.heap.size + 1 + 1 < D) (u v : Value) (hK : ((W.setCell ⟨w.heap.size + 1, 0, none⟩ u).setCell ⟨w.heap.size + 1 + 1, 0, none⟩ v).heap[D]? = some (.deferred (some []))) : Below w.heap.size w (((W.setCell ⟨w.heap.size + 1, 0, none⟩ u).setCell ⟨w.heap.size + 1 + 1, 0, none⟩ v).putObj D (.deferred none)) :=
  ((h.setCell (p := ⟨w.heap.size + 1, 0, none⟩) (by show w.heap.size ≤ w.heap.size + 1; omega) _).setCell (p := ⟨w.heap.size + 1 + 1, 0, none⟩) (by show w.heap.size ≤ w.heap.size + 1 + 1; omega) _).trans (belowK_b (w := w) (Nat.le_refl _) _ D _ _ (by omega) hK rfl rfl)

end Go.Proofs.YtbfabpjhdhhpfaaDoor
/-
  WALKS over runes.Runes and runes.Join: Go's own conversions, in the words of this proof.
-/
namespace Go.Proofs.YtbfabpjhdhhpfaaDoor
open Go.RowKit Go.Shelf

namespace Rn
/-- the runes of these characters -/
def rl {n : Nat} (xs : List (Chr n)) : List Nat := xs.map fun x => x.1.2
def rv (l : List Nat) : List Value := l.map fun (r : Nat) => .int .i32 (r : Int)
theorem runesFrom_eq (f : Nat → Nat) (n : Nat) (hf : ∀ j, f j < 256) : ∀ (bound i : Nat) (acc : Array Value), Conv.runesFrom (arr f n) bound i acc = acc ++ (rv (rl (chFrom f n hf bound i))).toArray
  | 0, _, acc => by simp [Conv.runesFrom, chFrom, rl, rv]
  | bound + 1, i, acc => by
    unfold Conv.runesFrom chFrom
    rw [arr_size]
    by_cases h : i < n
    · rw [if_pos h, dif_pos h, arr_decode f n i hf h]
      simp only []
      rw [runesFrom_eq f n hf bound _ _]
      simp [rl, rv, ← Array.append_singleton, Array.append_assoc]
    · rw [if_neg h, dif_neg h]
      simp [rl, rv]
theorem chFrom_length (f : Nat → Nat) (n : Nat) (hf : ∀ j, f j < 256) : ∀ bound i, (chFrom f n hf bound i).length ≤ bound
  | 0, _ => by simp [chFrom]
  | bound + 1, i => by
    unfold chFrom
    split
    · have := chFrom_length f n hf bound
      simp
      exact this _
    · simp
theorem chs_length (f : Nat → Nat) (n : Nat) (hf : ∀ j, f j < 256) : (chs f n hf).length ≤ n := chFrom_length f n hf n 0
end Rn

/-- runes that lie one behind the other -/
def Lie (w : World) (g : Nat) (l : List Nat) : Prop := ∀ j (h : j < l.length), w.cell? ⟨g, 0 + j, none⟩ = some (.int .i32 (l[j] : Nat))
theorem Lie.below {w w' : World} {g : Nat} {l : List Nat} (h : Lie w g l) {B : Nat} (hb : Below B w w') (hB : w.heap.size ≤ B) : Lie w' g l := fun j hj =>
  (hb.cell (p := ⟨g, 0 + j, none⟩) (Nat.lt_of_lt_of_le (block_lt_of_cell (h j hj)) hB)).trans (h j hj)

end Go.Proofs.YtbfabpjhdhhpfaaDoor
/-
  Plain mathematics: what is made of characters is read as these characters.
-/
namespace Go.Proofs.YtbfabpjhdhhpfaaDoor.Rn
open Go.Lib

/-- a list's bytes by their place -/
def lf (l : List UInt8) : Nat → Nat := fun j => (l[j]?.getD 0).toNat
theorem lf_lt (l : List UInt8) : ∀ j, lf l j < 256 := fun j => (l[j]?.getD 0).toNat_lt
theorem arr_lf (l : List UInt8) : arr (lf l) l.length = ⟨l.toArray⟩ := by
  have e : (arr (lf l) l.length).data = l.toArray := by
    apply Array.ext
    · simp [arr]
    · intro i h1 h2
      simp [arr, lf]
  exact congrArg ByteArray.mk e
theorem off_lf (A B : List UInt8) : off (lf (A ++ B)) A.length = lf B := by
  funext j
  simp only [off, lf]
  rw [List.getElem?_append_right (by omega), Nat.add_sub_cancel_left]

/-- a character's number -/
def scal (r : Nat) : Prop := r < 1114112 ∧ ¬ (55296 ≤ r ∧ r ≤ 57343)
theorem fv_scal (f : Nat → Nat) (n : Nat) (h : whole f n = true) : scal (fv f) := by
  simp only [whole, decide_eq_true_eq] at h
  have hn : ¬ n = 0 := by
    intro e
    subst e
    simp [fs] at h
  have e0 : fs f n = size (f 0) := by unfold fs; rw [if_neg hn]
  rw [e0] at h
  unfold scal fv val
  have hk := h.2
  unfold fk at hk
  rcases size_cases (f 0) with ⟨e, c⟩ | ⟨e, c, d, l, hh⟩ | ⟨e, c, d, hh⟩ | ⟨e, c, d, hh⟩ | ⟨e, c, d⟩
  · rw [e]; simp only [if_true]; omega
  · rw [e] at hk ⊢
    rw [len2 e] at hk
    simp only [Nat.reduceEqDiff, if_false, if_true]
    omega
  · rw [e] at hk ⊢
    rw [len3 e] at hk
    simp only [Nat.reduceEqDiff, if_false, if_true]
    omega
  · rw [e] at hk ⊢
    rw [len4 e] at hk
    simp only [Nat.reduceEqDiff, if_false]
    omega
  · omega
theorem dec_scal (f : Nat → Nat) (n : Nat) (hf : ∀ j, f j < 256) (hn : 0 < n) : scal (dec f n).1 := by
  rw [dec_whole f n hf hn]
  split
  · next h => exact fv_scal f n h
  · exact ⟨by decide, by decide⟩
theorem chFrom_scal (f : Nat → Nat) (n : Nat) (hf : ∀ j, f j < 256) : ∀ fuel p, ∀ r ∈ rl (chFrom f n hf fuel p), scal r
  | 0, _ => by simp [chFrom, rl]
  | fuel + 1, p => by
    unfold chFrom
    split
    · next h =>
      intro r hr
      simp only [rl, List.map_cons, List.mem_cons] at hr
      rcases hr with rfl | hr
      · exact dec_scal _ _ (fun _ => hf _) (by omega)
      · exact chFrom_scal f n hf fuel _ r hr
    · simp [rl]
theorem chs_scal (f : Nat → Nat) (n : Nat) (hf : ∀ j, f j < 256) : ∀ r ∈ rl (chs f n hf), scal r := chFrom_scal f n hf n 0

/-- the bytes of these characters -/
def cat (L : List Nat) : List UInt8 := L.flatMap fun (r : Nat) => encodeRune r
theorem md_cat {n : Nat} (xs : List (Chr n)) : md xs = cat (rl xs) := by
  simp [md, cat, rl, List.flatMap_map]
theorem cat_append (L M : List Nat) : cat (L ++ M) = cat L ++ cat M := by simp [cat]
theorem cat_cons (r : Nat) (L : List Nat) : cat (r :: L) = encodeRune r ++ cat L := by simp [cat]
theorem enc_length (r : Int) : (encodeRune r).length = el r := by simp [encodeRune, el]
theorem enc_get (r : Int) (j : Nat) : lf (encodeRune r) j = eb r j := by
  unfold lf eb encodeRune
  rcases h : (encodeRuneZ r)[j]? with _ | x
  · simp [h]
  · have := encodeRuneZ_byte r x (List.mem_of_getElem? h)
    simp [h]
    omega
theorem dec_enc (r : Nat) (hr : scal r) (f : Nat → Nat) (n : Nat) (hf : ∀ j, f j < 256) (hn : el r ≤ n) (h : ∀ j, j < el r → f j = eb r j) : dec f n = (r, el r) := by
  have hw : (want r).toNat = r := by
    unfold want
    unfold scal at hr
    rw [if_neg (by omega)]
    omega
  have E := eb_enc r
  rw [hw] at E
  have hp := el_pos r
  have es : size (f 0) = el r := by rw [h 0 (by omega)]; exact E.fs
  have e1 : fk f (el r) = el r := (fk_congr h).trans E.fk
  have e2 := fk_min f hn (by omega)
  have e3 : fs f n = el r := by unfold fs; rw [if_neg (by omega)]; exact es
  have e4 := fk_le_fs f n
  have ew : whole f n = true := by simp only [whole, decide_eq_true_eq]; omega
  have ew2 : whole f (el r) = true := (whole_congr h).trans E.whole
  rw [dec_whole f n hf (by omega), ew, if_pos rfl, e3, fv_congr ew2 h, E.fv]

/-- these characters' places, from a place on -/
def spots : Nat → List Nat → List (Nat × Nat)
  | _, [] => []
  | p, r :: L => (p, r) :: spots (p + el r) L
theorem spots_snd : ∀ (L : List Nat) (p : Nat), (spots p L).map (·.2) = L
  | [], _ => rfl
  | r :: L, p => by simp [spots, spots_snd L]
theorem chFrom_cat (l : List UInt8) : ∀ (L : List Nat), (∀ r ∈ L, scal r) → ∀ (A : List UInt8) (fuel : Nat), l = A ++ cat L → (cat L).length ≤ fuel →
    (chFrom (lf l) l.length (lf_lt l) fuel A.length).map (·.1) = spots A.length L
  | [], _, A, fuel, hl, _ => by
    rw [chFrom_end _ _ _ _ _ (by rw [hl]; simp [cat])]
    rfl
  | r :: L, hL, A, fuel, hl, hfu => by
    have hp := el_pos r
    rw [cat_cons] at hl hfu
    rw [List.length_append, enc_length] at hfu
    obtain ⟨m, rfl⟩ : ∃ m, fuel = m + 1 := ⟨fuel - 1, by omega⟩
    have hlen : l.length = A.length + (el r + (cat L).length) := by rw [hl]; simp [enc_length]
    have hd : dec (off (lf l) A.length) (l.length - A.length) = (r, el r) := by
      refine dec_enc r (hL r (by simp)) _ _ (fun _ => lf_lt l _) (by omega) (fun j hj => ?_)
      rw [hl, off_lf, ← enc_get]
      unfold lf
      rw [List.getElem?_append_left (by rw [enc_length]; exact hj)]
    unfold chFrom
    rw [dif_pos (by omega)]
    have ih := chFrom_cat l L (fun q hq => hL q (by simp [hq])) (A ++ encodeRune r) m (by rw [hl]; simp) (by omega)
    rw [List.length_append, enc_length] at ih
    simp only [List.map_cons, hd, spots]
    rw [← ih]
theorem chs_cat (L : List Nat) (hL : ∀ r ∈ L, scal r) : (chs (lf (cat L)) (cat L).length (lf_lt _)).map (·.1) = spots 0 L :=
  chFrom_cat (cat L) L hL [] _ rfl (Nat.le_refl _)
theorem rl_cat (L : List Nat) (hL : ∀ r ∈ L, scal r) : rl (chs (lf (cat L)) (cat L).length (lf_lt _)) = L := by
  have h := congrArg (List.map (·.2)) (chs_cat L hL)
  rw [spots_snd, List.map_map] at h
  exact h
end Go.Proofs.YtbfabpjhdhhpfaaDoor.Rn
/-
  Plain mathematics: of characters the order by bytes is the order by their numbers.
-/
namespace Go.Proofs.YtbfabpjhdhhpfaaDoor.Rn
open Go.Lib

/-- less, not greater, not the same, whatever follows -/
def Lt (a b : List UInt8) : Prop := ∀ s t : List UInt8, Op.bytesLess (a ++ s) (b ++ t) = true ∧ Op.bytesLess (b ++ t) (a ++ s) = false ∧ a ++ s ≠ b ++ t
theorem lt_head {x y : UInt8} {a b : List UInt8} (h : x.toNat < y.toNat) : Lt (x :: a) (y :: b) := by
  intro s t
  have h1 : x < y := h
  have h2 : ¬ y < x := fun k => by have : y.toNat < x.toNat := k; omega
  have h3 : ¬ x = y := fun k => by subst k; omega
  refine ⟨?_, ?_, ?_⟩
  · simp [Op.bytesLess, h1]
  · simp [Op.bytesLess, h2, Ne.symm h3]
  · simp [h3]
theorem lt_same {x y : UInt8} {a b : List UInt8} (e : x.toNat = y.toNat) (h : Lt a b) : Lt (x :: a) (y :: b) := by
  obtain rfl : x = y := UInt8.toNat_inj.1 e
  intro s t
  obtain ⟨h1, h2, h3⟩ := h s t
  refine ⟨?_, ?_, ?_⟩
  · simp [Op.bytesLess, h1]
  · have : ¬ x < x := fun k => by have : x.toNat < x.toNat := k; omega
    simp [Op.bytesLess, h2, this]
  · simp [h3]
theorem lt_prefix {a b : List UInt8} (h : Lt a b) : ∀ p : List UInt8, Lt (p ++ a) (p ++ b)
  | [] => h
  | _ :: p => lt_same rfl (lt_prefix h p)
theorem toNat_of {z : Int} (_h0 : 0 ≤ z) (h1 : z < 256) : (z.toNat.toUInt8).toNat = z.toNat := by
  simp
  omega

set_option maxHeartbeats 1000000 in
theorem enc_lt (a b : Nat) (ha : scal a) (hb : scal b) (h : a < b) : Lt (encodeRune a) (encodeRune b) := by
  unfold scal at ha hb
  unfold encodeRune
  have o1 : ∀ r : Nat, r ≤ 127 → encodeRuneZ r = [(r : Int)] := fun r k => encodeRuneZ_one (by omega) (by omega)
  have o2 : ∀ r : Nat, 128 ≤ r → r ≤ 2047 → encodeRuneZ r = [192 + (r : Int) / 64, 128 + (r : Int) % 64] := fun r k l => encodeRuneZ_two (by omega) (by omega)
  have o3 : ∀ r : Nat, 2048 ≤ r → r ≤ 65535 → ¬ (55296 ≤ r ∧ r ≤ 57343) → encodeRuneZ r = [224 + (r : Int) / 4096, 128 + (r : Int) / 64 % 64, 128 + (r : Int) % 64] := fun r k l m => encodeRuneZ_three (by omega)
  have o4 : ∀ r : Nat, 65536 ≤ r → r < 1114112 → encodeRuneZ r = [240 + (r : Int) / 262144, 128 + (r : Int) / 4096 % 64, 128 + (r : Int) / 64 % 64, 128 + (r : Int) % 64] := fun r k l => encodeRuneZ_four (by omega) (by omega)
  by_cases a1 : a ≤ 127
  · rw [o1 a a1]
    by_cases b1 : b ≤ 127
    · rw [o1 b b1]
      exact lt_head (by rw [toNat_of (by omega) (by omega), toNat_of (by omega) (by omega)]; omega)
    by_cases b2 : b ≤ 2047
    · rw [o2 b (by omega) b2]
      exact lt_head (by rw [toNat_of (by omega) (by omega), toNat_of (by omega) (by omega)]; omega)
    by_cases b3 : b ≤ 65535
    · rw [o3 b (by omega) b3 hb.2]
      exact lt_head (by rw [toNat_of (by omega) (by omega), toNat_of (by omega) (by omega)]; omega)
    · rw [o4 b (by omega) hb.1]
      exact lt_head (by rw [toNat_of (by omega) (by omega), toNat_of (by omega) (by omega)]; omega)
  by_cases a2 : a ≤ 2047
  · rw [o2 a (by omega) a2]
    by_cases b2 : b ≤ 2047
    · rw [o2 b (by omega) b2]
      by_cases c : a / 64 = b / 64
      · refine lt_same (by rw [toNat_of (by omega) (by omega), toNat_of (by omega) (by omega)]; omega) (lt_head ?_)
        rw [toNat_of (by omega) (by omega), toNat_of (by omega) (by omega)]; omega
      · exact lt_head (by rw [toNat_of (by omega) (by omega), toNat_of (by omega) (by omega)]; omega)
    by_cases b3 : b ≤ 65535
    · rw [o3 b (by omega) b3 hb.2]
      exact lt_head (by rw [toNat_of (by omega) (by omega), toNat_of (by omega) (by omega)]; omega)
    · rw [o4 b (by omega) hb.1]
      exact lt_head (by rw [toNat_of (by omega) (by omega), toNat_of (by omega) (by omega)]; omega)
  by_cases a3 : a ≤ 65535
  · rw [o3 a (by omega) a3 ha.2]
    by_cases b3 : b ≤ 65535
    · rw [o3 b (by omega) b3 hb.2]
      by_cases c : a / 4096 = b / 4096
      · refine lt_same (by rw [toNat_of (by omega) (by omega), toNat_of (by omega) (by omega)]; omega) ?_
        by_cases d : a / 64 = b / 64
        · refine lt_same (by rw [toNat_of (by omega) (by omega), toNat_of (by omega) (by omega)]; omega) (lt_head ?_)
          rw [toNat_of (by omega) (by omega), toNat_of (by omega) (by omega)]; omega
        · exact lt_head (by rw [toNat_of (by omega) (by omega), toNat_of (by omega) (by omega)]; omega)
      · exact lt_head (by rw [toNat_of (by omega) (by omega), toNat_of (by omega) (by omega)]; omega)
    · rw [o4 b (by omega) hb.1]
      exact lt_head (by rw [toNat_of (by omega) (by omega), toNat_of (by omega) (by omega)]; omega)
  · rw [o4 a (by omega) ha.1, o4 b (by omega) hb.1]
    by_cases c : a / 262144 = b / 262144
    · refine lt_same (by rw [toNat_of (by omega) (by omega), toNat_of (by omega) (by omega)]; omega) ?_
      by_cases d : a / 4096 = b / 4096
      · refine lt_same (by rw [toNat_of (by omega) (by omega), toNat_of (by omega) (by omega)]; omega) ?_
        by_cases e : a / 64 = b / 64
        · refine lt_same (by rw [toNat_of (by omega) (by omega), toNat_of (by omega) (by omega)]; omega) (lt_head ?_)
          rw [toNat_of (by omega) (by omega), toNat_of (by omega) (by omega)]; omega
        · exact lt_head (by rw [toNat_of (by omega) (by omega), toNat_of (by omega) (by omega)]; omega)
      · exact lt_head (by rw [toNat_of (by omega) (by omega), toNat_of (by omega) (by omega)]; omega)
    · exact lt_head (by rw [toNat_of (by omega) (by omega), toNat_of (by omega) (by omega)]; omega)

/-- where two texts part -/
theorem cat_part (P L M : List Nat) (a b : Nat) (ha : scal a) (hb : scal b) (h : a ≠ b) :
    Op.bytesLess (cat (P ++ a :: L)) (cat (P ++ b :: M)) = decide (a < b) ∧ cat (P ++ a :: L) ≠ cat (P ++ b :: M) := by
  rw [cat_append, cat_append, cat_cons, cat_cons]
  rcases Nat.lt_or_gt_of_ne h with h | h
  · obtain ⟨h1, _, h3⟩ := lt_prefix (enc_lt a b ha hb h) (cat P) (cat L) (cat M)
    rw [List.append_assoc, List.append_assoc] at h1 h3
    exact ⟨by rw [h1]; simp [h], h3⟩
  · obtain ⟨_, h2, h3⟩ := lt_prefix (enc_lt b a hb ha h) (cat P) (cat M) (cat L)
    rw [List.append_assoc, List.append_assoc] at h2 h3
    exact ⟨by rw [h2]; simp; omega, fun e => h3 e.symm⟩
theorem less_self : ∀ l : List UInt8, Op.bytesLess l l = false
  | [] => rfl
  | x :: l => by
    have : ¬ x < x := fun k => by have : x.toNat < x.toNat := k; omega
    simp [Op.bytesLess, this, less_self l]
theorem less_more : ∀ (l m : List UInt8), m ≠ [] → Op.bytesLess l (l ++ m) = true ∧ Op.bytesLess (l ++ m) l = false
  | [], m, h => by
    cases m with
    | nil => exact absurd rfl h
    | cons y m => simp [Op.bytesLess]
  | x :: l, m, h => by
    have : ¬ x < x := fun k => by have : x.toNat < x.toNat := k; omega
    obtain ⟨h1, h2⟩ := less_more l m h
    simp [Op.bytesLess, this, h1, h2]
theorem cat_ne (r : Nat) (L : List Nat) : cat (r :: L) ≠ [] := by
  intro h
  have := congrArg List.length h
  rw [cat_cons, List.length_append, enc_length] at this
  have := el_pos r
  simp at *
  omega
/-- where one is a beginning of the other -/
theorem cat_short (P L M : List Nat) (h : L = [] ∨ M = []) :
    Op.bytesLess (cat (P ++ L)) (cat (P ++ M)) = decide ((P ++ L).length < (P ++ M).length) ∧ (cat (P ++ L) = cat (P ++ M) ↔ (P ++ L).length = (P ++ M).length) := by
  cases L with
  | nil =>
    cases M with
    | nil => simp [less_self]
    | cons r M =>
      obtain ⟨h1, _⟩ := less_more (cat P) (cat (r :: M)) (cat_ne r M)
      rw [List.append_nil, cat_append P (r :: M), h1]
      have := cat_ne r M
      simp [this]
  | cons r L =>
    cases M with
    | nil =>
      obtain ⟨_, h1⟩ := less_more (cat P) (cat (r :: L)) (cat_ne r L)
      rw [List.append_nil, cat_append P (r :: L), h1]
      have := cat_ne r L
      simp [this]
    | cons q M => rcases h with h | h <;> cases h
end Go.Proofs.YtbfabpjhdhhpfaaDoor.Rn
/-
  runes.Mend and runes.Runes, of and into texts that are characters all through.
-/
namespace Go.Proofs.YtbfabpjhdhhpfaaDoor
open Go.RowKit Go.Shelf

namespace Rn
/-- a text that is these characters -/
def tx (L : List Nat) : ByteArray := arr (lf (cat L)) (cat L).length
theorem tx_toList (L : List Nat) : (tx L).toList = cat L := by
  unfold tx
  rw [arr_lf, ByteArray.toList_mk]
end Rn

theorem mend_cat (f : Nat → Nat) (n : Nat) (w : World) (hf : ∀ j, f j < 256) (hbig : n ≤ 35184372088832) :
    Calls Tryd.prog 17 #[.string (Rn.arr f n)] w fun e w' => ∃ L, L = Rn.rl (Rn.chs f n hf) ∧ e = .returned (.string (Rn.tx L)) ∧ Below w.heap.size w w' ∧ (Rn.cat L).length ≤ 4 * n ∧ (∀ r ∈ L, Rn.scal r) := by
  refine (mend_any f n w hf hbig).mono ?_
  rintro e w' ⟨rfl, hb, hl⟩
  refine ⟨_, rfl, ?_, hb, by rw [← Rn.md_cat]; exact hl, Rn.chs_scal f n hf⟩
  rw [Rn.md_cat, Rn.tx, Rn.arr_lf]
end Go.Proofs.YtbfabpjhdhhpfaaDoor
/-
  Plain mathematics of mending: what is mended is characters; a text of characters is its own mending.
-/
namespace Go.Proofs.YtbfabpjhdhhpfaaDoor.Rn
open Go.Lib

theorem whole_enc (r : Nat) (hr : scal r) (f : Nat → Nat) (n : Nat) (hn : el r ≤ n) (h : ∀ j, j < el r → f j = eb r j) : whole f n = true ∧ fs f n = el r := by
  have hw : (want r).toNat = r := by
    unfold want
    unfold scal at hr
    rw [if_neg (by omega)]
    omega
  have E := eb_enc r
  rw [hw] at E
  have hp := el_pos r
  have es : size (f 0) = el r := by rw [h 0 (by omega)]; exact E.fs
  have e1 : fk f (el r) = el r := (fk_congr h).trans E.fk
  have e2 := fk_min f hn (by omega)
  have e3 : fs f n = el r := by unfold fs; rw [if_neg (by omega)]; exact es
  have e4 := fk_le_fs f n
  exact ⟨by simp only [whole, decide_eq_true_eq]; omega, e3⟩

/-- what stands at a place of a text that is characters all through -/
theorem at_enc (l A : List UInt8) (r : Nat) (L : List Nat) (hr : scal r) (hl : l = A ++ (encodeRune r ++ cat L)) :
    l.length = A.length + (el r + (cat L).length) ∧ whole (off (lf l) A.length) (l.length - A.length) = true ∧ fs (off (lf l) A.length) (l.length - A.length) = el r ∧ dec (off (lf l) A.length) (l.length - A.length) = (r, el r) := by
  have hlen : l.length = A.length + (el r + (cat L).length) := by rw [hl]; simp [enc_length]
  have hj : ∀ j, j < el r → off (lf l) A.length j = eb r j := fun j hj => by
    rw [hl, off_lf, ← enc_get]
    unfold lf
    rw [List.getElem?_append_left (by rw [enc_length]; exact hj)]
  obtain ⟨h1, h2⟩ := whole_enc r hr _ (l.length - A.length) (by omega) hj
  exact ⟨hlen, h1, h2, dec_enc r hr _ _ (fun _ => lf_lt l _) (by omega) hj⟩

/-- how many bytes of a character that isn't whole stand at the end, from a place on -/
def pend (f : Nat → Nat) (n : Nat) : Nat → Nat → Nat
  | 0, _ => 0
  | fuel + 1, p => if n ≤ p then 0 else if whole (off f p) (n - p) then pend f n fuel (p + fs (off f p) (n - p)) else n - p
theorem pend_end (f : Nat → Nat) (n fuel p : Nat) (h : n ≤ p) : pend f n fuel p = 0 := by
  cases fuel with
  | zero => rfl
  | succ m => unfold pend; rw [if_pos h]

theorem goodFrom_cat (l : List UInt8) : ∀ (L : List Nat), (∀ r ∈ L, scal r) → ∀ (A : List UInt8) (fuel : Nat), l = A ++ cat L → (cat L).length ≤ fuel →
    goodFrom (lf l) l.length fuel A.length = l.length ∧ pend (lf l) l.length fuel A.length = 0
  | [], _, A, fuel, hl, _ => by
    have : l.length = A.length := by rw [hl]; simp [cat]
    rw [this]
    exact ⟨goodFrom_end _ _ _ _ (Nat.le_refl _), pend_end _ _ _ _ (Nat.le_refl _)⟩
  | r :: L, hL, A, fuel, hl, hfu => by
    have hp := el_pos r
    rw [cat_cons] at hl hfu
    rw [List.length_append, enc_length] at hfu
    obtain ⟨m, rfl⟩ : ∃ m, fuel = m + 1 := ⟨fuel - 1, by omega⟩
    obtain ⟨hlen, h1, h2, _⟩ := at_enc l A r L (hL r (by simp)) hl
    have ih := goodFrom_cat l L (fun q hq => hL q (by simp [hq])) (A ++ encodeRune r) m (by rw [hl]; simp) (by omega)
    rw [List.length_append, enc_length] at ih
    constructor
    · unfold goodFrom
      rw [if_neg (by omega), h1, if_pos rfl, h2]
      exact ih.1
    · unfold pend
      rw [if_neg (by omega), h1, if_pos rfl, h2]
      exact ih.2
theorem good_cat (L : List Nat) (hL : ∀ r ∈ L, scal r) : good (lf (cat L)) (cat L).length = (cat L).length := (goodFrom_cat (cat L) L hL [] _ rfl (Nat.le_refl _)).1
theorem pend_cat (L : List Nat) (hL : ∀ r ∈ L, scal r) : pend (lf (cat L)) (cat L).length (cat L).length 0 = 0 := (goodFrom_cat (cat L) L hL [] _ rfl (Nat.le_refl _)).2

theorem mp_from (l : List UInt8) : ∀ (L : List Nat), (∀ r ∈ L, scal r) → ∀ (A : List UInt8) (fuel : Nat) (st : List UInt8 × Nat), l = A ++ cat L → (cat L).length ≤ fuel → st.2 ≤ A.length →
    ((chFrom (lf l) l.length (lf_lt l) fuel A.length).foldl (mpStep (lf l) l.length) st).1 = st.1 ++ cat L
  | [], _, A, fuel, st, hl, _, _ => by
    rw [chFrom_end _ _ _ _ _ (by rw [hl]; simp [cat])]
    simp [cat]
  | r :: L, hL, A, fuel, st, hl, hfu, hst => by
    have hp := el_pos r
    rw [cat_cons] at hl hfu
    rw [List.length_append, enc_length] at hfu
    obtain ⟨m, rfl⟩ : ∃ m, fuel = m + 1 := ⟨fuel - 1, by omega⟩
    obtain ⟨hlen, h1, h2, h3⟩ := at_enc l A r L (hL r (by simp)) hl
    have ih := fun st' h => mp_from l L (fun q hq => hL q (by simp [hq])) (A ++ encodeRune r) m st' (by rw [hl]; simp) (by omega) h
    rw [List.length_append, enc_length] at ih
    unfold chFrom
    rw [dif_pos (by omega)]
    simp only [List.foldl_cons, h3]
    have hs : mpStep (lf l) l.length st ⟨(A.length, r), by omega, by have := (hL r (by simp)).1; omega⟩ = (st.1 ++ encodeRune r, if r = 65533 then A.length + el r else st.2) := by
      unfold mpStep
      simp only []
      rw [if_neg (by omega), pw, h1, if_pos rfl, h2]
    rw [hs, ih _ (by simp only []; split <;> omega), cat_cons]
    simp
theorem mp_cat (L : List Nat) (hL : ∀ r ∈ L, scal r) : (mp (lf (cat L)) (cat L).length (chs (lf (cat L)) (cat L).length (lf_lt _))).1 = cat L := by
  exact mp_from (cat L) L hL [] (cat L).length ([], 0) rfl (Nat.le_refl _) (Nat.le_refl _)

theorem mp_some (f : Nat → Nat) (n : Nat) : ∀ (xs : List (Chr n)) (st : List UInt8 × Nat), ∃ K, (xs.foldl (mpStep f n) st).1 = st.1 ++ cat K ∧ K.length ≤ xs.length ∧ ∀ r ∈ K, r ∈ rl xs
  | [], st => ⟨[], by simp [cat], by simp, by simp⟩
  | x :: xs, st => by
    obtain ⟨K, h1, h2, h3⟩ := mp_some f n xs (mpStep f n st x)
    rw [List.foldl_cons, h1]
    unfold mpStep
    split
    · exact ⟨K, rfl, by simp; omega, fun r hr => by simp only [rl, List.map_cons, List.mem_cons]; exact .inr (h3 r hr)⟩
    · refine ⟨x.1.2 :: K, by rw [cat_cons]; simp, by simp; omega, fun r hr => ?_⟩
      simp only [rl, List.map_cons, List.mem_cons] at hr ⊢
      exact hr.elim .inl (fun h => .inr (h3 r h))
/-- MendParts writes characters, no more than there are -/
theorem mp_chars (f : Nat → Nat) (n : Nat) (hf : ∀ j, f j < 256) : ∃ K, (mp f n (chs f n hf)).1 = cat K ∧ K.length ≤ (rl (chs f n hf)).length ∧ ∀ r ∈ K, scal r := by
  obtain ⟨K, h1, h2, h3⟩ := mp_some f n (chs f n hf) ([], 0)
  exact ⟨K, by simpa [mp] using h1, by simpa [rl] using h2, fun r hr => chs_scal f n hf r (h3 r hr)⟩

theorem dig2 {a b v : Nat} (hb : b < 64) (h : v = a * 64 + b) : v / 64 = a ∧ v % 64 = b := by omega
theorem dig3 {a b c v : Nat} (hb : b < 64) (hc : c < 64) (h : v = a * 4096 + b * 64 + c) : v / 4096 = a ∧ v / 64 % 64 = b ∧ v % 64 = c := by omega
theorem dig4 {a b c d v : Nat} (hb : b < 64) (hc : c < 64) (hd : d < 64) (h : v = a * 262144 + b * 4096 + c * 64 + d) : v / 262144 = a ∧ v / 4096 % 64 = b ∧ v / 64 % 64 = c ∧ v % 64 = d := by omega
theorem tail_byte {b : Nat} (h : 128 ≤ b ∧ b ≤ 191) : 128 + b % 64 = b := by omega
/-- a whole character is written as it was read -/
theorem enc_fv (f : Nat → Nat) (n : Nat) (h : whole f n = true) : el (fv f) = fs f n ∧ ∀ j, j < fs f n → eb (fv f) j = f j := by
  have hsc := fv_scal f n h
  have hw : (want (fv f : Nat)).toNat = fv f := by
    unfold want
    unfold scal at hsc
    rw [if_neg (by omega)]
    omega
  have E := eb_enc (fv f : Nat)
  rw [hw] at E
  simp only [whole, decide_eq_true_eq] at h
  have hn : ¬ n = 0 := by
    intro e
    subst e
    simp [fs] at h
  have e0 : fs f n = size (f 0) := by unfold fs; rw [if_neg hn]
  rw [e0] at h ⊢
  have hk := h.2
  have hpos := h.1
  unfold fk at hk
  have hv : fv f = val (f 0) (f 1) (f 2) (f 3) := rfl
  unfold val at hv
  generalize fv f = v at *
  clear hw hsc h e0
  rcases size_cases (f 0) with ⟨e, c⟩ | ⟨e, c, d, l, hh⟩ | ⟨e, c, d, hh⟩ | ⟨e, c, d, hh⟩ | ⟨e, c, d⟩
  · rw [e] at hk hv ⊢
    simp only [if_true] at hv
    cases E with
    | one a b c => exact ⟨a, fun j hj => by obtain rfl : j = 0 := by omega
                                            omega⟩
    | two => omega
    | three => omega
    | four => omega
  · rw [e] at hk hv ⊢
    rw [len2 e] at hk
    simp only [Nat.reduceEqDiff, if_false, if_true] at hv
    have t1 := tail_byte (b := f 1) (by omega)
    obtain ⟨g0, g1⟩ := dig2 (by omega) hv
    have hlow : 128 ≤ v ∧ v < 2048 := by omega
    cases E with
    | one => omega
    | two a b c => exact ⟨a, fun j hj => by have : j = 0 ∨ j = 1 := by omega
                                            rcases this with rfl | rfl
                                            · rw [b, g0]; omega
                                            · rw [c, g1]; omega⟩
    | three => omega
    | four => omega
  · rw [e] at hk hv ⊢
    rw [len3 e] at hk
    simp only [Nat.reduceEqDiff, if_false, if_true] at hv
    have hb : 128 ≤ f 1 ∧ f 1 ≤ 191 := by rcases hh with h | h | h <;> omega
    have t1 := tail_byte hb
    have t2 := tail_byte (b := f 2) (by omega)
    obtain ⟨g0, g1, g2⟩ := dig3 (by omega) (by omega) hv
    have hlow : 2048 ≤ v ∧ v < 65536 := by rcases hh with h | h | h <;> omega
    cases E with
    | one => omega
    | two => omega
    | three a b c g => exact ⟨a, fun j hj => by have : j = 0 ∨ j = 1 ∨ j = 2 := by omega
                                                rcases this with rfl | rfl | rfl
                                                · rw [b, g0]; omega
                                                · rw [c, g1]; omega
                                                · rw [g, g2]; omega⟩
    | four => omega
  · rw [e] at hk hv ⊢
    rw [len4 e] at hk
    simp only [Nat.reduceEqDiff, if_false] at hv
    have hb : 128 ≤ f 1 ∧ f 1 ≤ 191 := by rcases hh with h | h | h <;> omega
    have t1 := tail_byte hb
    have t2 := tail_byte (b := f 2) (by omega)
    have t3 := tail_byte (b := f 3) (by omega)
    obtain ⟨g0, g1, g2, g3⟩ := dig4 (by omega) (by omega) (by omega) hv
    have hlow : 65536 ≤ v := by rcases hh with h | h | h <;> omega
    cases E with
    | one => omega
    | two => omega
    | three => omega
    | four a b c g k => exact ⟨a, fun j hj => by have : j = 0 ∨ j = 1 ∨ j = 2 ∨ j = 3 := by omega
                                                 rcases this with rfl | rfl | rfl | rfl
                                                 · rw [b, g0]; omega
                                                 · rw [c, g1]; omega
                                                 · rw [g, g2]; omega
                                                 · rw [k, g3]; omega⟩
  · omega

theorem lf_ext {a b : List UInt8} (h : a.length = b.length) (hj : ∀ j, j < a.length → lf a j = lf b j) : a = b := by
  apply List.ext_getElem h
  intro j h1 h2
  have := hj j h1
  unfold lf at this
  rw [List.getElem?_eq_getElem h1, List.getElem?_eq_getElem h2] at this
  exact UInt8.toNat_inj.1 this
theorem pend_all (l : List UInt8) : ∀ fuel p, l.length ≤ p + fuel → pend (lf l) l.length fuel p = 0 → cat (rl (chFrom (lf l) l.length (lf_lt l) fuel p)) = l.drop p
  | 0, p, h, _ => by
    rw [List.drop_eq_nil_of_le (by omega)]
    simp [chFrom, rl, cat]
  | fuel + 1, p, h, hz => by
    by_cases hp : l.length ≤ p
    · rw [chFrom_end _ _ _ _ _ (by omega), List.drop_eq_nil_of_le hp]
      simp [rl, cat]
    · unfold pend at hz
      rw [if_neg hp] at hz
      cases hw : whole (off (lf l) p) (l.length - p)
      · rw [hw] at hz
        simp at hz
        omega
      · rw [hw, if_pos rfl] at hz
        obtain ⟨e1, e2⟩ := enc_fv _ _ hw
        have hd := dec_whole (off (lf l) p) (l.length - p) (fun _ => lf_lt l _) (by omega)
        rw [hw, if_pos rfl] at hd
        have hle := fk_le (off (lf l) p) (l.length - p)
        simp only [whole, decide_eq_true_eq] at hw
        generalize hq : fs (off (lf l) p) (l.length - p) = q at *
        have ih := pend_all l fuel (p + q) (by omega) hz
        unfold chFrom
        rw [dif_pos (by omega)]
        simp only [rl, List.map_cons, hd]
        rw [cat_cons]
        have hT : encodeRune (fv (off (lf l) p) : Nat) = (l.drop p).take q := by
          apply lf_ext
          · rw [enc_length, List.length_take, List.length_drop]
            omega
          · intro j hj
            rw [enc_length] at hj
            rw [enc_get, e2 j (by omega)]
            unfold off lf
            rw [List.getElem?_take_of_lt (by omega), List.getElem?_drop]
        rw [hT, show cat (List.map (fun x => x.1.2) (chFrom (lf l) l.length (lf_lt l) fuel (p + q))) = l.drop (p + q) from ih, ← List.drop_drop, List.take_append_drop]

/-- a text is its own mending just where it can go on and nothing is pending; and just where it is so by its parts -/
theorem own_mending (l : List UInt8) : (good (lf l) l.length = l.length ∧ pend (lf l) l.length l.length 0 = 0) ↔ cat (rl (chs (lf l) l.length (lf_lt l))) = l := by
  constructor
  · rintro ⟨_, h⟩
    have := pend_all l l.length 0 (by omega) h
    rw [List.drop_zero] at this
    exact this
  · intro h
    have hs := chs_scal (lf l) l.length (lf_lt l)
    generalize rl (chs (lf l) l.length (lf_lt l)) = L at *
    subst h
    exact ⟨good_cat L hs, pend_cat L hs⟩
theorem own_parts (l : List UInt8) : cat (rl (chs (lf l) l.length (lf_lt l))) = l ↔ (mp (lf l) l.length (chs (lf l) l.length (lf_lt l))).1 = l := by
  constructor
  · intro h
    have hs := chs_scal (lf l) l.length (lf_lt l)
    generalize hL : rl (chs (lf l) l.length (lf_lt l)) = L at *
    subst h
    exact mp_cat L hs
  · intro h
    obtain ⟨K, h1, _, h3⟩ := mp_chars (lf l) l.length (lf_lt l)
    rw [h] at h1
    subst h1
    rw [rl_cat K h3]
end Go.Proofs.YtbfabpjhdhhpfaaDoor.Rn
