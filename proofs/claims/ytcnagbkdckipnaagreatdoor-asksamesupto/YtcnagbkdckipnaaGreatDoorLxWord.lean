import Derived.Test.YtcnagbkdckipnaaGreatDoorRnBeg
import Derived.Laws.RangeAny
import Derived.Laws.IdiomStrings
import Derived.Test.YtcnagbkdckipnaaGreatDoorChTab
import Derived.Lib.IndexLaws
import Derived.Lib.ValidAsc
import Derived.Lib.EndianBits
import Derived.Deep.QuietTactic
import Derived.Deep.Draws
/-
  WALKS over runes.endsLine and runes.At: a place by its bytes.
-/
namespace Go.Proofs.YtcnagbkdckipnaaGreatDoor
open Go.RowKit Go.Lib

namespace Rn
/-- does a line end behind the character r at p? -/
def lineEnd (f : Nat → Nat) (n p r : Nat) : Bool := if r = 13 then decide (p + 1 = n ∨ f (p + 1) ≠ 10) else decide (r = 10)
/-- rune, line, column behind the characters from p on up to a, by at most so many -/
def plcFrom (f : Nat → Nat) (n a : Nat) : Nat → Nat → Nat → Nat → Nat → Nat × Nat × Nat
  | 0, _, rn, ln, co => (rn, ln, co)
  | fuel + 1, p, rn, ln, co => if a ≤ p then (rn, ln, co) else
      if lineEnd f n p (dec (off f p) (a - p)).1 then plcFrom f n a fuel (p + (dec (off f p) (a - p)).2) (rn + 1) (ln + 1) 1
      else plcFrom f n a fuel (p + (dec (off f p) (a - p)).2) (rn + 1) ln (co + 1)
def plc (f : Nat → Nat) (n a : Nat) : Nat × Nat × Nat := plcFrom f n a a 0 0 1 1
theorem plcFrom_end (f : Nat → Nat) (n a fuel p rn ln co : Nat) (h : a ≤ p) : plcFrom f n a fuel p rn ln co = (rn, ln, co) := by
  cases fuel with
  | zero => rfl
  | succ m => unfold plcFrom; rw [if_pos h]
theorem dec_pos (f : Nat → Nat) (n : Nat) (hf : ∀ j, f j < 256) (hn : 0 < n) : 0 < (dec f n).2 ∧ (dec f n).2 ≤ n ∧ (dec f n).2 ≤ 4 := by
  rw [dec_whole f n hf hn]
  have a1 := fk_le f n
  have a2 := fs_le f n
  split
  · next h =>
    simp only [whole, decide_eq_true_eq] at h
    exact ⟨h.1, by show fs f n ≤ n; omega, a2⟩
  · exact ⟨by simp, by show 1 ≤ n; omega, by simp⟩
theorem dec_lt (f : Nat → Nat) (n : Nat) (hf : ∀ j, f j < 256) (hn : 0 < n) : (dec f n).1 < 2097152 := by
  rw [dec_whole f n hf hn]
  split
  · exact fv_le f hf
  · show 65533 < 2097152; omega
/-- the model's decoder at a place of such bytes -/
theorem arr_decode (f : Nat → Nat) (n p : Nat) (hf : ∀ j, f j < 256) (hp : p < n) : Utf8.decode (arr f n) p = dec (off f p) (n - p) := by
  rw [decode_at, arr_size, dec]
  exact decodeN_congr (fun _ => arr_get f n p hp (hf _)) (fun h => arr_get f n (p + 1) (by omega) (hf _)) (fun h => arr_get f n (p + 2) (by omega) (hf _)) (fun h => arr_get f n (p + 3) (by omega) (hf _)) (by omega)
end Rn

theorem ret_bool {a b : Bool} (h : a = b) : Ending.returned (.bool a) = .returned (.bool b) := by rw [h]

set_option maxHeartbeats 1000000 in
theorem endsLine_any (f : Nat → Nat) (n b off cap i : Nat) (r : Nat) (w : World) (hi : i < n) (hn : n ≤ 9223372036854775807) (hp : Bytes w b off n f) :
    Calls Tryz.prog 65 #[.slice (some ⟨b, off, none⟩) n cap, .int .i64 i, .int .i32 r] w fun e w' => e = .returned (.bool (Rn.lineEnd f n i r)) ∧ w' = w := by
  unfold Rn.lineEnd
  by_cases hr : r = 13
  · subst hr
    by_cases h1 : i + 1 = n
    · have h2 : ((i : Int) + 1 == n) = true := by simp; omega
      clear hp
      go_enter Tryz.func65, Tryz.ntmps65
      go_wp2
      go_ret
      exact ⟨ret_bool (by simp), rfl⟩
    · have h2 : ((i : Int) + 1 == n) = false := by simp; omega
      have c1 := hp (i + 1) (by omega)
      have hl : (i : Int) + 1 < n := by omega
      clear hp
      go_enter Tryz.func65, Tryz.ntmps65
      go_wp2
      go_ret
      refine ⟨ret_bool ?_, rfl⟩
      rw [Bool.eq_iff_iff]
      simp
      omega
  · have h2 : ((r : Int) == 13) = false := by simp; omega
    clear hp
    go_enter Tryz.func65, Tryz.ntmps65
    go_wp2
    go_ret
    refine ⟨ret_bool ?_, rfl⟩
    rw [Bool.eq_iff_iff]
    simp
    omega

/-- 'string(b)' of bytes that are told by their place -/
theorem bytes_string (W : World) (b off n cap : Nat) (f : Nat → Nat) (hf : ∀ j, f j < 256) (hp : Bytes W b off n f) :
    (convert 22 9 (.slice (some ⟨b, off, none⟩) n cap)).run Tryz.prog W = .ok (.string (Rn.arr f n)) W := by
  have h := run_convert_bytes_back (P := Tryz.prog) W 22 9 5 ⟨b, off, none⟩ cap (Rn.arr f n).data.toList Tryz.underlying22 Tryz.underlying5 Tryz.underlying9 (fun j hj => by
    have hj' : j < n := by simpa [Rn.arr] using hj
    rw [show (Addr.add ⟨b, off, none⟩ j) = ⟨b, off + j, none⟩ from by simp [Addr.add], hp j hj']
    have e : ((Rn.arr f n).data.toList[j]).toNat = f j := by
      simp [Rn.arr]
      have := hf j
      omega
    rw [e])
  have e1 : (Rn.arr f n).data.toList.length = n := by simp [Rn.arr]
  rw [e1] at h
  simpa using h

set_option maxHeartbeats 1000000 in
/-- the place is outside -/
theorem at_out (v : Option Addr) (n cap : Nat) (k : Int) (w : World) (h : k < 0 ∨ (n : Int) < k) :
    Calls Tryz.prog 31 #[.slice v n cap, .int .i64 k] w fun e w' => e = .returned (.tuple #[.agg #[.int .i64 0, .int .i64 0, .int .i64 0, .int .i64 0], .int .i64 2]) ∧ Below w.heap.size w w' := by
  rcases h with h | h
  · go_enter Tryz.func31, Tryz.ntmps31
    go_wp2
    exact bodyPost_ret (v := .tuple #[.agg #[.int .i64 0, .int .i64 0, .int .i64 0, .int .i64 0], .int .i64 2]) (by simp [results, Tryz.results31, go_sem]) rfl ⟨rfl, (Below.refl _ _).alloc (Nat.le_refl _) _⟩
  · have h0 : ¬ k < 0 := by omega
    go_enter Tryz.func31, Tryz.ntmps31
    go_wp2
    exact bodyPost_ret (v := .tuple #[.agg #[.int .i64 0, .int .i64 0, .int .i64 0, .int .i64 0], .int .i64 2]) (by simp [results, Tryz.results31, go_sem]) rfl ⟨rfl, (Below.refl _ _).alloc (Nat.le_refl _) _⟩

/-- 'next' of an iterator that is the last block -/
theorem next_alloc (W : World) (k : Nat) (hk : W.heap.size = k) (f : Nat → Nat) (a pos : Nat) (hf : ∀ j, f j < 256) (hlt : pos < a) (ty : TypeId) :
    (Instr.next (.pointer (some ⟨k, 0, none⟩)) true ty).run Tryz.prog (W.alloc (.stringIter (Rn.arr f a) pos)) =
      .ok (.tuple #[.bool true, .int .i64 pos, .int .i32 (Rn.dec (Rn.off f pos) (a - pos)).1]) (W.alloc (.stringIter (Rn.arr f a) (pos + (Rn.dec (Rn.off f pos) (a - pos)).2))) := by
  subst hk
  have := run_next_any (P := Tryz.prog) W (Rn.arr f a) pos ty (by rw [Rn.arr_size]; exact hlt)
  rw [Rn.arr_decode f a pos hf hlt] at this
  exact this
theorem next_alloc_end (W : World) (k : Nat) (hk : W.heap.size = k) (f : Nat → Nat) (a pos : Nat) (hlt : ¬ pos < a) (ty : TypeId) :
    (Instr.next (.pointer (some ⟨k, 0, none⟩)) true ty).run Tryz.prog (W.alloc (.stringIter (Rn.arr f a) pos)) = .ok (.tuple #[.bool false]) (W.alloc (.stringIter (Rn.arr f a) pos)) := by
  subst hk
  exact run_next_end (P := Tryz.prog) W (Rn.arr f a) pos ty (by rw [Rn.arr_size]; exact hlt)
theorem iterPos_alloc (W : World) (k : Nat) (s : ByteArray) (p : Nat) (hk : W.heap.size = k) : (W.alloc (.stringIter s p)).iterPos k = p := by
  subst hk
  exact World.iterPos_iter W s p
/-- At's world in its loop -/
def atW (w : World) (s : ByteArray) (pos a rn ln co : Nat) : World :=
  ((w.alloc (.cells #[.int .i64 0, .int .i64 0, .int .i64 0, .int .i64 0] 31)).alloc (.cells #[.int .i64 a, .int .i64 rn, .int .i64 ln, .int .i64 co] 31)).alloc (.stringIter s pos)

set_option maxHeartbeats 2000000 in
/-- At of a place of the bytes -/
theorem at_in (f : Nat → Nat) (n b off cap a : Nat) (w : World) (hf : ∀ j, f j < 256) (ha : a ≤ n) (hc : n ≤ cap) (_hm : cap ≤ maxLen) (hbig : n ≤ 4611686018427387904)
    (hp : Bytes w b off n f) :
    Calls Tryz.prog 31 #[.slice (some ⟨b, off, none⟩) n cap, .int .i64 a] w fun e w' =>
      e = .returned (.tuple #[.agg #[.int .i64 a, .int .i64 (Rn.plc f n a).1, .int .i64 (Rn.plc f n a).2.1, .int .i64 (Rn.plc f n a).2.2], .int .i64 0]) ∧ Below w.heap.size w w' := by
  have hm : cap ≤ 9223372036854775807 := by unfold maxLen at _hm; omega
  have h0 : ¬ (a : Int) < 0 := by omega
  have h1 : ¬ (n : Int) < (a : Int) := by omega
  have hcv : ∀ o1 o2, (convert 22 9 (.slice (some ⟨b, off, none⟩) a cap)).run Tryz.prog ((w.alloc o1).alloc o2) = .ok (.string (Rn.arr f a)) ((w.alloc o1).alloc o2) := fun o1 o2 =>
    bytes_string _ b off a cap f hf (((hp.le ha).below ((Below.refl w.heap.size w).alloc (Nat.le_refl _) o1) (Nat.le_refl _)).below ((Below.refl (w.alloc o1).heap.size (w.alloc o1)).alloc (Nat.le_refl _) o2) (Nat.le_refl _))
  go_enter Tryz.func31, Tryz.ntmps31
  go_wp2
  go_loopw [] (fun wr => ∃ (pos fuel rn ln co : Nat), wr = atW w (Rn.arr f a) pos a rn ln co ∧ pos ≤ a ∧ a ≤ pos + fuel ∧ rn ≤ pos ∧ ln ≤ pos + 1 ∧ co ≤ pos + 1 ∧ Rn.plcFrom f n a fuel pos rn ln co = Rn.plc f n a) (fun wr => a - wr.iterPos (w.heap.size + 2))
  case atStart => exact ⟨0, a, 0, 1, 1, rfl, by omega, by omega, by omega, by omega, by omega, rfl⟩
  case round =>
    obtain ⟨pos, fuel, rn, ln, co, rfl, hpa, hfu, hrn, hln, hco, hpl⟩ := hrel
    have hsz : (Rn.arr f a).size = a := Rn.arr_size f a
    by_cases hlt : pos < a
    · obtain ⟨m, rfl⟩ : ∃ m, fuel = m + 1 := ⟨fuel - 1, by omega⟩
      have hg : ∀ j, Rn.off f pos j < 256 := fun j => hf _
      obtain ⟨hd1, hd2, hd3⟩ := Rn.dec_pos (Rn.off f pos) (a - pos) hg (by omega)
      have hd4 := Rn.dec_lt (Rn.off f pos) (a - pos) hg (by omega)
      have hnx := fun W hk ty => next_alloc W (w.heap.size + 1 + 1) hk f a pos hf hlt ty
      have cE : ∀ o1 o2 o3, _ := fun o1 o2 o3 => endsLine_any f n b off cap pos (Rn.dec (Rn.off f pos) (a - pos)).1 (((w.alloc o1).alloc o2).alloc o3) (by omega) (by omega)
        (((hp.below ((Below.refl w.heap.size w).alloc (Nat.le_refl _) o1) (Nat.le_refl _)).below ((Below.refl (w.alloc o1).heap.size (w.alloc o1)).alloc (Nat.le_refl _) o2) (Nat.le_refl _)).below ((Below.refl ((w.alloc o1).alloc o2).heap.size _).alloc (Nat.le_refl _) o3) (Nat.le_refl _))
      unfold Rn.plcFrom at hpl
      rw [if_neg (by omega)] at hpl
      unfold atW
      clear hcv hp hg
      generalize (Rn.dec (Rn.off f pos) (a - pos)).1 = r at *
      generalize (Rn.dec (Rn.off f pos) (a - pos)).2 = d at *
      cases hle : Rn.lineEnd f n pos r
      · rw [hle] at cE hpl
        have HP : Hid (_ = _) := hpl
        clear hpl hle
        go_wp2_with fail
        refine (cE _ _ _).mono ?_
        rintro e w1 ⟨rfl, rfl⟩
        go_wp2_with fail
        go_roundw
        case rel => exact ⟨pos + d, m, rn + 1, ln, co + 1, by go_num, by omega, by omega, by omega, by omega, by omega, HP.out⟩
        case measure => rw [iterPos_alloc _ _ _ _ (by simp), iterPos_alloc _ _ _ _ (by simp)]; omega
      · rw [hle] at cE hpl
        have HP : Hid (_ = _) := hpl
        clear hpl hle
        go_wp2_with fail
        refine (cE _ _ _).mono ?_
        rintro e w1 ⟨rfl, rfl⟩
        go_wp2_with fail
        go_roundw
        case rel => exact ⟨pos + d, m, rn + 1, ln + 1, 1, by go_num, by omega, by omega, by omega, by omega, by omega, HP.out⟩
        case measure => rw [iterPos_alloc _ _ _ _ (by simp), iterPos_alloc _ _ _ _ (by simp)]; omega
    · obtain rfl : pos = a := by omega
      rw [Rn.plcFrom_end _ _ _ _ _ _ _ _ (Nat.le_refl _)] at hpl
      have HP : Hid (_ = _) := hpl
      have hnx := fun W hk ty => next_alloc_end W (w.heap.size + 1 + 1) hk f pos pos hlt ty
      clear hpl hcv hp
      unfold atW
      go_wp2_with fail
      refine bodyPost_ret (v := .tuple #[.agg #[.int .i64 pos, .int .i64 rn, .int .i64 ln, .int .i64 co], .int .i64 0]) (by simp [results, Tryz.results31, go_sem]) rfl ⟨by rw [← HP.out], ?_⟩
      exact (((Below.refl w.heap.size w).alloc (Nat.le_refl _) _).alloc (by simp) _).alloc (by simp; omega) _
end Go.Proofs.YtcnagbkdckipnaaGreatDoor
/-
  WALKS over lexis.leading, and over strings.Cut at one byte.
-/
namespace Go.Proofs.YtcnagbkdckipnaaGreatDoor
open Go.RowKit Go.Lib

set_option maxRecDepth 100000 in
set_option maxHeartbeats 2000000 in
theorem leading_any (f : Nat → Nat) (n : Nat) (c : Int) (w : World) (hf : ∀ j, f j < 256) (hn : n ≤ 9223372036854775807) (hS : Spans w) :
    Calls Tryz.prog 35 #[.string (Rn.arr f n), .int .i64 c] w fun e w' => e = .returned (.int .i64 (Lx.lead f n c)) ∧ Below w.heap.size w w' := by
  have hsz := Rn.arr_size f n
  have cI : ∀ (r : Int) w1, Below w.heap.size w w1 → _ := fun r w1 hb => is_any c r w1 (hS.below hb (Nat.le_refl _))
  clear hS
  go_enter Tryz.func35, Tryz.ntmps35
  go_wp2
  go_loopw [] (fun wr => ∃ (pos fuel : Nat), wr.heap[w.heap.size]? = some (.stringIter (Rn.arr f n) pos) ∧ Lx.leadF f n c fuel pos = Lx.lead f n c ∧ n ≤ pos + fuel ∧ pos ≤ n ∧ Below w.heap.size w wr) (fun wr => n - wr.iterPos w.heap.size)
  case atStart => exact ⟨0, n, World.iter_heap w _ 0, rfl, by omega, by omega, (Below.refl _ _).alloc (Nat.le_refl _) _⟩
  case round =>
    obtain ⟨pos, fuel, hit, hpre, hfu, hpn, hB⟩ := hrel
    by_cases hlt : pos < n
    · have hnx : ∀ ty, (Instr.next (.pointer (some ⟨w.heap.size, 0, none⟩)) true ty).run Tryz.prog wr = _ := fun ty => Lib.run_next_any_at wr w.heap.size (Rn.arr f n) pos ty hit (by rw [hsz]; exact hlt)
      rw [Rn.arr_decode f n pos hf hlt] at hnx
      obtain ⟨q, rfl⟩ : ∃ q, fuel = q + 1 := ⟨fuel - 1, by omega⟩
      rw [Lx.leadF_step _ _ _ _ _ hlt] at hpre
      obtain ⟨hd1, hd2, hd3⟩ := Rn.dec_pos (Rn.off f pos) (n - pos) (fun _ => hf _) (by omega)
      have hit2 := Lib.iterAt_heap wr w.heap.size (Rn.arr f n) pos (pos + (Rn.dec (Rn.off f pos) (n - pos)).2) hit
      have hB2 := Lib.below_iterAt hB (Nat.le_refl _) (Rn.arr f n) (pos + (Rn.dec (Rn.off f pos) (n - pos)).2)
      have cc := cI (Rn.dec (Rn.off f pos) (n - pos)).1 _ hB2
      have hi1 : w.heap.size < (wr.iterAt w.heap.size (Rn.arr f n) (pos + (Rn.dec (Rn.off f pos) (n - pos)).2)).heap.size := by
        obtain ⟨hh, _⟩ := Array.getElem?_eq_some_iff.1 hit2
        exact hh
      clear cI
      generalize (Rn.dec (Rn.off f pos) (n - pos)).1 = r at *
      generalize (Rn.dec (Rn.off f pos) (n - pos)).2 = d at *
      cases his : Ch.isT Ch.tab c r
      · rw [his] at cc hpre
        simp only [Bool.false_eq_true, if_false] at hpre
        have HP := hide' hpre
        clear hpre his
        go_wp2_with fail
        refine cc.mono ?_
        rintro e w1 ⟨rfl, hb1⟩
        go_wp2_with fail
        go_ret
        exact ⟨by rw [← HP.out]; go_num, hB2.trans (hb1.mono (by omega))⟩
      · rw [his] at cc hpre
        simp only [if_true] at hpre
        have HP := hide' hpre
        clear hpre his
        go_wp2_with fail
        refine cc.mono ?_
        rintro e w1 ⟨rfl, hb1⟩
        have hit3 := (hb1.block w.heap.size hi1).trans hit2
        go_wp2_with fail
        go_roundw
        case rel => exact ⟨pos + d, q, hit3, HP.out, by omega, by omega, hB2.trans (hb1.mono (by omega))⟩
        case measure => simp only [World.iterPos, hit3, hit]; omega
    · have hnx : ∀ ty, (Instr.next (.pointer (some ⟨w.heap.size, 0, none⟩)) true ty).run Tryz.prog wr = _ := fun ty => Lib.run_next_end_at wr w.heap.size (Rn.arr f n) pos ty hit (by rw [hsz]; exact hlt)
      rw [Lx.leadF_end _ _ _ _ _ hlt] at hpre
      have HP := hide' hpre
      clear hpre cI
      go_wp2_with fail
      go_ret
      exact ⟨by rw [← HP.out]; go_num, hB⟩

namespace Lx
theorem arr_get? (g : Nat → Nat) (m : Nat) (hg : ∀ j, g j < 256) (k : Nat) (c : Nat) (hc : c < 256) : (Rn.arr g m).data.toList[k]? = some c.toUInt8 ↔ k < m ∧ g k = c := by
  simp only [Rn.arr, Array.toList_ofFn, List.getElem?_ofFn]
  by_cases h : k < m
  · have := hg k
    simp only [h, dif_pos, Option.some.injEq, true_and]
    constructor
    · intro e
      have := congrArg UInt8.toNat e
      simp at this
      omega
    · intro e; rw [e]
  · simp [h]
/-- the first such byte, as the library finds it -/
theorem index_eq (g : Nat → Nat) (m : Nat) (hg : ∀ j, g j < 256) (c : Nat) (hc : c < 256) :
    Lib.indexByte (Rn.arr g m).data.toList c.toUInt8 = if idx g m c < m then ((idx g m c : Nat) : Int) else -1 := by
  obtain ⟨a2, a3, a4⟩ := idx_spec g m c
  have hge := Lib.indexByte_ge (Rn.arr g m).data.toList c.toUInt8
  obtain ⟨x, hx⟩ : ∃ x, Lib.indexByte (Rn.arr g m).data.toList c.toUInt8 = x := ⟨_, rfl⟩
  rw [hx] at hge ⊢
  by_cases h : x = -1
  · rw [h] at hx
    have k := Lib.indexByte_none hx
    rw [if_neg, h]
    intro hl
    exact k (idx g m c) ((arr_get? g m hg _ c hc).2 ⟨hl, a4 hl⟩)
  · obtain ⟨o, rfl⟩ : ∃ o : Nat, x = o := ⟨x.toNat, by omega⟩
    obtain ⟨k1, k2⟩ := Lib.indexByte_some hx
    obtain ⟨q1, q2⟩ := (arr_get? g m hg o c hc).1 k1
    have : idx g m c = o := idx_of (fun j hj e => k2 j hj ((arr_get? g m hg j c hc).2 ⟨by omega, e⟩)) (by omega) (fun _ => q2)
    rw [this, if_pos q1]
end Lx

theorem arr_front (g : Nat → Nat) (m k : Nat) (h : k ≤ m) : (Rn.arr g m).extract 0 k = Rn.arr g k := by
  apply ByteArray.ext
  apply Array.ext
  · simp [Rn.arr, ByteArray.data_extract]; omega
  · intro i h1 h2
    simp [Rn.arr, ByteArray.data_extract]
theorem arr_rest (g : Nat → Nat) (m k : Nat) : (Rn.arr g m).extract k m = Rn.arr (Rn.off g k) (m - k) := by
  apply ByteArray.ext
  apply Array.ext
  · simp [Rn.arr, ByteArray.data_extract]
  · intro i h1 h2
    simp [Rn.arr, ByteArray.data_extract, Rn.off]
end Go.Proofs.YtcnagbkdckipnaaGreatDoor
/-
  THE WALK over utf8.word at a slice of bytes: eight bytes as one number; where it has no high bits they are all below 128.
-/
namespace Go.Proofs.YtcnagbkdckipnaaGreatDoor
open Go.RowKit Go.Lib
namespace Lx
def w8 (f : Nat → Nat) : Nat := f 0 + f 1 * 256 + f 2 * 65536 + f 3 * 16777216 + f 4 * 4294967296 + f 5 * 1099511627776 + f 6 * 281474976710656 + f 7 * 72057594037927936
theorem w8_le (f : Nat → Nat) (hf : ∀ j, f j < 256) : w8 f = Lib.leNat [(Rn.arr f 8).get! 0, (Rn.arr f 8).get! 1, (Rn.arr f 8).get! 2, (Rn.arr f 8).get! 3, (Rn.arr f 8).get! 4, (Rn.arr f 8).get! 5, (Rn.arr f 8).get! 6, (Rn.arr f 8).get! 7] := by
  simp only [Lib.leNat, Rn.arr_get f 8 0 (by omega) (hf 0), Rn.arr_get f 8 1 (by omega) (hf 1), Rn.arr_get f 8 2 (by omega) (hf 2), Rn.arr_get f 8 3 (by omega) (hf 3), Rn.arr_get f 8 4 (by omega) (hf 4), Rn.arr_get f 8 5 (by omega) (hf 5), Rn.arr_get f 8 6 (by omega) (hf 6), Rn.arr_get f 8 7 (by omega) (hf 7)]
  unfold w8
  omega
theorem w8_lt (f : Nat → Nat) (hf : ∀ j, f j < 256) : w8 f < 18446744073709551616 := by
  rw [w8_le f hf]
  exact Lib.word_lt _
/-- no high bits: all eight are below 128 -/
theorem w8_asc (f : Nat → Nat) (hf : ∀ j, f j < 256) (h : w8 f &&& 9259542123273814144 = 0) : ∀ j, j < 8 → f j < 128 := by
  rw [w8_le f hf] at h
  have hz : 8 ≤ (Rn.arr f 8).size := by rw [Rn.arr_size]; omega
  have ha := (Lib.word_asc (Rn.arr f 8) hz).1 h
  intro j hj
  have hb := ha (f j).toUInt8 (by
    rw [List.mem_iff_getElem?]
    refine ⟨j, ?_⟩
    rw [List.getElem?_take, if_pos hj]
    exact (arr_get? f 8 hf j (f j) (hf j)).2 ⟨hj, rfl⟩)
  have := hf j
  simp at hb
  omega
end Lx
set_option maxHeartbeats 8000000 in
set_option maxRecDepth 100000 in
theorem word_any (f : Nat → Nat) (b o m : Nat) (w : World) (hf : ∀ j, f j < 256) (h8 : 8 ≤ m) (hp : Bytes w b o m f) :
    Calls Tryz.prog 66 #[.slice (some ⟨b, o, none⟩) m m] w fun e w' => e = .returned (.int .u64 (Lx.w8 f)) ∧ ∃ q, w' = w.drewN q := by
  unfold Lx.w8
  have c0 : w.cell? ⟨b, o, none⟩ = some (.int .u8 (f 0)) := by simpa using hp 0 (by omega)
  have c1 := hp 1 (by omega)
  have c2 := hp 2 (by omega)
  have c3 := hp 3 (by omega)
  have c4 := hp 4 (by omega)
  have c5 := hp 5 (by omega)
  have c6 := hp 6 (by omega)
  have c7 := hp 7 (by omega)
  have l0 := hf 0
  have l1 := hf 1
  have l2 := hf 2
  have l3 := hf 3
  have l4 := hf 4
  have l5 := hf 5
  have l6 := hf 6
  have l7 := hf 7
  have i0 : (0 : Int) < m := by omega
  have i1 : (1 : Int) < m := by omega
  have i2 : (2 : Int) < m := by omega
  have i3 : (3 : Int) < m := by omega
  have i4 : (4 : Int) < m := by omega
  have i5 : (5 : Int) < m := by omega
  have i6 : (6 : Int) < m := by omega
  have i7 : (7 : Int) < m := by omega
  clear hp hf h8
  generalize f 0 = x0 at *
  generalize f 1 = x1 at *
  generalize f 2 = x2 at *
  generalize f 3 = x3 at *
  generalize f 4 = x4 at *
  generalize f 5 = x5 at *
  generalize f 6 = x6 at *
  generalize f 7 = x7 at *
  have hv : ((x0 + x1 * 256 + x2 * 65536 + x3 * 16777216 + x4 * 4294967296 + x5 * 1099511627776 + x6 * 281474976710656 + x7 * 72057594037927936 : Nat) : Int) = (x0 : Int) + (x1 : Int) * 256 + (x2 : Int) * 65536 + (x3 : Int) * 16777216 + (x4 : Int) * 4294967296 + (x5 : Int) * 1099511627776 + (x6 : Int) * 281474976710656 + (x7 : Int) * 72057594037927936 := by omega
  rw [hv]
  clear hv
  go_enter Tryz.func66, Tryz.ntmps66
  go_wp2
  go_quiet (fail)
  go_wp2
  go_ret
  refine ⟨?_, _, rfl⟩
  simp (disch := omega) only [u64_or8, u64_or16, u64_or24, u64_or32, u64_or40, u64_or48, u64_or56]
  rfl
end Go.Proofs.YtcnagbkdckipnaaGreatDoor
