/-
  WALKS over runes.endsLine and runes.At: a place by its bytes.
-/
import Derived.Test.YtoccedbnnafjcaaDoorRnBeg
import Derived.Laws.RangeAny
import Derived.Laws.IdiomStrings
namespace Go.Proofs.YtoccedbnnafjcaaDoor
open Go.RowKit Go.Lib

namespace Rn
/-- does a line end behind the character r at p? -/
def lineEnd (f : Nat → Nat) (n p r : Nat) : Bool := if r = 13 then decide (p + 1 = n ∨ f (p + 1) ≠ 10) else decide (r = 10)
/-- rune, line, column behind the characters from p on up to a, by at most so many -/
def plcFrom (f : Nat → Nat) (n a : Nat) : Nat → Nat → Nat → Nat → Nat → Nat × Nat × Nat
  | 0, _, rn, ln, co => (rn, ln, co)
  | fuel + 1, p, rn, ln, co => if a ≤ p then (rn, ln, co) else
      if lineEnd f n p (dec (off f p) (a - p)).1 then plcFrom f n a fuel (p + (dec (off f p) (a - p)).2) (rn + 1) (ln + 1) 1
      else plcFrom f n a fuel (p + (dec (off f p) (a - p)).2) (rn + 1) ln (co + 1)
def plc (f : Nat → Nat) (n a : Nat) : Nat × Nat × Nat := plcFrom f n a a 0 0 1 1
theorem plcFrom_end (f : Nat → Nat) (n a fuel p rn ln co : Nat) (h : a ≤ p) : plcFrom f n a fuel p rn ln co = (rn, ln, co) := by
  cases fuel with
  | zero => rfl
  | succ m => unfold plcFrom; rw [if_pos h]
theorem dec_pos (f : Nat → Nat) (n : Nat) (hf : ∀ j, f j < 256) (hn : 0 < n) : 0 < (dec f n).2 ∧ (dec f n).2 ≤ n ∧ (dec f n).2 ≤ 4 := by
  rw [dec_whole f n hf hn]
  have a1 := fk_le f n
  have a2 := fs_le f n
  split
  · next h =>
    simp only [whole, decide_eq_true_eq] at h
    exact ⟨h.1, by show fs f n ≤ n; omega, a2⟩
  · exact ⟨by simp, by show 1 ≤ n; omega, by simp⟩
theorem dec_lt (f : Nat → Nat) (n : Nat) (hf : ∀ j, f j < 256) (hn : 0 < n) : (dec f n).1 < 2097152 := by
  rw [dec_whole f n hf hn]
  split
  · exact fv_le f hf
  · show 65533 < 2097152; omega
/-- the model's decoder at a place of such bytes -/
theorem arr_decode (f : Nat → Nat) (n p : Nat) (hf : ∀ j, f j < 256) (hp : p < n) : Utf8.decode (arr f n) p = dec (off f p) (n - p) := by
  rw [decode_at, arr_size, dec]
  exact decodeN_congr (fun _ => arr_get f n p hp (hf _)) (fun h => arr_get f n (p + 1) (by omega) (hf _)) (fun h => arr_get f n (p + 2) (by omega) (hf _)) (fun h => arr_get f n (p + 3) (by omega) (hf _)) (by omega)
end Rn

theorem ret_bool {a b : Bool} (h : a = b) : Ending.returned (.bool a) = .returned (.bool b) := by rw [h]

set_option maxHeartbeats 1000000 in
theorem endsLine_any (f : Nat → Nat) (n b off cap i : Nat) (r : Nat) (w : World) (hi : i < n) (hn : n ≤ 9223372036854775807) (hp : Bytes w b off n f) :
    Calls Tryd.prog 40 #[.slice (some ⟨b, off, none⟩) n cap, .int .i64 i, .int .i32 r] w fun e w' => e = .returned (.bool (Rn.lineEnd f n i r)) ∧ w' = w := by
  unfold Rn.lineEnd
  by_cases hr : r = 13
  · subst hr
    by_cases h1 : i + 1 = n
    · have h2 : ((i : Int) + 1 == n) = true := by simp; omega
      clear hp
      go_enter Tryd.func40, Tryd.ntmps40
      go_wp2
      go_ret
      exact ⟨ret_bool (by simp), rfl⟩
    · have h2 : ((i : Int) + 1 == n) = false := by simp; omega
      have c1 := hp (i + 1) (by omega)
      have hl : (i : Int) + 1 < n := by omega
      clear hp
      go_enter Tryd.func40, Tryd.ntmps40
      go_wp2
      go_ret
      refine ⟨ret_bool ?_, rfl⟩
      rw [Bool.eq_iff_iff]
      simp
      omega
  · have h2 : ((r : Int) == 13) = false := by simp; omega
    clear hp
    go_enter Tryd.func40, Tryd.ntmps40
    go_wp2
    go_ret
    refine ⟨ret_bool ?_, rfl⟩
    rw [Bool.eq_iff_iff]
    simp
    omega

/-- 'string(b)' of bytes that are told by their place -/
theorem bytes_string (W : World) (b off n cap : Nat) (f : Nat → Nat) (hf : ∀ j, f j < 256) (hp : Bytes W b off n f) :
    (convert 22 9 (.slice (some ⟨b, off, none⟩) n cap)).run Tryd.prog W = .ok (.string (Rn.arr f n)) W := by
  have h := run_convert_bytes_back (P := Tryd.prog) W 22 9 5 ⟨b, off, none⟩ cap (Rn.arr f n).data.toList Tryd.underlying22 Tryd.underlying5 Tryd.underlying9 (fun j hj => by
    have hj' : j < n := by simpa [Rn.arr] using hj
    rw [show (Addr.add ⟨b, off, none⟩ j) = ⟨b, off + j, none⟩ from by simp [Addr.add], hp j hj']
    have e : ((Rn.arr f n).data.toList[j]).toNat = f j := by
      simp [Rn.arr]
      have := hf j
      omega
    rw [e])
  have e1 : (Rn.arr f n).data.toList.length = n := by simp [Rn.arr]
  rw [e1] at h
  simpa using h

set_option maxHeartbeats 1000000 in
/-- the place is outside -/
theorem at_out (v : Option Addr) (n cap : Nat) (k : Int) (w : World) (h : k < 0 ∨ (n : Int) < k) :
    Calls Tryd.prog 16 #[.slice v n cap, .int .i64 k] w fun e w' => e = .returned (.tuple #[.agg #[.int .i64 0, .int .i64 0, .int .i64 0, .int .i64 0], .int .i64 2]) ∧ Below w.heap.size w w' := by
  rcases h with h | h
  · go_enter Tryd.func16, Tryd.ntmps16
    go_wp2
    exact bodyPost_ret (v := .tuple #[.agg #[.int .i64 0, .int .i64 0, .int .i64 0, .int .i64 0], .int .i64 2]) (by simp [results, Tryd.results16, go_sem]) rfl ⟨rfl, (Below.refl _ _).alloc (Nat.le_refl _) _⟩
  · have h0 : ¬ k < 0 := by omega
    go_enter Tryd.func16, Tryd.ntmps16
    go_wp2
    exact bodyPost_ret (v := .tuple #[.agg #[.int .i64 0, .int .i64 0, .int .i64 0, .int .i64 0], .int .i64 2]) (by simp [results, Tryd.results16, go_sem]) rfl ⟨rfl, (Below.refl _ _).alloc (Nat.le_refl _) _⟩

/-- 'next' of an iterator that is the last block -/
theorem next_alloc (W : World) (k : Nat) (hk : W.heap.size = k) (f : Nat → Nat) (a pos : Nat) (hf : ∀ j, f j < 256) (hlt : pos < a) (ty : TypeId) :
    (Instr.next (.pointer (some ⟨k, 0, none⟩)) true ty).run Tryd.prog (W.alloc (.stringIter (Rn.arr f a) pos)) =
      .ok (.tuple #[.bool true, .int .i64 pos, .int .i32 (Rn.dec (Rn.off f pos) (a - pos)).1]) (W.alloc (.stringIter (Rn.arr f a) (pos + (Rn.dec (Rn.off f pos) (a - pos)).2))) := by
  subst hk
  have := run_next_any (P := Tryd.prog) W (Rn.arr f a) pos ty (by rw [Rn.arr_size]; exact hlt)
  rw [Rn.arr_decode f a pos hf hlt] at this
  exact this
theorem next_alloc_end (W : World) (k : Nat) (hk : W.heap.size = k) (f : Nat → Nat) (a pos : Nat) (hlt : ¬ pos < a) (ty : TypeId) :
    (Instr.next (.pointer (some ⟨k, 0, none⟩)) true ty).run Tryd.prog (W.alloc (.stringIter (Rn.arr f a) pos)) = .ok (.tuple #[.bool false]) (W.alloc (.stringIter (Rn.arr f a) pos)) := by
  subst hk
  exact run_next_end (P := Tryd.prog) W (Rn.arr f a) pos ty (by rw [Rn.arr_size]; exact hlt)
theorem iterPos_alloc (W : World) (k : Nat) (s : ByteArray) (p : Nat) (hk : W.heap.size = k) : (W.alloc (.stringIter s p)).iterPos k = p := by
  subst hk
  exact World.iterPos_iter W s p
/-- At's world in its loop -/
def atW (w : World) (s : ByteArray) (pos a rn ln co : Nat) : World :=
  ((w.alloc (.cells #[.int .i64 0, .int .i64 0, .int .i64 0, .int .i64 0] 30)).alloc (.cells #[.int .i64 a, .int .i64 rn, .int .i64 ln, .int .i64 co] 30)).alloc (.stringIter s pos)

set_option maxHeartbeats 2000000 in
/-- At of a place of the bytes -/
theorem at_in (f : Nat → Nat) (n b off cap a : Nat) (w : World) (hf : ∀ j, f j < 256) (ha : a ≤ n) (hc : n ≤ cap) (_hm : cap ≤ maxLen) (hbig : n ≤ 4611686018427387904)
    (hp : Bytes w b off n f) :
    Calls Tryd.prog 16 #[.slice (some ⟨b, off, none⟩) n cap, .int .i64 a] w fun e w' =>
      e = .returned (.tuple #[.agg #[.int .i64 a, .int .i64 (Rn.plc f n a).1, .int .i64 (Rn.plc f n a).2.1, .int .i64 (Rn.plc f n a).2.2], .int .i64 0]) ∧ Below w.heap.size w w' := by
  have hm : cap ≤ 9223372036854775807 := by unfold maxLen at _hm; omega
  have h0 : ¬ (a : Int) < 0 := by omega
  have h1 : ¬ (n : Int) < (a : Int) := by omega
  have hcv : ∀ o1 o2, (convert 22 9 (.slice (some ⟨b, off, none⟩) a cap)).run Tryd.prog ((w.alloc o1).alloc o2) = .ok (.string (Rn.arr f a)) ((w.alloc o1).alloc o2) := fun o1 o2 =>
    bytes_string _ b off a cap f hf (((hp.le ha).below ((Below.refl w.heap.size w).alloc (Nat.le_refl _) o1) (Nat.le_refl _)).below ((Below.refl (w.alloc o1).heap.size (w.alloc o1)).alloc (Nat.le_refl _) o2) (Nat.le_refl _))
  go_enter Tryd.func16, Tryd.ntmps16
  go_wp2
  go_loopw [] (fun wr => ∃ (pos fuel rn ln co : Nat), wr = atW w (Rn.arr f a) pos a rn ln co ∧ pos ≤ a ∧ a ≤ pos + fuel ∧ rn ≤ pos ∧ ln ≤ pos + 1 ∧ co ≤ pos + 1 ∧ Rn.plcFrom f n a fuel pos rn ln co = Rn.plc f n a) (fun wr => a - wr.iterPos (w.heap.size + 2))
  case atStart => exact ⟨0, a, 0, 1, 1, rfl, by omega, by omega, by omega, by omega, by omega, rfl⟩
  case round =>
    obtain ⟨pos, fuel, rn, ln, co, rfl, hpa, hfu, hrn, hln, hco, hpl⟩ := hrel
    have hsz : (Rn.arr f a).size = a := Rn.arr_size f a
    by_cases hlt : pos < a
    · obtain ⟨m, rfl⟩ : ∃ m, fuel = m + 1 := ⟨fuel - 1, by omega⟩
      have hg : ∀ j, Rn.off f pos j < 256 := fun j => hf _
      obtain ⟨hd1, hd2, hd3⟩ := Rn.dec_pos (Rn.off f pos) (a - pos) hg (by omega)
      have hd4 := Rn.dec_lt (Rn.off f pos) (a - pos) hg (by omega)
      have hnx := fun W hk ty => next_alloc W (w.heap.size + 1 + 1) hk f a pos hf hlt ty
      have cE : ∀ o1 o2 o3, _ := fun o1 o2 o3 => endsLine_any f n b off cap pos (Rn.dec (Rn.off f pos) (a - pos)).1 (((w.alloc o1).alloc o2).alloc o3) (by omega) (by omega)
        (((hp.below ((Below.refl w.heap.size w).alloc (Nat.le_refl _) o1) (Nat.le_refl _)).below ((Below.refl (w.alloc o1).heap.size (w.alloc o1)).alloc (Nat.le_refl _) o2) (Nat.le_refl _)).below ((Below.refl ((w.alloc o1).alloc o2).heap.size _).alloc (Nat.le_refl _) o3) (Nat.le_refl _))
      unfold Rn.plcFrom at hpl
      rw [if_neg (by omega)] at hpl
      unfold atW
      clear hcv hp hg
      generalize (Rn.dec (Rn.off f pos) (a - pos)).1 = r at *
      generalize (Rn.dec (Rn.off f pos) (a - pos)).2 = d at *
      cases hle : Rn.lineEnd f n pos r
      · rw [hle] at cE hpl
        have HP : Hid (_ = _) := hpl
        clear hpl hle
        go_wp2_with fail
        refine (cE _ _ _).mono ?_
        rintro e w1 ⟨rfl, rfl⟩
        go_wp2_with fail
        go_roundw
        case rel => exact ⟨pos + d, m, rn + 1, ln, co + 1, by go_num, by omega, by omega, by omega, by omega, by omega, HP.out⟩
        case measure => rw [iterPos_alloc _ _ _ _ (by simp), iterPos_alloc _ _ _ _ (by simp)]; omega
      · rw [hle] at cE hpl
        have HP : Hid (_ = _) := hpl
        clear hpl hle
        go_wp2_with fail
        refine (cE _ _ _).mono ?_
        rintro e w1 ⟨rfl, rfl⟩
        go_wp2_with fail
        go_roundw
        case rel => exact ⟨pos + d, m, rn + 1, ln + 1, 1, by go_num, by omega, by omega, by omega, by omega, by omega, HP.out⟩
        case measure => rw [iterPos_alloc _ _ _ _ (by simp), iterPos_alloc _ _ _ _ (by simp)]; omega
    · obtain rfl : pos = a := by omega
      rw [Rn.plcFrom_end _ _ _ _ _ _ _ _ (Nat.le_refl _)] at hpl
      have HP : Hid (_ = _) := hpl
      have hnx := fun W hk ty => next_alloc_end W (w.heap.size + 1 + 1) hk f pos pos hlt ty
      clear hpl hcv hp
      unfold atW
      go_wp2_with fail
      refine bodyPost_ret (v := .tuple #[.agg #[.int .i64 pos, .int .i64 rn, .int .i64 ln, .int .i64 co], .int .i64 0]) (by simp [results, Tryd.results16, go_sem]) rfl ⟨by rw [← HP.out], ?_⟩
      exact (((Below.refl w.heap.size w).alloc (Nat.le_refl _) _).alloc (by simp) _).alloc (by simp; omega) _
end Go.Proofs.YtoccedbnnafjcaaDoor
