/-
  WALKS over chars.Name and chars.Texts: of any text.
-/
import Derived.Test.YtcmjipgigkalcaaDoorChTab
import Derived.Test.YtcmjipgigkalcaaDoorChShelf
import Derived.Test.YtcmjipgigkalcaaDoorRnAt
namespace Go.Proofs.YtcmjipgigkalcaaDoor
open Go.RowKit Go.Lib

namespace Ch
/-- are the characters from a place on, as Go's range gives them, of the class d (the first one of c)? -/
def allFrom (f : Nat → Nat) (n : Nat) (d : Int) : Nat → Nat → Int → Bool
  | 0, _, _ => true
  | fuel + 1, p, c => if p < n then (isT tab c (Rn.dec (Rn.off f p) (n - p)).1 && allFrom f n d fuel (p + (Rn.dec (Rn.off f p) (n - p)).2) d) else true
theorem allFrom_end (f : Nat → Nat) (n : Nat) (d : Int) (fuel p : Nat) (c : Int) (h : ¬ p < n) : allFrom f n d fuel p c = true := by
  cases fuel with
  | zero => rfl
  | succ m => unfold allFrom; rw [if_neg h]
theorem allFrom_step (f : Nat → Nat) (n : Nat) (d : Int) (fuel p : Nat) (c : Int) (h : p < n) : allFrom f n d (fuel + 1) p c = (isT tab c (Rn.dec (Rn.off f p) (n - p)).1 && allFrom f n d fuel (p + (Rn.dec (Rn.off f p) (n - p)).2) d) := by
  show (if p < n then _ else _) = _
  rw [if_pos h]
/-- are the bytes characters all through? -/
def valid (f : Nat → Nat) (n : Nat) : Bool := validD (Rn.arr f n).data.toList
end Ch

theorem Rn.arr_empty (f : Nat → Nat) (n : Nat) : (Rn.arr f n).toList.isEmpty = decide (n = 0) := by
  rw [ByteArray.toList_eq]
  rw [Bool.eq_iff_iff]
  simp [Rn.arr]

theorem isWhole_any (f : Nat → Nat) (n : Nat) (w : World) (hn : n ≤ 9223372036854775807) (hT : Lib.Utf8Tabs 1 2 w) :
    Calls Tryd.prog 63 #[.string (Rn.arr f n)] w fun e w' => e = .returned (.bool (Ch.valid f n)) ∧ Below w.heap.size w w' := by
  have c := Tryd.utf8_ValidString (Rn.arr f n) w (by rw [Rn.arr_size]; exact hn) hT
  go_enter Tryd.func63, Tryd.ntmps63
  go_wp2_with fail
  refine c.mono ?_
  rintro e w1 ⟨rfl, hb⟩
  go_wp2_with fail
  go_ret
  exact ⟨rfl, hb⟩

set_option maxRecDepth 100000 in
set_option maxHeartbeats 2000000 in
theorem texts_any (f : Nat → Nat) (n : Nat) (w : World) (hf : ∀ j, f j < 256) (hn : n ≤ 9223372036854775807) (hS : Spans w) (hT : Lib.Utf8Tabs 1 2 w) :
    Calls Tryd.prog 50 #[.string (Rn.arr f n)] w fun e w' => e = .returned (.bool (Ch.allFrom f n 0 n 0 0 && Ch.valid f n)) ∧ Below w.heap.size w w' := by
  have hsz := Rn.arr_size f n
  have cW : ∀ w1, Below w.heap.size w w1 → _ := fun w1 hb => isWhole_any f n w1 hn (tabs_below hT hb (Nat.le_refl _))
  have cI : ∀ (r : Int) w1, Below w.heap.size w w1 → _ := fun r w1 hb => is_any 0 r w1 (hS.below hb (Nat.le_refl _))
  clear hS hT
  go_enter Tryd.func50, Tryd.ntmps50
  go_wp2
  go_loopw [] (fun wr => ∃ (pos fuel : Nat), wr.heap[w.heap.size]? = some (.stringIter (Rn.arr f n) pos) ∧ Ch.allFrom f n 0 fuel pos 0 = Ch.allFrom f n 0 n 0 0 ∧ n ≤ pos + fuel ∧ Below w.heap.size w wr) (fun wr => n - wr.iterPos w.heap.size)
  case atStart => exact ⟨0, n, World.iter_heap w _ 0, rfl, by omega, (Below.refl _ _).alloc (Nat.le_refl _) _⟩
  case round =>
    obtain ⟨pos, fuel, hit, hpre, hfu, hB⟩ := hrel
    by_cases hlt : pos < n
    · have hnx : ∀ ty, (Instr.next (.pointer (some ⟨w.heap.size, 0, none⟩)) true ty).run Tryd.prog wr = _ := fun ty => Lib.run_next_any_at wr w.heap.size (Rn.arr f n) pos ty hit (by rw [hsz]; exact hlt)
      rw [Rn.arr_decode f n pos hf hlt] at hnx
      obtain ⟨q, rfl⟩ : ∃ q, fuel = q + 1 := ⟨fuel - 1, by omega⟩
      rw [Ch.allFrom_step _ _ _ _ _ _ hlt] at hpre
      obtain ⟨hd1, hd2, hd3⟩ := Rn.dec_pos (Rn.off f pos) (n - pos) (fun _ => hf _) (by omega)
      have hit2 := Lib.iterAt_heap wr w.heap.size (Rn.arr f n) pos (pos + (Rn.dec (Rn.off f pos) (n - pos)).2) hit
      have hB2 := Lib.below_iterAt hB (Nat.le_refl _) (Rn.arr f n) (pos + (Rn.dec (Rn.off f pos) (n - pos)).2)
      have c := cI (Rn.dec (Rn.off f pos) (n - pos)).1 _ hB2
      have hi1 : w.heap.size < (wr.iterAt w.heap.size (Rn.arr f n) (pos + (Rn.dec (Rn.off f pos) (n - pos)).2)).heap.size := by
        obtain ⟨hh, _⟩ := Array.getElem?_eq_some_iff.1 hit2
        exact hh
      clear cI
      generalize (Rn.dec (Rn.off f pos) (n - pos)).1 = r at *
      generalize (Rn.dec (Rn.off f pos) (n - pos)).2 = d at *
      cases his : Ch.isT Ch.tab 0 r
      · rw [his] at c hpre
        have HP := hide' hpre
        clear hpre his cW
        go_wp2_with fail
        refine c.mono ?_
        rintro e w1 ⟨rfl, hb1⟩
        go_wp2_with fail
        go_ret
        exact ⟨by rw [← HP.out]; rfl, hB2.trans (hb1.mono (by omega))⟩
      · rw [his, Bool.true_and] at hpre
        rw [his] at c
        have HP := hide' hpre
        clear hpre his cW
        go_wp2_with fail
        refine c.mono ?_
        rintro e w1 ⟨rfl, hb1⟩
        have hit3 := (hb1.block w.heap.size hi1).trans hit2
        go_wp2_with fail
        go_roundw
        case rel => exact ⟨pos + d, q, hit3, HP.out, by omega, hB2.trans (hb1.mono (by omega))⟩
        case measure => simp only [World.iterPos, hit3, hit]; omega
    · have hnx : ∀ ty, (Instr.next (.pointer (some ⟨w.heap.size, 0, none⟩)) true ty).run Tryd.prog wr = _ := fun ty => Lib.run_next_end_at wr w.heap.size (Rn.arr f n) pos ty hit (by rw [hsz]; exact hlt)
      rw [Ch.allFrom_end _ _ _ _ _ _ hlt] at hpre
      have HP := hide' hpre
      clear hpre cI
      go_wp2_with fail
      refine (cW wr hB).mono ?_
      rintro e w1 ⟨rfl, hb1⟩
      go_wp2_with fail
      go_ret
      exact ⟨by rw [← HP.out]; rfl, hB.trans (hb1.mono hB.size)⟩

set_option maxRecDepth 100000 in
set_option maxHeartbeats 2000000 in
theorem name_any (f : Nat → Nat) (n : Nat) (w : World) (hf : ∀ j, f j < 256) (hn : n ≤ 9223372036854775807) (hS : Spans w) (hT : Lib.Utf8Tabs 1 2 w) :
    Calls Tryd.prog 48 #[.string (Rn.arr f n)] w fun e w' => e = .returned (.bool (Ch.allFrom f n 3 n 0 2 && (decide (0 < n) && Ch.valid f n))) ∧ Below w.heap.size w w' := by
  have hsz := Rn.arr_size f n
  have cW : ∀ w1, Below w.heap.size w w1 → _ := fun w1 hb => isWhole_any f n w1 hn (tabs_below hT hb (Nat.le_refl _))
  have cI : ∀ (c r : Int) w1, Below w.heap.size w w1 → _ := fun c r w1 hb => is_any c r w1 (hS.below hb (Nat.le_refl _))
  clear hS hT
  go_enter Tryd.func48, Tryd.ntmps48
  go_wp2
  go_loopw [3] (fun i wr => ∃ (pos fuel : Nat) (cl : Int), i = .int .i64 cl ∧ wr.heap[w.heap.size]? = some (.stringIter (Rn.arr f n) pos) ∧ Ch.allFrom f n 3 fuel pos cl = Ch.allFrom f n 3 n 0 2 ∧ n ≤ pos + fuel ∧ Below w.heap.size w wr) (fun _ wr => n - wr.iterPos w.heap.size)
  case atStart => exact ⟨0, n, 2, rfl, World.iter_heap w _ 0, rfl, by omega, (Below.refl _ _).alloc (Nat.le_refl _) _⟩
  case round =>
    obtain ⟨pos, fuel, cl, rfl, hit, hpre, hfu, hB⟩ := hrel
    by_cases hlt : pos < n
    · have hnx : ∀ ty, (Instr.next (.pointer (some ⟨w.heap.size, 0, none⟩)) true ty).run Tryd.prog wr = _ := fun ty => Lib.run_next_any_at wr w.heap.size (Rn.arr f n) pos ty hit (by rw [hsz]; exact hlt)
      rw [Rn.arr_decode f n pos hf hlt] at hnx
      obtain ⟨q, rfl⟩ : ∃ q, fuel = q + 1 := ⟨fuel - 1, by omega⟩
      rw [Ch.allFrom_step _ _ _ _ _ _ hlt] at hpre
      obtain ⟨hd1, hd2, hd3⟩ := Rn.dec_pos (Rn.off f pos) (n - pos) (fun _ => hf _) (by omega)
      have hit2 := Lib.iterAt_heap wr w.heap.size (Rn.arr f n) pos (pos + (Rn.dec (Rn.off f pos) (n - pos)).2) hit
      have hB2 := Lib.below_iterAt hB (Nat.le_refl _) (Rn.arr f n) (pos + (Rn.dec (Rn.off f pos) (n - pos)).2)
      have c := cI cl (Rn.dec (Rn.off f pos) (n - pos)).1 _ hB2
      have hi1 : w.heap.size < (wr.iterAt w.heap.size (Rn.arr f n) (pos + (Rn.dec (Rn.off f pos) (n - pos)).2)).heap.size := by
        obtain ⟨hh, _⟩ := Array.getElem?_eq_some_iff.1 hit2
        exact hh
      clear cI
      generalize (Rn.dec (Rn.off f pos) (n - pos)).1 = r at *
      generalize (Rn.dec (Rn.off f pos) (n - pos)).2 = d at *
      cases his : Ch.isT Ch.tab cl r
      · rw [his] at c hpre
        have HP := hide' hpre
        clear hpre his cW
        go_wp2_with fail
        refine c.mono ?_
        rintro e w1 ⟨rfl, hb1⟩
        go_wp2_with fail
        go_ret
        exact ⟨by rw [← HP.out]; rfl, hB2.trans (hb1.mono (by omega))⟩
      · rw [his, Bool.true_and] at hpre
        rw [his] at c
        have HP := hide' hpre
        clear hpre his cW
        go_wp2_with fail
        refine c.mono ?_
        rintro e w1 ⟨rfl, hb1⟩
        have hit3 := (hb1.block w.heap.size hi1).trans hit2
        go_wp2_with fail
        go_roundw
        case rel => exact ⟨pos + d, q, 3, rfl, hit3, HP.out, by omega, hB2.trans (hb1.mono (by omega))⟩
        case measure => simp only [World.iterPos, hit3, hit]; omega
    · have hnx : ∀ ty, (Instr.next (.pointer (some ⟨w.heap.size, 0, none⟩)) true ty).run Tryd.prog wr = _ := fun ty => Lib.run_next_end_at wr w.heap.size (Rn.arr f n) pos ty hit (by rw [hsz]; exact hlt)
      rw [Ch.allFrom_end _ _ _ _ _ _ hlt] at hpre
      have HP := hide' hpre
      clear hpre cI
      have hem := Rn.arr_empty f n
      by_cases h0 : n = 0
      · rw [decide_eq_true h0] at hem
        have HN := hide' h0
        clear h0 cW
        go_wp2_with fail
        go_ret
        exact ⟨ret_bool (by rw [HN.out]; simp), hB⟩
      · rw [decide_eq_false h0] at hem
        have HN := hide' (show 0 < n by omega)
        clear h0
        go_wp2_with fail
        refine (cW wr hB).mono ?_
        rintro e w1 ⟨rfl, hb1⟩
        go_wp2_with fail
        go_ret
        exact ⟨ret_bool (by rw [← HP.out, decide_eq_true HN.out]; rfl), hB.trans (hb1.mono hB.size)⟩
end Go.Proofs.YtcmjipgigkalcaaDoor
