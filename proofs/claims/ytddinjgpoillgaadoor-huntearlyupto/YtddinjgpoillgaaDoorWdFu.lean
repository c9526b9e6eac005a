/-
  WALKS over words.Length, words.next, words.firstUnlike, cmp.Compare, words.units, words.Compare, words.CompareUnits, words.Begins.
-/
import Derived.Test.YtddinjgpoillgaaDoorWdMath
namespace Go.Proofs.YtddinjgpoillgaaDoor
open Go.RowKit Go.Lib

theorem wd_empty (f : Nat → Nat) (n : Nat) : (Rn.arr f n).toList.isEmpty = decide (n = 0) := by
  rw [ByteArray.toList_eq]
  rw [Bool.eq_iff_iff]
  simp [Rn.arr]

set_option maxRecDepth 100000 in
set_option maxHeartbeats 1000000 in
theorem length_any (f : Nat → Nat) (n : Nat) (w : World) (hf : ∀ j, f j < 256) (hn : n ≤ 4611686018427387904) :
    Calls Tryd.prog 9 #[.string (Rn.arr f n)] w fun e w' => e = .returned (.int .i64 (Wd.R f n 0).length) ∧ Below w.heap.size w w' := by
  have hsz := Rn.arr_size f n
  have hl := Wd.R_length f n 0 hf
  go_enter Tryd.func9, Tryd.ntmps9
  go_wp2
  go_loopw [3] (fun a wr => ∃ (pos k : Nat), a = .int .i64 k ∧ wr.heap[w.heap.size]? = some (.stringIter (Rn.arr f n) pos) ∧ k + (Wd.R f n pos).length = (Wd.R f n 0).length ∧ Below w.heap.size w wr)
    (fun _ wr => n - wr.iterPos w.heap.size)
  case atStart => exact ⟨0, 0, rfl, World.iter_heap w _ 0, by omega, (Below.refl _ _).alloc (Nat.le_refl _) _⟩
  case round =>
    obtain ⟨pos, k, rfl, hit, hk, hB⟩ := hrel
    by_cases hlt : pos < n
    · have hnx : ∀ ty, (Instr.next (.pointer (some ⟨w.heap.size, 0, none⟩)) true ty).run Tryd.prog wr = _ := fun ty => Lib.run_next_any_at wr w.heap.size (Rn.arr f n) pos ty hit (by rw [hsz]; exact hlt)
      rw [Rn.arr_decode f n pos hf hlt] at hnx
      rw [Wd.R_step f n pos hf hlt, List.length_cons] at hk
      obtain ⟨hd1, hd2, hd3⟩ := Rn.dec_pos (Rn.off f pos) (n - pos) (fun _ => hf _) (by omega)
      have hit2 := Lib.iterAt_heap wr w.heap.size (Rn.arr f n) pos (pos + (Rn.dec (Rn.off f pos) (n - pos)).2) hit
      have hB2 := Lib.below_iterAt hB (Nat.le_refl _) (Rn.arr f n) (pos + (Rn.dec (Rn.off f pos) (n - pos)).2)
      generalize (Rn.dec (Rn.off f pos) (n - pos)).1 = r at *
      generalize (Rn.dec (Rn.off f pos) (n - pos)).2 = d at *
      have HK := hide' hk
      have hk2 : k ≤ 4611686018427387904 := by omega
      clear hk hl
      go_wp2
      go_roundw
      case rel => exact ⟨pos + d, k + 1, by go_num, hit2, by have := HK.out; omega, hB2⟩
      case measure => simp only [World.iterPos, hit2, hit]; omega
    · have hnx : ∀ ty, (Instr.next (.pointer (some ⟨w.heap.size, 0, none⟩)) true ty).run Tryd.prog wr = _ := fun ty => Lib.run_next_end_at wr w.heap.size (Rn.arr f n) pos ty hit (by rw [hsz]; exact hlt)
      rw [Wd.R_end f n pos hlt] at hk
      have HK := hide' hk
      clear hk
      go_wp2
      go_ret
      exact ⟨ret_int (by have := HK.out; simp at this; omega), hB⟩

set_option maxHeartbeats 1000000 in
theorem wNext_nil (f : Nat → Nat) (w : World) :
    Calls Tryd.prog 32 #[.string (Rn.arr f 0)] w fun e w' => e = .returned (.tuple #[.int .i32 (-1), .int .i64 0]) ∧ w' = w := by
  have hem := wd_empty f 0
  go_enter Tryd.func32, Tryd.ntmps32
  go_wp2
  exact bodyPost_ret (v := .tuple #[.int .i32 (-1), .int .i64 0]) (by simp [results, Tryd.results32, go_sem]) rfl ⟨rfl, rfl⟩
set_option maxHeartbeats 1000000 in
theorem wNext_pos (f : Nat → Nat) (n : Nat) (w : World) (hT : Lib.Utf8Tabs 0 1 w) (hf : ∀ j, f j < 256) (hn : 0 < n) :
    Calls Tryd.prog 32 #[.string (Rn.arr f n)] w fun e w' => e = .returned (.tuple #[.int .i32 (Rn.dec f n).1, .int .i64 (Rn.dec f n).2]) ∧ Below w.heap.size w w' := by
  have hem := wd_empty f n
  rw [show decide (n = 0) = false from by simp; omega] at hem
  have cD := Tryd.utf8_DecodeRuneInString (Rn.arr f n) w hT
  rw [Rn.arr_dec f n hf hn] at cD
  go_enter Tryd.func32, Tryd.ntmps32
  go_wp2_with fail
  refine cD.mono ?_
  rintro e w1 ⟨rfl, hb1⟩
  go_wp2
  exact bodyPost_ret (v := .tuple #[.int .i32 (Rn.dec f n).1, .int .i64 (Rn.dec f n).2]) (by simp [results, Tryd.results32, go_sem]) rfl ⟨rfl, hb1⟩

set_option maxRecDepth 100000 in
set_option maxHeartbeats 2000000 in
theorem firstUnlike_any (f : Nat → Nat) (n : Nat) (g : Nat → Nat) (m : Nat) (w : World) (hf : ∀ j, f j < 256) (hg : ∀ j, g j < 256)
    (hT : Lib.Utf8Tabs 0 1 w) :
    Calls Tryd.prog 20 #[.string (Rn.arr f n), .string (Rn.arr g m)] w fun e w' =>
      e = .returned (.tuple #[.int .i32 (Wd.fu (Wd.R f n 0) (Wd.R g m 0)).1, .int .i32 (Wd.fu (Wd.R f n 0) (Wd.R g m 0)).2]) ∧ Below w.heap.size w w' := by
  have hsz := Rn.arr_size f n
  have cP : ∀ (h : Nat → Nat) (l : Nat) w1, Below w.heap.size w w1 → (∀ j, h j < 256) → 0 < l → _ := fun h l w1 hb hh hl => wNext_pos h l w1 (tabs_below hT hb (Nat.le_refl _)) hh hl
  clear hT
  go_enter Tryd.func20, Tryd.ntmps20
  go_wp2
  go_loopw [1] (fun a wr => ∃ (pos q : Nat), a = .string (Rn.arr (Rn.off g q) (m - q)) ∧ q ≤ m ∧ wr.heap[w.heap.size]? = some (.stringIter (Rn.arr f n) pos) ∧ Wd.fu (Wd.R f n 0) (Wd.R g m 0) = Wd.fu (Wd.R f n pos) (Wd.R g m q) ∧ Below w.heap.size w wr)
    (fun _ wr => n - wr.iterPos w.heap.size)
  case atStart => exact ⟨0, 0, by rw [Rn.off_zero]; rfl, Nat.zero_le _, World.iter_heap w _ 0, rfl, (Below.refl _ _).alloc (Nat.le_refl _) _⟩
  case round =>
    obtain ⟨pos, q, rfl, hq, hit, hk, hB⟩ := hrel
    have hszq := Rn.arr_size (Rn.off g q) (m - q)
    by_cases hlt : pos < n
    · have hnx : ∀ ty, (Instr.next (.pointer (some ⟨w.heap.size, 0, none⟩)) true ty).run Tryd.prog wr = _ := fun ty => Lib.run_next_any_at wr w.heap.size (Rn.arr f n) pos ty hit (by rw [hsz]; exact hlt)
      rw [Rn.arr_decode f n pos hf hlt] at hnx
      rw [Wd.R_step f n pos hf hlt] at hk
      obtain ⟨hd1, hd2, hd3⟩ := Rn.dec_pos (Rn.off f pos) (n - pos) (fun _ => hf _) (by omega)
      have hit2 := Lib.iterAt_heap wr w.heap.size (Rn.arr f n) pos (pos + (Rn.dec (Rn.off f pos) (n - pos)).2) hit
      have hB2 := Lib.below_iterAt hB (Nat.le_refl _) (Rn.arr f n) (pos + (Rn.dec (Rn.off f pos) (n - pos)).2)
      have hi1 : w.heap.size < (wr.iterAt w.heap.size (Rn.arr f n) (pos + (Rn.dec (Rn.off f pos) (n - pos)).2)).heap.size := by
        obtain ⟨hh, _⟩ := Array.getElem?_eq_some_iff.1 hit2
        exact hh
      generalize (Rn.dec (Rn.off f pos) (n - pos)).1 = r at *
      generalize (Rn.dec (Rn.off f pos) (n - pos)).2 = d at *
      by_cases hqm : q < m
      · have c := cP (Rn.off g q) (m - q) _ hB2 (fun _ => hg _) (by omega)
        have hstep := Wd.R_step g m q hg hqm
        obtain ⟨he1, he2, he3⟩ := Rn.dec_pos (Rn.off g q) (m - q) (fun _ => hg _) (by omega)
        generalize (Rn.dec (Rn.off g q) (m - q)).1 = r2 at *
        generalize (Rn.dec (Rn.off g q) (m - q)).2 = d2 at *
        rw [hstep] at hk
        clear hstep cP
        by_cases hr : r = r2
        · subst hr
          rw [Wd.fu_eq] at hk
          have hx : (Rn.arr (Rn.off g q) (m - q)).extract d2 (m - q) = Rn.arr (Rn.off g (q + d2)) (m - (q + d2)) := by
            rw [Rn.arr_extract _ _ _ _ he2 (Nat.le_refl _), Wd.off_off, Nat.sub_sub]
          have HK := hide' hk
          clear hk
          go_wp2_with fail
          refine c.mono ?_
          rintro e w1 ⟨rfl, hb1⟩
          have hit3 := (hb1.block w.heap.size hi1).trans hit2
          have hB3 := hB2.trans (hb1.mono (Nat.le_of_lt hi1))
          go_wp2
          go_roundw
          case rel => exact ⟨pos + d, q + d2, rfl, by omega, hit3, HK.out, hB3⟩
          case measure => simp only [World.iterPos, hit3, hit]; omega
        · rw [Wd.fu_ne r _ _ (by simp only [Wd.hd]; omega)] at hk
          simp only [Wd.hd] at hk
          have hri : ¬ ((r : Int) = (r2 : Int)) := by omega
          have HK := hide' hk
          clear hk
          go_wp2_with fail
          refine c.mono ?_
          rintro e w1 ⟨rfl, hb1⟩
          have hB3 := hB2.trans (hb1.mono (Nat.le_of_lt hi1))
          go_wp2
          refine bodyPost_ret (v := .tuple #[.int .i32 r, .int .i32 r2]) (by simp [results, Tryd.results20, go_sem]) rfl ⟨?_, hB3⟩
          rw [HK.out]
      · have e0 : m - q = 0 := by omega
        rw [Wd.R_end g m q hqm, Wd.fu_ne r _ _ (by simp only [Wd.hd]; omega)] at hk
        simp only [Wd.hd] at hk
        have c := fun w1 => wNext_nil (Rn.off g q) w1
        rw [e0]
        rw [e0] at hszq
        have hri : ¬ ((r : Int) = -1) := by omega
        have HK := hide' hk
        clear hk cP
        go_wp2_with fail
        refine (c _).mono ?_
        rintro e w1 ⟨rfl, rfl⟩
        go_wp2
        refine bodyPost_ret (v := .tuple #[.int .i32 r, .int .i32 (-1)]) (by simp [results, Tryd.results20, go_sem]) rfl ⟨?_, hB2⟩
        rw [HK.out]
    · have hnx : ∀ ty, (Instr.next (.pointer (some ⟨w.heap.size, 0, none⟩)) true ty).run Tryd.prog wr = _ := fun ty => Lib.run_next_end_at wr w.heap.size (Rn.arr f n) pos ty hit (by rw [hsz]; exact hlt)
      rw [Wd.R_end f n pos hlt, Wd.fu_nil] at hk
      by_cases hqm : q < m
      · have c := cP (Rn.off g q) (m - q) _ hB (fun _ => hg _) (by omega)
        rw [Wd.R_step g m q hg hqm] at hk
        simp only [Wd.hd] at hk
        generalize (Rn.dec (Rn.off g q) (m - q)).1 = r2 at *
        generalize (Rn.dec (Rn.off g q) (m - q)).2 = d2 at *
        have HK := hide' hk
        clear hk cP
        go_wp2_with fail
        refine c.mono ?_
        rintro e w1 ⟨rfl, hb1⟩
        have hB3 := hB.trans (hb1.mono hB.size)
        go_wp2
        refine bodyPost_ret (v := .tuple #[.int .i32 (-1), .int .i32 r2]) (by simp [results, Tryd.results20, go_sem]) rfl ⟨?_, hB3⟩
        rw [HK.out]
      · have e0 : m - q = 0 := by omega
        rw [Wd.R_end g m q hqm] at hk
        simp only [Wd.hd] at hk
        have c := fun w1 => wNext_nil (Rn.off g q) w1
        rw [e0]
        rw [e0] at hszq
        have HK := hide' hk
        clear hk cP
        go_wp2_with fail
        refine (c _).mono ?_
        rintro e w1 ⟨rfl, rfl⟩
        go_wp2
        refine bodyPost_ret (v := .tuple #[.int .i32 (-1), .int .i32 (-1)]) (by simp [results, Tryd.results20, go_sem]) rfl ⟨?_, hB⟩
        rw [HK.out]
end Go.Proofs.YtddinjgpoillgaaDoor
