/-
  WALKS over lexis.leading, and over strings.Cut at one byte.
-/
import Derived.Test.YtoccedbnnafjcaaDoorLxMath
import Derived.Test.YtoccedbnnafjcaaDoorLxShelf
import Derived.Test.YtoccedbnnafjcaaDoorChTab
import Derived.Test.YtoccedbnnafjcaaDoorRnAt
import Derived.Lib.IndexLaws
namespace Go.Proofs.YtoccedbnnafjcaaDoor
open Go.RowKit Go.Lib

set_option maxRecDepth 100000 in
set_option maxHeartbeats 2000000 in
theorem leading_any (f : Nat → Nat) (n : Nat) (c : Int) (w : World) (hf : ∀ j, f j < 256) (hn : n ≤ 9223372036854775807) (hS : Spans w) :
    Calls Tryd.prog 20 #[.string (Rn.arr f n), .int .i64 c] w fun e w' => e = .returned (.int .i64 (Lx.lead f n c)) ∧ Below w.heap.size w w' := by
  have hsz := Rn.arr_size f n
  have cI : ∀ (r : Int) w1, Below w.heap.size w w1 → _ := fun r w1 hb => is_any c r w1 (hS.below hb (Nat.le_refl _))
  clear hS
  go_enter Tryd.func20, Tryd.ntmps20
  go_wp2
  go_loopw [] (fun wr => ∃ (pos fuel : Nat), wr.heap[w.heap.size]? = some (.stringIter (Rn.arr f n) pos) ∧ Lx.leadF f n c fuel pos = Lx.lead f n c ∧ n ≤ pos + fuel ∧ pos ≤ n ∧ Below w.heap.size w wr) (fun wr => n - wr.iterPos w.heap.size)
  case atStart => exact ⟨0, n, World.iter_heap w _ 0, rfl, by omega, by omega, (Below.refl _ _).alloc (Nat.le_refl _) _⟩
  case round =>
    obtain ⟨pos, fuel, hit, hpre, hfu, hpn, hB⟩ := hrel
    by_cases hlt : pos < n
    · have hnx : ∀ ty, (Instr.next (.pointer (some ⟨w.heap.size, 0, none⟩)) true ty).run Tryd.prog wr = _ := fun ty => Lib.run_next_any_at wr w.heap.size (Rn.arr f n) pos ty hit (by rw [hsz]; exact hlt)
      rw [Rn.arr_decode f n pos hf hlt] at hnx
      obtain ⟨q, rfl⟩ : ∃ q, fuel = q + 1 := ⟨fuel - 1, by omega⟩
      rw [Lx.leadF_step _ _ _ _ _ hlt] at hpre
      obtain ⟨hd1, hd2, hd3⟩ := Rn.dec_pos (Rn.off f pos) (n - pos) (fun _ => hf _) (by omega)
      have hit2 := Lib.iterAt_heap wr w.heap.size (Rn.arr f n) pos (pos + (Rn.dec (Rn.off f pos) (n - pos)).2) hit
      have hB2 := Lib.below_iterAt hB (Nat.le_refl _) (Rn.arr f n) (pos + (Rn.dec (Rn.off f pos) (n - pos)).2)
      have cc := cI (Rn.dec (Rn.off f pos) (n - pos)).1 _ hB2
      have hi1 : w.heap.size < (wr.iterAt w.heap.size (Rn.arr f n) (pos + (Rn.dec (Rn.off f pos) (n - pos)).2)).heap.size := by
        obtain ⟨hh, _⟩ := Array.getElem?_eq_some_iff.1 hit2
        exact hh
      clear cI
      generalize (Rn.dec (Rn.off f pos) (n - pos)).1 = r at *
      generalize (Rn.dec (Rn.off f pos) (n - pos)).2 = d at *
      cases his : Ch.isT Ch.tab c r
      · rw [his] at cc hpre
        simp only [Bool.false_eq_true, if_false] at hpre
        have HP := hide' hpre
        clear hpre his
        go_wp2_with fail
        refine cc.mono ?_
        rintro e w1 ⟨rfl, hb1⟩
        go_wp2_with fail
        go_ret
        exact ⟨by rw [← HP.out]; go_num, hB2.trans (hb1.mono (by omega))⟩
      · rw [his] at cc hpre
        simp only [if_true] at hpre
        have HP := hide' hpre
        clear hpre his
        go_wp2_with fail
        refine cc.mono ?_
        rintro e w1 ⟨rfl, hb1⟩
        have hit3 := (hb1.block w.heap.size hi1).trans hit2
        go_wp2_with fail
        go_roundw
        case rel => exact ⟨pos + d, q, hit3, HP.out, by omega, by omega, hB2.trans (hb1.mono (by omega))⟩
        case measure => simp only [World.iterPos, hit3, hit]; omega
    · have hnx : ∀ ty, (Instr.next (.pointer (some ⟨w.heap.size, 0, none⟩)) true ty).run Tryd.prog wr = _ := fun ty => Lib.run_next_end_at wr w.heap.size (Rn.arr f n) pos ty hit (by rw [hsz]; exact hlt)
      rw [Lx.leadF_end _ _ _ _ _ hlt] at hpre
      have HP := hide' hpre
      clear hpre cI
      go_wp2_with fail
      go_ret
      exact ⟨by rw [← HP.out]; go_num, hB⟩

namespace Lx
theorem arr_get? (g : Nat → Nat) (m : Nat) (hg : ∀ j, g j < 256) (k : Nat) (c : Nat) (hc : c < 256) : (Rn.arr g m).data.toList[k]? = some c.toUInt8 ↔ k < m ∧ g k = c := by
  simp only [Rn.arr, Array.toList_ofFn, List.getElem?_ofFn]
  by_cases h : k < m
  · have := hg k
    simp only [h, dif_pos, Option.some.injEq, true_and]
    constructor
    · intro e
      have := congrArg UInt8.toNat e
      simp at this
      omega
    · intro e; rw [e]
  · simp [h]
/-- the first such byte, as the library finds it -/
theorem index_eq (g : Nat → Nat) (m : Nat) (hg : ∀ j, g j < 256) (c : Nat) (hc : c < 256) :
    Lib.indexByte (Rn.arr g m).data.toList c.toUInt8 = if idx g m c < m then ((idx g m c : Nat) : Int) else -1 := by
  obtain ⟨a2, a3, a4⟩ := idx_spec g m c
  have hge := Lib.indexByte_ge (Rn.arr g m).data.toList c.toUInt8
  obtain ⟨x, hx⟩ : ∃ x, Lib.indexByte (Rn.arr g m).data.toList c.toUInt8 = x := ⟨_, rfl⟩
  rw [hx] at hge ⊢
  by_cases h : x = -1
  · rw [h] at hx
    have k := Lib.indexByte_none hx
    rw [if_neg, h]
    intro hl
    exact k (idx g m c) ((arr_get? g m hg _ c hc).2 ⟨hl, a4 hl⟩)
  · obtain ⟨o, rfl⟩ : ∃ o : Nat, x = o := ⟨x.toNat, by omega⟩
    obtain ⟨k1, k2⟩ := Lib.indexByte_some hx
    obtain ⟨q1, q2⟩ := (arr_get? g m hg o c hc).1 k1
    have : idx g m c = o := idx_of (fun j hj e => k2 j hj ((arr_get? g m hg j c hc).2 ⟨by omega, e⟩)) (by omega) (fun _ => q2)
    rw [this, if_pos q1]
end Lx

theorem arr_front (g : Nat → Nat) (m k : Nat) (h : k ≤ m) : (Rn.arr g m).extract 0 k = Rn.arr g k := by
  apply ByteArray.ext
  apply Array.ext
  · simp [Rn.arr, ByteArray.data_extract]; omega
  · intro i h1 h2
    simp [Rn.arr, ByteArray.data_extract]
theorem arr_rest (g : Nat → Nat) (m k : Nat) : (Rn.arr g m).extract k m = Rn.arr (Rn.off g k) (m - k) := by
  apply ByteArray.ext
  apply Array.ext
  · simp [Rn.arr, ByteArray.data_extract]
  · intro i h1 h2
    simp [Rn.arr, ByteArray.data_extract, Rn.off]
end Go.Proofs.YtoccedbnnafjcaaDoor
