/-
  THE WALK over gimletlaw03.WordsBorders: of any text.
-/
import Derived.Test.YtfbjkebinbemdaaDoorWdBorder
import Derived.Test.YtfbjkebinbemdaaDoorWdAwake
import Derived.ArgAppend
namespace Go.Proofs.YtfbjkebinbemdaaDoor
open Go.RowKit

/-- the cell behind the first ones -/
theorem owns_at {w : World} {B : Nat} {v : Value} {n m : Nat} {xs : List Value} {x : Value} (h : w.ownsRow B 3 1 v n xs) (hm : m < n) (hx : xs[m]? = some x) : ∃ g cap, v = .slice (some ⟨g, 0, none⟩) n cap ∧ w.cell? ⟨g, m, none⟩ = some x := by
  rcases h.2 with ⟨_, h2⟩ | ⟨g, cap, cur, h1, h2, h3, h4, h5, h6, h7⟩
  · omega
  · refine ⟨g, cap, h1, ?_⟩
    rw [Lib.cell_of_heap h3, ← Array.getElem?_toList, ← hx, ← h7, List.getElem?_take, if_pos (by omega)]

set_option maxRecDepth 100000 in
set_option maxHeartbeats 4000000 in
theorem lawBorders_any (f : Nat → Nat) (n : Nat) (w : World) (hT : Lib.Utf8Tabs 0 1 w) (hf : ∀ j, f j < 256) (hn : n ≤ 4611686018427387904) :
    Calls Tryd.prog 6 #[.string (Rn.arr f n)] w fun e w' => e = .returned (.bool true) ∧ Below w.heap.size w w' := by
  have c0 := wAwake_any w hT
  have hsz := Rn.arr_size f n
  clear hT
  by_cases hbig : 4000 < n
  · have hbi : (4000 : Int) < (n : Int) := by omega
    go_enter Tryd.func6, Tryd.ntmps6
    go_wp2_with fail
    refine c0.mono ?_
    rintro e w0 ⟨rfl, hB0⟩
    go_wp2_with fail
    go_ret
    exact ⟨rfl, hB0⟩
  · have hbi : ¬ (4000 : Int) < (n : Int) := by omega
    have c1 := fun w1 => border_any f n w1 hf (by omega)
    have c2 := fun w1 => refBorder_any f n w1 hf (by omega)
    have hl := Wd.R_length f n 0 hf
    obtain ⟨i0, hi, hz0, hz1, hz2⟩ := info3 infoInt'
    generalize Wd.lg (Wd.R f n 0) = p at *
    generalize (Wd.R f n 0).length = m at *
    go_enter Tryd.func6, Tryd.ntmps6
    go_wp2_with fail
    refine c0.mono ?_
    rintro e w0 ⟨rfl, hB0⟩
    go_wp2_with fail
    refine (c1 w0).mono ?_
    rintro e w1 ⟨a, rfl, ha1, ⟨af, ⟨ac, hIa⟩, hbda⟩, hb1⟩
    have hB1 := hB0.trans (hb1.mono hB0.size)
    go_wp2_with fail
    refine (c2 w1).mono ?_
    rintro e w2 ⟨t, rfl, ht1, ⟨tf, ⟨tc, hIt⟩, hbdt⟩, hb2⟩
    have hB2 := hB1.trans (hb2.mono hB1.size)
    have hIa2 := hIa.below hb2 (Nat.le_refl _)
    go_wp2_with fail
    refine (c1 w2).mono ?_
    rintro e w3 ⟨b, rfl, hb1', ⟨bf, ⟨bc, hIb⟩, hbdb⟩, hb3⟩
    have hB3 := hB2.trans (hb3.mono hB2.size)
    have hIa3 := hIa2.below hb3 (Nat.le_refl _)
    have hIt3 := hIt.below hb3 (Nat.le_refl _)
    have hat : ∀ j, j < m → af j = tf j := fun j hj => (hbda j hj).uniq (hbdt j hj)
    have hbt : ∀ j, j < m → bf j = tf j := fun j hj => (hbdb j hj).uniq (hbdt j hj)
    have hsa : a < w1.heap.size := (Array.getElem?_eq_some_iff.1 hIa.blk).1
    have hst : t < w2.heap.size := (Array.getElem?_eq_some_iff.1 hIt.blk).1
    have hs3 := hb3.size
    have hs0 := hB0.size
    have cs1 := same3_any af tf a t m m m w3 (by omega) hIa3.row hIt3.row hat
    have cs2 := fun q => same3_any bf tf b t m m m (w3.drewN q) (by omega) hIb.row hIt3.row hbt
    clear hIa hIa2 hIt hbda hB0 hB1 hB2 hb1 hb2 hb3 c0
    have hD : Hid (∀ j, j < m → Wd.Bd p (tf j) j) := hbdt
    clear hbdt
    go_wp2_with fail
    refine cs1.mono ?_
    rintro e w4 ⟨rfl, q1, rfl⟩
    go_wp2_with fail
    refine (cs2 _).mono ?_
    rintro e w5 ⟨rfl, q2, rfl⟩
    go_wp2_with fail
    go_loopw [6] (fun i wr => ∃ (k : Nat) (ac : Array Value), i = .int .i64 k ∧ k ≤ m ∧ wr.heap[a]? = some (.cells ac 3 (0, 0)) ∧ ac.size = m ∧ IB wr t m tf tc ∧ IB wr b m bf bc ∧ Below w.heap.size w wr) (fun i _ => m - (intOf i).toNat)
    case atStart => exact ⟨0, ac, rfl, Nat.zero_le _, hIa3.blk, hIa3.size, ⟨hIt3.blk, hIt3.size, hIt3.get⟩, ⟨hIb.blk, hIb.size, hIb.get⟩, below_drewN hB3 _⟩
    case round =>
      clear cs1 cs2 hIa3 hIt3 hIb hat ac
      obtain ⟨k, ac, rfl, hkm, hA, hAs, hIt, hIb, hB⟩ := hrel
      by_cases hlt : k < m
      · have hlti : (k : Int) < (m : Int) := by omega
        have cB : wr.cell? ⟨a, k, none⟩ = some ac[k] := by rw [Lib.cell_of_heap hA, Array.getElem?_eq_getElem]
        have fB := Lib.frozen_of_heap hA k
        generalize ac[k] = x at cB
        go_wp2_with fail
        go_roundw
        case rel =>
          refine ⟨k + 1, ac.setIfInBounds k (.int .i64 (-7)), by go_num, by omega, Go.Joins.block_setCell hA _, by simp [hAs], ⟨?_, hIt.size, hIt.get⟩, ⟨?_, hIb.size, hIb.get⟩, hB.setCell (p := ⟨a, k, none⟩) (by show w.heap.size ≤ a; omega) _⟩
          · exact (Below.heap_setCell _ _ _ _ (by show t ≠ a; omega)).trans hIt.blk
          · exact (Below.heap_setCell _ _ _ _ (by show b ≠ a; omega)).trans hIb.blk
        case measure => simp [intOf]; omega
      · have hlti : ¬ (k : Int) < (m : Int) := by omega
        have hlta : a < wr.heap.size := (Array.getElem?_eq_some_iff.1 hA).1
        have hltt : t < wr.heap.size := (Array.getElem?_eq_some_iff.1 hIt.blk).1
        have hltb : b < wr.heap.size := (Array.getElem?_eq_some_iff.1 hIb.blk).1
        go_wp2_with (at_builtin; refine wpList_append_grows _ rfl _ _ 33 rfl 3 i0 (.int .i64 0) 1 8 Tryd.underlying33 hi hz0 hz1 hz2 rfl (by decide) (some ⟨a, 0, none⟩) m m ac.toList rfl (fun h => by cases h) (by simp [hAs]) ?c0 ⟨wr.heap.size, 0, none⟩ 2 2 [.int .i64 1, .int .i64 2] rfl rfl ?c1 ?c2 ?c3 ?c4 ?c5 ?_)
        case c0 =>
          intro j u hu
          rw [Lib.cell_of_heap hA]
          exact hu
        case c2 => exact ⟨rfl, rfl⟩
        case c4 => unfold maxLen; omega
        case c5 => omega
        intro c' w6 hown6 hg6
        have hB6 : Below w.heap.size w w6 := (hB.alloc hB.size _).trans ⟨hg6.os, hg6.tape, hg6.output, hg6.size, fun j hj => hg6.block j (by have := hB.size; simp; omega) (fun e => by cases e)⟩
        have k6 : ∀ j o, j < wr.heap.size → wr.heap[j]? = some o → w6.heap[j]? = some o := fun j o hj ho => (hg6.block j (by simp; omega) (fun e => by cases e)).trans ((Lib.alloc_old wr _ _ hj).trans ho)
        have hIt6 : IB w6 t m tf tc := ⟨k6 _ _ hltt hIt.blk, hIt.size, hIt.get⟩
        have hIb6 : IB w6 b m bf bc := ⟨k6 _ _ hltb hIb.blk, hIb.size, hIb.get⟩
        obtain ⟨gc, cc, rfl, hcc⟩ := owns_at (m := m) (x := .int .i64 1) hown6 (by omega) (by rw [List.getElem?_append_right (by simp [hAs])]; simp [hAs])
        have hgc := block_lt_of_cell hcc
        have hltt6 : t < w6.heap.size := (Array.getElem?_eq_some_iff.1 hIt6.blk).1
        have hltb6 : b < w6.heap.size := (Array.getElem?_eq_some_iff.1 hIb6.blk).1
        clear hown6 hg6 k6 hIt hIb hB hA hlta hltt hltb hAs ac
        go_wp2_with (at_builtin; refine wpList_append_grows _ rfl _ _ 33 rfl 3 i0 (.int .i64 0) 1 8 Tryd.underlying33 hi hz0 hz1 hz2 rfl (by decide) (some ⟨b, 0, none⟩) m m bc.toList rfl (fun h => by cases h) (by simp [hIb6.size]) ?d0 ⟨w6.heap.size, 0, none⟩ 2 2 [.int .i64 3, .int .i64 4] rfl rfl ?d1 ?d2 ?d3 ?d4 ?d5 ?_)
        case d0 =>
          intro j u hu
          rw [Lib.cell_of_heap hIb6.blk]
          exact hu
        case d2 => exact ⟨rfl, rfl⟩
        case d4 => unfold maxLen; omega
        case d5 => omega
        intro d' w7 hown7 hg7
        have hB7 : Below w.heap.size w w7 := (hB6.alloc hB6.size _).trans ⟨hg7.os, hg7.tape, hg7.output, hg7.size, fun j hj => hg7.block j (by have := hB6.size; simp; omega) (fun e => by cases e)⟩
        have k7 : ∀ j, j < w6.heap.size → w7.heap[j]? = w6.heap[j]? := fun j hj => (hg7.block j (by simp; omega) (fun e => by cases e)).trans (Lib.alloc_old w6 _ _ hj)
        have hIt7 : IB w7 t m tf tc := ⟨(k7 _ hltt6).trans hIt6.blk, hIt6.size, hIt6.get⟩
        have hIb7 : IB w7 b m bf bc := ⟨(k7 _ hltb6).trans hIb6.blk, hIb6.size, hIb6.get⟩
        have hcc7 : w7.cell? ⟨gc, m, none⟩ = some (.int .i64 1) := (World.cell?_of_block (a := ⟨gc, m, none⟩) (k7 gc hgc)).trans hcc
        obtain ⟨gd, cd, rfl, hdd⟩ := owns_at (m := m) (x := .int .i64 3) hown7 (by omega) (by rw [List.getElem?_append_right (by simp [hIb6.size])]; simp [hIb6.size])
        clear hown7 hg7 k7 hIt6 hIb6 hB6 hcc hgc hltt6 hltb6
        have cs := same3_any bf tf b t m m m w7 (by omega) hIb7.row hIt7.row hbt
        have hm2 : (m : Int) < (m : Int) + 2 := by omega
        have hm3 : m < m + 2 := by omega
        go_wp2_with fail
        refine cs.mono ?_
        rintro e w8 ⟨rfl, q8, rfl⟩
        go_wp2_with fail
        refine (c1 _).mono ?_
        rintro e w9 ⟨x, rfl, hx1, ⟨xf, ⟨xc, hIx⟩, hbdx⟩, hb9⟩
        have hB9 := (below_drewN hB7 q8).trans (hb9.mono (by have := hB7.size; simpa using this))
        have hIt9 : IB w9 t m tf tc := IB.below (w := w7.drewN q8) ⟨hIt7.blk, hIt7.size, hIt7.get⟩ hb9 (Nat.le_refl _)
        have cz := same3_any xf tf x t m m m w9 (by omega) hIx.row hIt9.row (fun j hj => (hbdx j hj).uniq (hD.out j hj))
        clear hIx hbdx
        go_wp2_with fail
        refine cz.mono ?_
        rintro e w10 ⟨rfl, q10, rfl⟩
        go_wp2_with fail
        go_ret
        exact ⟨rfl, below_drewN hB9 _⟩
end Go.Proofs.YtfbjkebinbemdaaDoor
