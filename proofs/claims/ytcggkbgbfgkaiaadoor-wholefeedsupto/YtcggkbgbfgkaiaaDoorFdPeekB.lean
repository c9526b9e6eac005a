/-
  THE WALK over feed's Peek at a byte of no character.
-/
import Derived.Test.YtcggkbgbfgkaiaaDoorFdPeek
namespace Go.Proofs.YtcggkbgbfgkaiaaDoor
open Go.RowKit Go.Lib
section
variable {D B : Nat} {v : Value} {g : Nat → Nat} {n k wh pb pr pl pc : Nat} {bad ended : Bool} {w : World}


set_option maxHeartbeats 400000 in
theorem peek_bad (h : FeedAt w D B v g n k wh pb pr pl pc bad ended) (q cap z : Nat) (hv : v = .slice (some ⟨q, 0, none⟩) n cap) (hk : k < n) (hc : n ≤ cap) (hm : cap ≤ maxLen) (h1 : pb + z < 9223372036854775808) (h2 : pr + z < 9223372036854775808) (h3 : pc + z < 9223372036854775808) (y : Nat) (cN : ∀ W, Below w.heap.size w W → Calls Tryd.prog 11 #[v, .int .i64 k] W fun e W' => e = .returned (.tuple #[.int .i32 y, .int .i64 1, .int .i64 2, .int .i64 0]) ∧ Below W.heap.size W W')
    (cG : ∀ W, Below w.heap.size w W → Calls Tryd.prog 6 #[.slice (some ⟨q, k, none⟩) (n - k) (cap - k)] W fun e W' => e = .returned (.int .i64 z) ∧ Below W.heap.size W W') :
    Calls Tryd.prog 33 #[.pointer (some ⟨D, 0, none⟩)] w fun e w' => e = .returned (.tuple #[.agg #[.int .i32 0, .int .i64 (pb + z : Nat), .int .i64 (pr + z : Nat), .int .i64 pl, .int .i64 (pc + z : Nat), .int .i64 0], .int .i64 2]) ∧ Below w.heap.size w w' := by
  subst hv
  have hm' : cap ≤ 9223372036854775807 := by unfold maxLen at hm; omega
  clear hm
  obtain ⟨c0, c1, -, -, -, -, -, -, -⟩ := h.cell
  have hlt := h.lt
  have H := hide' h
  clear h
  have hW : Below w.heap.size w (w.alloc (.cells #[.int .i32 0, .int .i64 0, .int .i64 0, .int .i64 0, .int .i64 0, .int .i64 0] 45)) := (Below.refl _ _).alloc (Nat.le_refl _) _
  have hN := cN _ hW.drew
  clear cN
  go_enter Tryd.func33, Tryd.ntmps33
  go_wp2
  have g0 : (w.alloc (.cells #[.int .i32 0, .int .i64 0, .int .i64 0, .int .i64 0, .int .i64 0, .int .i64 0] 45)).cell? ⟨D, 0, none⟩ = some (.slice (some ⟨q, 0, none⟩) n cap) := (hW.cell (p := ⟨D, 0, none⟩) hlt).trans c0
  have g1 : (w.alloc (.cells #[.int .i32 0, .int .i64 0, .int .i64 0, .int .i64 0, .int .i64 0, .int .i64 0] 45)).cell? ⟨D, 1, none⟩ = some (.int .i64 k) := (hW.cell (p := ⟨D, 1, none⟩) hlt).trans c1
  have gr : (w.alloc (.cells #[.int .i32 0, .int .i64 0, .int .i64 0, .int .i64 0, .int .i64 0, .int .i64 0] 45)).heap[w.heap.size]? = some (.cells #[.int .i32 0, .int .i64 0, .int .i64 0, .int .i64 0, .int .i64 0, .int .i64 0] 45 (0, 0)) := by show (w.heap.push _)[w.heap.size]? = _; simp
  have hsz : w.heap.size < (w.alloc (.cells #[.int .i32 0, .int .i64 0, .int .i64 0, .int .i64 0, .int .i64 0, .int .i64 0] 45)).heap.size := by simp
  generalize w.alloc (.cells #[.int .i32 0, .int .i64 0, .int .i64 0, .int .i64 0, .int .i64 0, .int .i64 0] 45) = W at *
  have HG := hide' gr
  clear gr c0 c1
  have g0' : W.drew.cell? ⟨D, 0, none⟩ = some (.slice (some ⟨q, 0, none⟩) n cap) := g0
  have g1' : W.drew.cell? ⟨D, 1, none⟩ = some (.int .i64 k) := g1
  clear g0 g1
  go_region_held3 (fun w' => w'.cell? ⟨D, 0, none⟩ = some (.slice (some ⟨q, 0, none⟩) n cap) ∧ w'.cell? ⟨D, 1, none⟩ = some (.int .i64 k)) (first | exact ⟨g0', g1'⟩ | exact ⟨q0, q1⟩)
    (first | (go_at_call 11; refine hN.mono ?_; rintro e W1 ⟨rfl, hb1⟩; have q0 : W1.cell? ⟨D, 0, none⟩ = some (.slice (some ⟨q, 0, none⟩) n cap) := (hb1.cell (p := ⟨D, 0, none⟩) (show D < W.heap.size by omega)).trans g0'; have q1 : W1.cell? ⟨D, 1, none⟩ = some (.int .i64 k) := (hb1.cell (p := ⟨D, 1, none⟩) (show D < W.heap.size by omega)).trans g1'))
  have hB1 : Below w.heap.size w W1 := hW.drew.trans (hb1.mono hW.size)
  have hF1 := H.out.below hB1
  obtain ⟨d0, d1, d2, d3, d4, d5, d6, d7, d8⟩ := hF1.cell
  have hR1 : W1.heap[w.heap.size]? = some (.cells #[.int .i32 0, .int .i64 0, .int .i64 0, .int .i64 0, .int .i64 0, .int .i64 0] 45 (0, 0)) := (hb1.block w.heap.size (by show w.heap.size < W.heap.size; omega)).trans HG.out
  have hs1 : w.heap.size < W1.heap.size := Nat.lt_of_lt_of_le hsz hb1.size
  clear hN g0' g1' q0 q1 hW HG hsz hb1
  go_wp2
  have i2 : (k : Int) ≤ n := by omega
  have i3 : (0 : Int) ≤ (k : Int) := by omega
  have i4 : ¬ cap - k = 0 := by omega
  have i5 : ¬ cap = k := by omega
  have cG1 := cG W1.drew hB1.drew
  clear cG
  have hw : ∀ W2, Below W1.drew.heap.size W1.drew W2 → FeedAt W2 D B (.slice (some ⟨q, 0, none⟩) n cap) g n k wh pb pr pl pc bad ended := fun W2 hb => hF1.below ((Below.refl W1.heap.size W1).drew.trans hb)
  have cW := fun W2 hb => feedWrong_any (hw W2 hb) z h1 h2 h3
  have hcell : ∀ W2, Below W1.drew.heap.size W1.drew W2 → W2.cell? ⟨D, 0, none⟩ = some (.slice (some ⟨q, 0, none⟩) n cap) ∧ W2.cell? ⟨D, 1, none⟩ = some (.int .i64 k) := fun W2 hb => ⟨(hw W2 hb).cell.1, (hw W2 hb).cell.2.1⟩
  have q01 : W1.drew.cell? ⟨D, 0, none⟩ = some (.slice (some ⟨q, 0, none⟩) n cap) ∧ W1.drew.cell? ⟨D, 1, none⟩ = some (.int .i64 k) := ⟨d0, d1⟩
  have HR := hide' hR1
  have HB1 := hide' hB1
  clear hR1 hB1 hF1 H hw h1 h2 h3 d0 d1 d2 d3 d4 d5 d6 d7 d8
  have hfin : ∀ W2 W3, Below W1.drew.heap.size W1.drew W2 → Below W2.heap.size W2 W3 → Below w.heap.size w W3 ∧ W3.heap[w.heap.size]? = some (.cells #[.int .i32 0, .int .i64 0, .int .i64 0, .int .i64 0, .int .i64 0, .int .i64 0] 45 (0, 0)) := fun W2 W3 ha hb => by
    have h12 : Below W1.heap.size W1 W3 := (Below.refl W1.heap.size W1).drew.trans (ha.trans (hb.mono ha.size))
    exact ⟨HB1.out.trans (h12.mono HB1.out.size), (h12.block _ hs1).trans HR.out⟩
  have hne : ¬ w.heap.size = D := by omega
  have HC := hide' hcell
  have HF := hide' hfin
  have HW := hide' cW
  clear hcell hfin cW
  go_region_held3 (fun w' => w'.cell? ⟨D, 0, none⟩ = some (.slice (some ⟨q, 0, none⟩) n cap) ∧ w'.cell? ⟨D, 1, none⟩ = some (.int .i64 k)) (first | (with_reducible exact q01) | (with_reducible exact q02) | (with_reducible exact q03) | (obtain ⟨qa, qb⟩ := q03; simp [World.cell?_setCell_far, hne, qa, qb]))
    (first | (go_at_call 6; refine cG1.mono ?_; rintro e W2 ⟨rfl, hb2⟩; have q02 := HC.out W2 hb2) | (go_at_call 37; refine (HW.out W2 hb2).mono ?_; rintro e W3 ⟨rfl, hb3⟩; have q03 := HC.out W3 (hb2.trans (hb3.mono hb2.size)); obtain ⟨hB3, hR3⟩ := HF.out W2 W3 hb2 hb3; (have r0 : W3.cell? ⟨w.heap.size, 0, none⟩ = some (.int .i32 0) := (by rw [Lib.cell_of_heap hR3]; rfl); have r1 : W3.cell? ⟨w.heap.size, 1, none⟩ = some (.int .i64 0) := (by rw [Lib.cell_of_heap hR3]; rfl); have r2 : W3.cell? ⟨w.heap.size, 2, none⟩ = some (.int .i64 0) := (by rw [Lib.cell_of_heap hR3]; rfl); have r3 : W3.cell? ⟨w.heap.size, 3, none⟩ = some (.int .i64 0) := (by rw [Lib.cell_of_heap hR3]; rfl); have r4 : W3.cell? ⟨w.heap.size, 4, none⟩ = some (.int .i64 0) := (by rw [Lib.cell_of_heap hR3]; rfl); have r5 : W3.cell? ⟨w.heap.size, 5, none⟩ = some (.int .i64 0) := (by rw [Lib.cell_of_heap hR3]; rfl); have z0 : W3.frozen? ⟨w.heap.size, 0, none⟩ = false := Lib.frozen_of_heap hR3 0; have z1 : W3.frozen? ⟨w.heap.size, 1, none⟩ = false := Lib.frozen_of_heap hR3 1; have z2 : W3.frozen? ⟨w.heap.size, 2, none⟩ = false := Lib.frozen_of_heap hR3 2; have z3 : W3.frozen? ⟨w.heap.size, 3, none⟩ = false := Lib.frozen_of_heap hR3 3; have z4 : W3.frozen? ⟨w.heap.size, 4, none⟩ = false := Lib.frozen_of_heap hR3 4; have z5 : W3.frozen? ⟨w.heap.size, 5, none⟩ = false := Lib.frozen_of_heap hR3 5)))
  have HB := hide' hB3
  clear hB3 hb3 hb2 hR3 q01 q02 q03 cG1
  go_wp2
  refine bodyPost_ret (v := .tuple #[.agg #[.int .i32 0, .int .i64 (pb + z : Nat), .int .i64 (pr + z : Nat), .int .i64 pl, .int .i64 (pc + z : Nat), .int .i64 0], .int .i64 2]) (by simp [results, Tryd.results33, go_sem, r0, r1, r2, r3, r4, r5]) rfl ⟨rfl, ?_⟩
  (repeat refine Below.setCell ?_ (by simp) _)
  exact HB.out
end
end Go.Proofs.YtcggkbgbfgkaiaaDoor
