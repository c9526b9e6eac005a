/-
  THE WALK over gimletlaw04.FeedCuts: whatever the cuts, the same.
-/
import Derived.Test.YtbfabpjhdhhpfaaDoorFdPieces
import Derived.BigQuiet
namespace Go.Proofs.YtbfabpjhdhhpfaaDoor
open Go.RowKit Go.Lib

namespace Fd
open Rn
theorem tkE_no (F : Nat → Nat) (N : Nat) (E : Bool) : ∀ (a T : Nat) (p : Nat × Nat × Nat), N ≤ T + a → (pk F N (tkE F N E a T p).1 E).2.2.2 ≠ 0
  | 0, T, p, h => pk_end F N T E (by omega)
  | a + 1, T, p, h => by
    unfold tkE
    split
    · next h0 =>
      have := pk_pos h0
      exact tkE_no F N E a _ _ (by omega)
    · next h0 => exact h0
theorem pk_ended (F : Nat → Nat) (N T : Nat) : (pk F N T true).2.2.2 ≠ 1 := by
  unfold pk
  repeat' split
  all_goals simp_all
end Fd
theorem fcCells_at (l : List (Nat × Nat × (Nat × Nat × Nat) × Nat)) (i j : Nat) (h : i < l.length) (hj : j < 6) : (fcCells l)[6 * i + j]? = (fcOne l[i])[j]? := by
  induction l generalizing i with
  | nil => simp at h
  | cons a l ih =>
    have e : fcCells (a :: l) = fcOne a ++ fcCells l := by simp [fcCells]
    have hl : (fcOne a).length = 6 := rfl
    rw [e]
    cases i with
    | zero =>
      rw [List.getElem?_append_left (by omega), show 6 * 0 + j = j by omega]
      rfl
    | succ i =>
      rw [List.getElem?_append_right (by omega), hl, show 6 * (i + 1) + j - 6 = 6 * i + j by omega, ih i (by simpa using h)]
      rfl
/-- the six cells of a row's element -/
theorem fc_six {w : World} {B q co n : Nat} {l : List (Nat × Nat × (Nat × Nat × Nat) × Nat)} (h : w.ownsRow B 36 6 (.slice (some ⟨q, 0, none⟩) n co) l.length (fcCells l)) (i : Nat) (hi : i < l.length) :
    w.cell? ⟨q, i * 6, none⟩ = some (.int .i32 (l[i].1 : Nat)) ∧ w.cell? ⟨q, i * 6 + 1, none⟩ = some (.int .i64 (l[i].2.1 : Nat)) ∧ w.cell? ⟨q, i * 6 + 2, none⟩ = some (.int .i64 (l[i].2.2.1.1 : Nat)) ∧ w.cell? ⟨q, i * 6 + 3, none⟩ = some (.int .i64 (l[i].2.2.1.2.1 : Nat)) ∧ w.cell? ⟨q, i * 6 + 4, none⟩ = some (.int .i64 (l[i].2.2.1.2.2 : Nat)) ∧ w.cell? ⟨q, i * 6 + 5, none⟩ = some (.int .i64 (l[i].2.2.2 : Nat)) := by
  have k : ∀ j u, j < 6 → (fcOne l[i])[j]? = some u → w.cell? ⟨q, i * 6 + j, none⟩ = some u := by
    intro j u hj hu
    have := h.cells (g := q) rfl (6 * i + j) u (by rw [fcCells_at l i j hi hj]; exact hu)
    rw [Addr.add_lit, show 0 + (6 * i + j) = i * 6 + j by omega] at this
    exact this
  exact ⟨k 0 _ (by omega) rfl, k 1 _ (by omega) rfl, k 2 _ (by omega) rfl, k 3 _ (by omega) rfl, k 4 _ (by omega) rfl, k 5 _ (by omega) rfl⟩
theorem fc_slice {w : World} {B : Nat} {v : Value} {l : List (Nat × Nat × (Nat × Nat × Nat) × Nat)} (h : w.ownsRow B 36 6 v l.length (fcCells l)) : ∃ po co, v = .slice po l.length co := by
  rcases h.2 with ⟨e1, e2⟩ | ⟨q, c, cur, e1, _⟩
  · exact ⟨none, 0, by rw [e1, e2]⟩
  · exact ⟨_, _, e1⟩
theorem fc_some {w : World} {B : Nat} {po : Option Addr} {n co : Nat} {l : List (Nat × Nat × (Nat × Nat × Nat) × Nat)} (h : w.ownsRow B 36 6 (.slice po n co) l.length (fcCells l)) (h0 : 0 < l.length) : ∃ q, po = some ⟨q, 0, none⟩ := by
  rcases h.2 with ⟨e1, e2⟩ | ⟨q, c, cur, e1, _⟩
  · omega
  · cases e1; exact ⟨q, rfl⟩

set_option maxRecDepth 100000 in
set_option maxHeartbeats 1000000 in
theorem lawCuts_any (f : Nat → Nat) (pa : Option Addr) (n cap : Nat) (pc : Option Addr) (c capc : Nat) (g : Nat → Int) (pd : Option Addr) (d capd : Nat) (g' : Nat → Int) (w : World) (hT : Lib.Utf8Tabs 0 1 w) (hf : ∀ j, f j < 256) (hc : n ≤ cap) (hm : cap ≤ 9223372036854775807) (hn : n ≤ 1048576) (hcc : c ≤ 1048576) (hdd : d ≤ 1048576)
    (hpa : 0 < n → ∃ b o, pa = some ⟨b, o, none⟩ ∧ Bytes w b o n f ∧ b < w.heap.size) (hpc : Cuts w pc c g) (hpd : Cuts w pd d g') :
    Calls Tryd.prog 4 #[.slice pa n cap, .slice pc c capc, .slice pd d capd] w fun e w' => e = .returned (.bool true) ∧ Below w.heap.size w w' := by
  have cA := feedAwake_any w hT
  have cutsB : ∀ {p : Option Addr} {k : Nat} {gg : Nat → Int} {W : World}, Cuts w p k gg → Below w.heap.size w W → Cuts W p k gg := by
    intro p k gg W h hb h0
    obtain ⟨b, o, e, hlt, hcell⟩ := h h0
    exact ⟨b, o, e, Nat.lt_of_lt_of_le hlt hb.size, fun j hj => (hb.cell (p := ⟨b, o + j, none⟩) hlt).trans (hcell j hj)⟩
  have bytesB : ∀ {W : World}, Below w.heap.size w W → (0 < n → ∃ b o, pa = some ⟨b, o, none⟩ ∧ Bytes W b o n f ∧ b < W.heap.size) := by
    intro W hb h0
    obtain ⟨b, o, e, hby, hlt⟩ := hpa h0
    exact ⟨b, o, e, hby.below hb (Nat.le_refl _), Nat.lt_of_lt_of_le hlt hb.size⟩
  have c1 := fun W (hb : Below w.heap.size w W) => pieces_any f pa n cap pc c capc g W (tabs_below hT hb (Nat.le_refl _)) hf hc hm (by omega) hcc (bytesB hb) (cutsB hpc hb)
  have c2 := fun W (hb : Below w.heap.size w W) => pieces_any f pa n cap pd d capd g' W (tabs_below hT hb (Nat.le_refl _)) hf hc hm (by omega) hdd (bytesB hb) (cutsB hpd hb)
  have c3 := fun W (hb : Below w.heap.size w W) => pieces_any f pa n cap none 0 0 g W (tabs_below hT hb (Nat.le_refl _)) hf hc hm (by omega) (by omega) (bytesB hb) (fun h => absurd h (by omega))
  have h0 := Fd.tkE_no f n true n 0 (0, 1, 1) (by omega)
  have h1 := Fd.pk_ended f n (Fd.tkE f n true n 0 (0, 1, 1)).1
  have hL := Fd.tk_length f n true n 0 (0, 1, 1)
  unfold drainV at c1 c2 c3
  generalize Fd.tk f n true n 0 (0, 1, 1) = L at *
  generalize Fd.tkE f n true n 0 (0, 1, 1) = S at *
  generalize Fd.pkY (Fd.pk f n S.1 true) S.1 S.2 = Y at *
  generalize (Fd.pk f n S.1 true).2.2.2 = X at *
  have x0 : ((X : Int) == 0) = false := by simp; omega
  have x1 : ((X : Int) == 1) = false := by simp; omega
  clear hT hpa hpc hpd h0 h1 cutsB bytesB
  go_enter Tryd.func4, Tryd.ntmps4
  go_wp2_with fail
  refine cA.mono ?_
  rintro e w1 ⟨rfl, hb1⟩
  have c1' := c1 w1 hb1
  clear cA c1
  go_wp2_with fail
  refine c1'.mono ?_
  rintro e w2 ⟨o1, rfl, ho1, hb2⟩
  clear c1'
  obtain ⟨p1, k1, rfl⟩ := fc_slice ho1
  obtain ⟨W2, hW2⟩ : ∃ W2, w2.alloc (.cells #[.int .i32 0, .int .i64 Y.1, .int .i64 Y.2.1, .int .i64 Y.2.2.1, .int .i64 Y.2.2.2, .int .i64 0] 36) = W2 := ⟨_, rfl⟩
  have hB2 : Below w.heap.size w W2 := by rw [← hW2]; exact (hb1.trans (hb2.mono hb1.size)).alloc (by have := hb1.size; have := hb2.size; omega) _
  have hO1 : W2.ownsRow (w1.heap.size + 1 + 1) 36 6 (.slice p1 L.length k1) L.length (fcCells L) := by rw [← hW2]; exact ho1.kept_below ((Below.refl _ _).alloc (Nat.le_refl _) _)
  have hc2 : W2.heap[w2.heap.size]? = some (.cells #[.int .i32 0, .int .i64 Y.1, .int .i64 Y.2.1, .int .i64 Y.2.2.1, .int .i64 Y.2.2.2, .int .i64 0] 36 (0, 0)) := by rw [← hW2]; exact heap_top _ _ rfl
  have c2' := c2 W2 hB2
  obtain ⟨K1, hK1⟩ : ∃ K1, w2.heap.size = K1 := ⟨_, rfl⟩
  rw [hK1] at hc2
  have HB2 := hide' hB2
  have HO1 := hide' hO1
  have HC2 := hide' hc2
  rw [← hW2] at c2'
  clear c2 hB2 hO1 hc2 ho1 hb1 hb2
  have HW2 := hide' hW2
  clear hW2
  go_wp2_with fail
  refine c2'.mono ?_
  rintro e w3 ⟨o2, rfl, ho2, hb3⟩
  clear c2'
  rw [HW2.out] at hb3 ho2
  obtain ⟨p2, k2, rfl⟩ := fc_slice ho2
  have hsW2 : K1 < W2.heap.size := (Array.getElem?_eq_some_iff.1 HC2.out).1
  have hs3 := hb3.size
  obtain ⟨W3, hW3⟩ : ∃ W3, w3.alloc (.cells #[.int .i32 0, .int .i64 Y.1, .int .i64 Y.2.1, .int .i64 Y.2.2.1, .int .i64 Y.2.2.2, .int .i64 0] 36) = W3 := ⟨_, rfl⟩
  have hb33 : Below W2.heap.size W2 W3 := by rw [← hW3]; exact hb3.alloc (by omega) _
  have hB3 : Below w.heap.size w W3 := HB2.out.trans (hb33.mono HB2.out.size)
  have hO1 := HO1.out.kept_below hb33
  have hO2 : W3.ownsRow (W2.heap.size + 1 + 1) 36 6 (.slice p2 L.length k2) L.length (fcCells L) := by rw [← hW3]; exact ho2.kept_below ((Below.refl _ _).alloc (Nat.le_refl _) _)
  have hc2 := (hb33.block K1 hsW2).trans HC2.out
  have hc3 : W3.heap[w3.heap.size]? = some (.cells #[.int .i32 0, .int .i64 Y.1, .int .i64 Y.2.1, .int .i64 Y.2.2.1, .int .i64 Y.2.2.2, .int .i64 0] 36 (0, 0)) := by rw [← hW3]; exact heap_top _ _ rfl
  have c3' := c3 W3 hB3
  obtain ⟨K2, hK2⟩ : ∃ K2, w3.heap.size = K2 := ⟨_, rfl⟩
  rw [hK2] at hc3
  have HB3 := hide' hB3
  have HO1' := hide' hO1
  have HO2 := hide' hO2
  have HC2' := hide' hc2
  have HC3 := hide' hc3
  rw [← hW3] at c3'
  clear c3 hB3 hO1 hO2 hc2 hc3 ho2 hb3 hb33 HB2 HO1 HC2 HW2
  have HW3 := hide' hW3
  clear hW3
  go_wp2_with fail
  refine c3'.mono ?_
  rintro e w4 ⟨o3, rfl, ho3, hb4⟩
  clear c3'
  rw [HW3.out] at hb4 ho3
  obtain ⟨p3, k3, rfl⟩ := fc_slice ho3
  have hsW3 : K2 < W3.heap.size := (Array.getElem?_eq_some_iff.1 HC3.out).1
  have hsW3' : K1 < W3.heap.size := (Array.getElem?_eq_some_iff.1 HC2'.out).1
  have hs4 := hb4.size
  obtain ⟨W4, hW4⟩ : ∃ W4, w4.alloc (.cells #[.int .i32 0, .int .i64 Y.1, .int .i64 Y.2.1, .int .i64 Y.2.2.1, .int .i64 Y.2.2.2, .int .i64 0] 36) = W4 := ⟨_, rfl⟩
  have hb44 : Below W3.heap.size W3 W4 := by rw [← hW4]; exact hb4.alloc (by omega) _
  have hB4 : Below w.heap.size w W4 := HB3.out.trans (hb44.mono HB3.out.size)
  have hO1 := HO1'.out.kept_below hb44
  have hO2 := HO2.out.kept_below hb44
  have hO3 : W4.ownsRow (W3.heap.size + 1 + 1) 36 6 (.slice p3 L.length k3) L.length (fcCells L) := by rw [← hW4]; exact ho3.kept_below ((Below.refl _ _).alloc (Nat.le_refl _) _)
  have hc2 := (hb44.block K1 hsW3').trans HC2'.out
  have hc3 := (hb44.block K2 hsW3).trans HC3.out
  have hc4 : W4.heap[w4.heap.size]? = some (.cells #[.int .i32 0, .int .i64 Y.1, .int .i64 Y.2.1, .int .i64 Y.2.2.1, .int .i64 Y.2.2.2, .int .i64 0] 36 (0, 0)) := by rw [← hW4]; exact heap_top _ _ rfl
  obtain ⟨K3, hK3⟩ : ∃ K3, w4.heap.size = K3 := ⟨_, rfl⟩
  rw [hK3] at hc4
  obtain ⟨a0, a1, a2, a3, a4, a5⟩ := keepC hc2
  obtain ⟨b0, b1, b2, b3, b4, b5⟩ := keepC hc3
  obtain ⟨d0, d1, d2, d3, d4, d5⟩ := keepC hc4
  rw [← hW4] at a0 a1 a2 a3 a4 a5 b0 b1 b2 b3 b4 b5 d0 d1 d2 d3 d4 d5
  have HB4 := hide' hB4
  have HP1 := hide' hO1
  have HP2 := hide' hO2
  have HP3 := hide' hO3
  have HW4 := hide' hW4
  clear hB4 hO1 hO2 hO3 hc2 hc3 hc4 ho3 hb4 hb44 HB3 HO1' HO2 HC2' HC3 HW3 hW4
  have hLm : L.length ≤ 9223372036854775807 := by omega
  go_wp2
  clear a0 a1 a2 a3 a4 a5 b0 b1 b2 b3 b4 b5 d0 d1 d2 d3 d4 d5
  have HW5 := HW4.out
  generalize w4.alloc (.cells #[.int .i32 0, .int .i64 Y.1, .int .i64 Y.2.1, .int .i64 Y.2.2.1, .int .i64 Y.2.2.2, .int .i64 0] 36) = w5 at *
  subst HW5
  go_loopw [16] (fun i wr => ∃ k : Nat, i = .int .i64 k ∧ k ≤ L.length ∧ Below w5.heap.size w5 wr) (fun i _ => L.length - (RowKit.intOf i).toNat)
  case atStart => exact ⟨0, rfl, Nat.zero_le _, Below.refl _ _⟩
  case round =>
    obtain ⟨k, rfl, hk, hB⟩ := hrel
    by_cases hkl : k < L.length
    · have u1 : (k : Int) < L.length := by omega
      obtain ⟨q1, rfl⟩ := fc_some HP1.out (by omega)
      obtain ⟨q2, rfl⟩ := fc_some HP2.out (by omega)
      obtain ⟨q3, rfl⟩ := fc_some HP3.out (by omega)
      obtain ⟨a0, a1, a2, a3, a4, a5⟩ := fc_six (HP1.out.kept_below hB) k hkl
      obtain ⟨b0, b1, b2, b3, b4, b5⟩ := fc_six (HP2.out.kept_below hB) k hkl
      obtain ⟨d0, d1, d2, d3, d4, d5⟩ := fc_six (HP3.out.kept_below hB) k hkl
      generalize L[k] = x at *
      obtain ⟨x0', x1', ⟨x2', x3', x4'⟩, x5'⟩ := x
      dsimp only at a0 a1 a2 a3 a4 a5 b0 b1 b2 b3 b4 b5 d0 d1 d2 d3 d4 d5
      go_wp2
      go_quiet (fail)
      go_wp2
      go_roundw
      case rel => exact ⟨k + 1, by go_num, by omega, below_drewN hB _⟩
      case measure => simp [RowKit.intOf]; omega
    · obtain rfl : k = L.length := by omega
      have u1 : ¬ (L.length : Int) < L.length := by omega
      go_wp2
      go_ret
      exact ⟨rfl, HB4.out.trans (hB.mono HB4.out.size)⟩
end Go.Proofs.YtbfabpjhdhhpfaaDoor
