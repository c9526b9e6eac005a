/-
  WALKS over (*tree.Tree).Parent and gimletlaw09.along at a tree, by every axis.
-/
import Derived.Test.YtfkmeghddobgcaaDoorTrRowI
import Derived.Test.YtfkmeghddobgcaaDoorTrChild
namespace Go.Proofs.YtfkmeghddobgcaaDoor
open Go.RowKit Go.Shelf Go.Lib
set_option maxHeartbeats 1000000 in
theorem trParent (W : World) (B D n : Nat) (E : Nat → Tr.Ev Value) (L q cap nd : Nat) (h : Tr.TreeR W B D n E L q cap nd) (k : Int) :
    Calls Tryd.prog 16 #[.pointer (some ⟨D, 0, none⟩), .int .i64 k] W fun e w' => e = .returned (if k < 0 ∨ (nd : Int) ≤ k then .tuple #[.int .i64 0, .int .i64 2] else .tuple #[.int .i64 ((Tr.grun E n).nth k.toNat).par, .int .i64 0]) ∧ w' = W := by
  have cL := trLacks W B D n E L q cap nd h k 0
  have c1 := h.c1
  by_cases hk : k < 0 ∨ (nd : Int) ≤ k
  · rw [if_pos hk] at cL ⊢
    clear h hk
    go_enter Tryd.func16, Tryd.ntmps16
    go_wp2_with fail
    refine cL.mono ?_
    rintro e w1 ⟨rfl, rfl⟩
    clear cL
    go_wp2_with fail
    go_ret2
    exact ⟨rfl, rfl⟩
  · rw [if_neg hk] at cL ⊢
    obtain ⟨j, rfl⟩ : ∃ j : Nat, k = j := ⟨k.toNat, by omega⟩
    obtain ⟨c2, _⟩ := h.node (k := j) (by omega)
    rw [Int.toNat_natCast]
    have t1 : (j : Int) < (nd : Int) := by omega
    have t0 : (0 : Int) ≤ j := by omega
    clear h hk
    go_enter Tryd.func16, Tryd.ntmps16
    go_wp2_with fail
    refine cL.mono ?_
    rintro e w1 ⟨rfl, rfl⟩
    clear cL
    go_wp2_with fail
    go_ret2
    exact ⟨rfl, rfl⟩
namespace Tr
theorem alF_bound {E : Nat → Ev Value} {n nd : Nat} (h : Shape E (grun E n) nd n) (k ax : Int) : -1 ≤ (alF E n nd k ax).1 ∧ (alF E n nd k ax).2 ≤ nd := by
  unfold alF
  split
  · exact ⟨by decide, by dsimp only; omega⟩
  · have := (bh_up h (show -1 ≤ k by omega) (by omega)).2
    split
    · exact ⟨by dsimp only; omega, this⟩
    split
    · exact ⟨by dsimp only; omega, this⟩
    split
    · exact ⟨by dsimp only; omega, by dsimp only; omega⟩
    · exact ⟨by decide, by dsimp only; omega⟩
/-- a collected row of numbers -/
theorem io_of {W : World} {B : Nat} {v : Value} {a b : Int} {ys : List (Num a b)} {l : List Int} (h : W.ownsRow B 3 1 v ys.length (ic (vals ys))) (e : vals ys = l) : IO W B v l := by
  subst e
  unfold IO
  rw [show (vals ys).length = ys.length by simp [vals]]
  exact h
theorem io_new (w : World) (x : Int) : IO (w.alloc (.cells #[.int .i64 x] 3)) w.heap.size (.slice (some ⟨w.heap.size, 0, none⟩) 1 1) [x] :=
  ⟨rfl, .inr ⟨w.heap.size, 1, #[.int .i64 x], rfl, Nat.le_refl _, World.alloc_heap_new w _, Nat.le_refl _, by decide, rfl, rfl⟩⟩
theorem io_nil (w : World) (B : Nat) : IO w B (.slice none 0 0) [] := ⟨rfl, .inl ⟨rfl, rfl⟩⟩
/-- what along answers -/
def AlE (w : World) (l : List Int) (e : Ending) (w' : World) : Prop := ∃ v, e = .returned v ∧ IO w' w.heap.size v l ∧ Below w.heap.size w w'
end Tr
theorem trAlongL (w : World) (B D n : Nat) (E : Nat → Tr.Ev Value) (L q cap nd : Nat) (h : Tr.TreeR w B D n E L q cap nd) (hn : nd ≤ 900) (k ax : Int) (h0 : ax ≠ 0) :
    Calls Tryd.prog 23 #[.pointer (some ⟨D, 0, none⟩), .int .i64 k, .int .i64 ax] w fun e w' => Tr.AlE w (Tr.numL (Tr.alF E n nd k ax).1 (Tr.alF E n nd k ax).2) e w' := by
  have hA1 : Below w.heap.size w (w.alloc (.cells #[.slice none 0 0] 52)) := (Below.refl _ _).alloc (Nat.le_refl _) _
  have cA := trAlong (w.alloc (.cells #[.slice none 0 0] 52)) B D n E L q cap nd (h.below hA1) (by omega) k ax h0
  obtain ⟨hb1, hb2⟩ := Tr.alF_bound h.shp k ax
  generalize (Tr.alF E n nd k ax).1 = a at *
  generalize (Tr.alF E n nd k ax).2 = b at *
  rw [World.size_alloc] at cA
  obtain ⟨W0, hW0⟩ : ∃ W0, w.alloc (.cells #[.slice none 0 0] 52) = W0 := ⟨_, rfl⟩
  have hz0 : W0.heap.size = w.heap.size + 1 := by rw [← hW0]; simp
  rw [hW0] at cA
  obtain ⟨W1, hW1⟩ : ∃ W1, (W0.alloc (.cells #[.int .i64 a] 3)).alloc (.cells #[.int .i64 b] 3) = W1 := ⟨_, rfl⟩
  rw [hW1] at cA
  have hz1 : W1.heap.size = w.heap.size + 3 := by rw [← hW1]; simp; omega
  have hbl : Below (w.heap.size + 1) W0 W1 := by
    rw [← hW1]
    exact ((Below.refl _ _).alloc (by omega) _).alloc (by simp; omega) _
  have hbf : W1.cell? ⟨w.heap.size + 1, 0, none⟩ = some (.int .i64 a) := by
    rw [← hW1, ← hz0]
    rw [Lib.cell_of_heap ((Below.heap_alloc _ _ _ (by simp)).trans (World.alloc_heap_new W0 _))]
    rfl
  have hbe : W1.cell? ⟨w.heap.size + 1 + 1, 0, none⟩ = some (.int .i64 b) := by
    have h1 := World.alloc_heap_new (W0.alloc (.cells #[.int .i64 a] 3)) (.cells #[.int .i64 b] 3)
    rw [World.size_alloc, hz0] at h1
    rw [← hW1, Lib.cell_of_heap h1]
    rfl
  rw [← hW0] at cA hbl
  refine (trCollects (.pointer (some ⟨D, 0, none⟩)) k ax w W1 a b 52 #[.pointer (some ⟨w.heap.size + 1, 0, none⟩), .pointer (some ⟨w.heap.size + 1 + 1, 0, none⟩)] (enters_of Tryd.func52 (by kernel_rfl) rfl) cA hbl (Tr.Keep1 (w.heap.size + 1 + 1)) (fun ys => ys = Tr.numS a b) (fun pre => pre <+: Tr.numS a b) (Tr.numS a b).length (by rw [Tr.numS_length]; omega)
    (trNum_stops Fence.wide 5 trivial rfl (by omega) (w.heap.size + 1) (w.heap.size + 1 + 1) a b (by omega) (by omega) W1 hbf hbe) Tr.keep1_t (Tr.keep1_b (by omega)) (fun W W' hk => World.cell?_of_block (a := ⟨w.heap.size + 1 + 1, 0, none⟩) (hk (w.heap.size + 1 + 1) (by omega) (by omega)))).mono ?_
  rintro e w' ⟨v, ys, rfl, rfl, hI, hb⟩
  exact ⟨v, rfl, Tr.io_of hI (Tr.vals_numS a b), hb⟩
theorem trAlongCL (w : World) (B D n : Nat) (E : Nat → Tr.Ev Value) (L q cap nd : Nat) (h : Tr.TreeR w B D n E L q cap nd) (hn : nd ≤ 900) (k : Int) (hk0 : -1 ≤ k) (hk : k < nd) :
    Calls Tryd.prog 23 #[.pointer (some ⟨D, 0, none⟩), .int .i64 k, .int .i64 0] w fun e w' => Tr.AlE w (Tr.chL E n nd k) e w' := by
  have hA1 : Below w.heap.size w (w.alloc (.cells #[.slice none 0 0] 52)) := (Below.refl _ _).alloc (Nat.le_refl _) _
  have cA := trAlongC (w.alloc (.cells #[.slice none 0 0] 52)) B D n E L q cap nd (h.below hA1) k hk0 hk
  rw [World.size_alloc] at cA
  obtain ⟨W0, hW0⟩ : ∃ W0, w.alloc (.cells #[.slice none 0 0] 52) = W0 := ⟨_, rfl⟩
  have hz0 : W0.heap.size = w.heap.size + 1 := by rw [← hW0]; simp
  rw [hW0] at cA
  obtain ⟨W1, hW1⟩ : ∃ W1, (W0.alloc (.cells #[.pointer (some ⟨D, 0, none⟩)] 25)).alloc (.cells #[.int .i64 k] 3) = W1 := ⟨_, rfl⟩
  rw [hW1] at cA
  have hz1 : W1.heap.size = w.heap.size + 3 := by rw [← hW1]; simp; omega
  have hbl : Below (w.heap.size + 1) W0 W1 := by
    rw [← hW1]
    exact ((Below.refl _ _).alloc (by omega) _).alloc (by simp; omega) _
  have hbt : W1.cell? ⟨w.heap.size + 1, 0, none⟩ = some (.pointer (some ⟨D, 0, none⟩)) := by
    rw [← hW1, ← hz0]
    rw [Lib.cell_of_heap ((Below.heap_alloc _ _ _ (by simp)).trans (World.alloc_heap_new W0 _))]
    rfl
  have hbn : W1.cell? ⟨w.heap.size + 1 + 1, 0, none⟩ = some (.int .i64 k) := by
    have h1 := World.alloc_heap_new (W0.alloc (.cells #[.pointer (some ⟨D, 0, none⟩)] 25)) (.cells #[.int .i64 k] 3)
    rw [World.size_alloc, hz0] at h1
    rw [← hW1, Lib.cell_of_heap h1]
    rfl
  have hD : D < w.heap.size := (Array.getElem?_eq_some_iff.1 h.blk).1
  have hq : q < w.heap.size := block_lt_of_cell (h.node (k := 0) h.shp.pos).1
  have hb2 := Tr.bh_up h.shp hk0 hk
  have hR1 : Tr.TreeR W1 B D n E L q cap nd := h.below (hA1.trans (by rw [← hW0] at hbl; exact hbl.mono (by omega)))
  rw [← hW0] at cA hbl
  refine (trCollects (.pointer (some ⟨D, 0, none⟩)) k 0 w W1 (k + 1) (Tr.bh E n nd k) 53 #[.pointer (some ⟨w.heap.size + 1, 0, none⟩), .pointer (some ⟨w.heap.size + 1 + 1, 0, none⟩)] (enters_of Tryd.func53 (by kernel_rfl) rfl) cA hbl (Tr.Keep4 (w.heap.size + 1) (w.heap.size + 1 + 1) D q) (fun ys => ys = Tr.chS E n nd k) (fun pre => pre <+: Tr.chS E n nd k) (Tr.chS E n nd k).length
    (by have := Tr.chF_len E n nd (k + 1) (Tr.bh E n nd k) (Tr.bh E n nd k - (k + 1)).toNat (k + 1); show (Tr.chF _ _ _ _ _ _ _).length ≤ _; omega)
    (trCh_stops 5 (by omega) (w.heap.size + 1) (w.heap.size + 1 + 1) B D n E L q cap nd k hk0 hk (by omega) W1 hR1 hbt hbn) Tr.keep4_t (Tr.keep4_b (by omega) (by omega) (by omega) (by omega)) (fun W W' hkk i hi => hkk i (by omega) (by omega))).mono ?_
  rintro e w' ⟨v, ys, rfl, rfl, hI, hb⟩
  exact ⟨v, rfl, Tr.io_of hI rfl, hb⟩
end Go.Proofs.YtfkmeghddobgcaaDoor
