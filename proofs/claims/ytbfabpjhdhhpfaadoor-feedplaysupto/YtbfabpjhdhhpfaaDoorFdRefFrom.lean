/-
  WALKS over the document's from: what lies from a byte on (made by gen_ref4.py).
-/
import Derived.Test.YtbfabpjhdhhpfaaDoorFdRef
namespace Go.Proofs.YtbfabpjhdhhpfaaDoor
open Go.RowKit Go.Lib

set_option maxRecDepth 100000 in
set_option maxHeartbeats 1000000 in
theorem ref4From_crlf {w : World} {D : Nat} {F : Nat → Nat} {N T : Nat} {E : Bool} {pa : Option Addr} {cap : Nat} (h : RefF w D F N T E pa cap) (hF : ∀ j, F j < 256) (a : Nat) (ha : a < N) (hbig : N ≤ 1099511627776) (h1 : a + 1 < N) (h13 : F a = 13) (h10 : F (a + 1) = 10) :
    Calls Tryd.prog 45 #[.pointer (some ⟨D, 0, none⟩), .int .i64 a] w fun e w' => e = .returned (fromV F N a (10, 0, 2, 0)) ∧ Below w.heap.size w w' := by
  obtain ⟨k0, k1, k2⟩ := h.cells
  have hD : D < w.heap.size := (Array.getElem?_eq_some_iff.1 h.blk).1
  have hc1 := h.cap1
  have hc2 := h.cap2
  obtain ⟨b, o, rfl, hby⟩ : ∃ b o, pa = some ⟨b, o, none⟩ ∧ Bytes w b o N F := by
    rcases h.row with q | q
    · omega
    · exact q
  have x0 := hby a ha
  have hbl := block_lt_of_cell x0
  have e0 : ((a : Int) == N) = false := by simp; omega
  have g2 : (a : Int) < N := by omega
  rw [h13] at x0
  have x1 := hby (a + 1) (by omega)
  rw [h10] at x1
  have g1 : (a : Int) + 1 < N := by omega
  have c := fun W (hb : Below w.heap.size w W) => ref4Place_in (h.below hb (Nat.le_refl _)) hF a (by omega) hbig
  unfold plV at c
  unfold fromV
  dsimp only
  rw [if_pos rfl]
  generalize Rn.plc F N a = P at *
  unfold maxLen at hc2
  clear h hby
  go_enter Tryd.func45, Tryd.ntmps45
  go_wp2_with fail
  refine (c _ ((Below.refl _ _).alloc (Nat.le_refl _) _)).mono ?_
  rintro e w1 ⟨rfl, hb1⟩
  have hs : (w.alloc (.cells #[.int .i64 0, .int .i64 0, .int .i64 0, .int .i64 0, .int .i64 0, .int .i64 0] 66)).heap.size = w.heap.size + 1 := by simp
  have hR : w1.heap[w.heap.size]? = some (.cells #[.int .i64 0, .int .i64 0, .int .i64 0, .int .i64 0, .int .i64 0, .int .i64 0] 66 (0, 0)) := (hb1.block w.heap.size (by omega)).trans (heap_top _ _ rfl)
  have hs1 : w.heap.size < w1.heap.size := by have := hb1.size; omega
  have hB1 : Below w.heap.size w w1 := ((Below.refl _ _).alloc (Nat.le_refl _) _).trans (hb1.mono (by omega))
  obtain ⟨rc0, rc1, rc2, rc3, rc4, rc5⟩ := keepC hR
  obtain ⟨rz0, rz1, rz2, rz3, rz4, rz5⟩ := keepF hR
  clear c hb1 hs hR
  go_wp2
  refine bodyPost_ret (v := .tuple #[.agg #[.int .i64 10, .int .i64 (a : Nat), .int .i64 P.1, .int .i64 P.2.1, .int .i64 P.2.2, .int .i64 2], .int .i64 0]) (by simp [results, Tryd.results45, go_sem, rc0, rc1, rc2, rc3, rc4, rc5]) rfl ⟨rfl, ?_⟩
  exact (((((hB1.setCell (p := ⟨w.heap.size, 0, none⟩) (Nat.le_refl _) _).setCell (p := ⟨w.heap.size, 1, none⟩) (Nat.le_refl _) _).setCell (p := ⟨w.heap.size, 2, none⟩) (Nat.le_refl _) _).setCell (p := ⟨w.heap.size, 3, none⟩) (Nat.le_refl _) _).setCell (p := ⟨w.heap.size, 4, none⟩) (Nat.le_refl _) _).setCell (p := ⟨w.heap.size, 5, none⟩) (Nat.le_refl _) _

set_option maxRecDepth 100000 in
set_option maxHeartbeats 1000000 in
theorem ref4From_cr1 {w : World} {D : Nat} {F : Nat → Nat} {N T : Nat} {E : Bool} {pa : Option Addr} {cap : Nat} (h : RefF w D F N T E pa cap) (hF : ∀ j, F j < 256) (a : Nat) (ha : a < N) (hbig : N ≤ 1099511627776) (h1 : a + 1 < N) (h13 : F a = 13) (h10 : F (a + 1) ≠ 10) :
    Calls Tryd.prog 45 #[.pointer (some ⟨D, 0, none⟩), .int .i64 a] w fun e w' => e = .returned (fromV F N a (10, 0, 1, 0)) ∧ Below w.heap.size w w' := by
  obtain ⟨k0, k1, k2⟩ := h.cells
  have hD : D < w.heap.size := (Array.getElem?_eq_some_iff.1 h.blk).1
  have hc1 := h.cap1
  have hc2 := h.cap2
  obtain ⟨b, o, rfl, hby⟩ : ∃ b o, pa = some ⟨b, o, none⟩ ∧ Bytes w b o N F := by
    rcases h.row with q | q
    · omega
    · exact q
  have x0 := hby a ha
  have hbl := block_lt_of_cell x0
  have e0 : ((a : Int) == N) = false := by simp; omega
  have g2 : (a : Int) < N := by omega
  rw [h13] at x0
  have x1 := hby (a + 1) (by omega)
  have e1 : ((F (a + 1) : Int) == 10) = false := by simp; omega
  have g1 : (a : Int) + 1 < N := by omega
  have c := fun W (hb : Below w.heap.size w W) => ref4Place_in (h.below hb (Nat.le_refl _)) hF a (by omega) hbig
  unfold plV at c
  unfold fromV
  dsimp only
  rw [if_pos rfl]
  generalize Rn.plc F N a = P at *
  unfold maxLen at hc2
  clear h hby
  go_enter Tryd.func45, Tryd.ntmps45
  go_wp2_with fail
  refine (c _ ((Below.refl _ _).alloc (Nat.le_refl _) _)).mono ?_
  rintro e w1 ⟨rfl, hb1⟩
  have hs : (w.alloc (.cells #[.int .i64 0, .int .i64 0, .int .i64 0, .int .i64 0, .int .i64 0, .int .i64 0] 66)).heap.size = w.heap.size + 1 := by simp
  have hR : w1.heap[w.heap.size]? = some (.cells #[.int .i64 0, .int .i64 0, .int .i64 0, .int .i64 0, .int .i64 0, .int .i64 0] 66 (0, 0)) := (hb1.block w.heap.size (by omega)).trans (heap_top _ _ rfl)
  have hs1 : w.heap.size < w1.heap.size := by have := hb1.size; omega
  have hB1 : Below w.heap.size w w1 := ((Below.refl _ _).alloc (Nat.le_refl _) _).trans (hb1.mono (by omega))
  obtain ⟨rc0, rc1, rc2, rc3, rc4, rc5⟩ := keepC hR
  obtain ⟨rz0, rz1, rz2, rz3, rz4, rz5⟩ := keepF hR
  clear c hb1 hs hR
  go_wp2
  refine bodyPost_ret (v := .tuple #[.agg #[.int .i64 10, .int .i64 (a : Nat), .int .i64 P.1, .int .i64 P.2.1, .int .i64 P.2.2, .int .i64 1], .int .i64 0]) (by simp [results, Tryd.results45, go_sem, rc0, rc1, rc2, rc3, rc4, rc5]) rfl ⟨rfl, ?_⟩
  exact (((((hB1.setCell (p := ⟨w.heap.size, 0, none⟩) (Nat.le_refl _) _).setCell (p := ⟨w.heap.size, 1, none⟩) (Nat.le_refl _) _).setCell (p := ⟨w.heap.size, 2, none⟩) (Nat.le_refl _) _).setCell (p := ⟨w.heap.size, 3, none⟩) (Nat.le_refl _) _).setCell (p := ⟨w.heap.size, 4, none⟩) (Nat.le_refl _) _).setCell (p := ⟨w.heap.size, 5, none⟩) (Nat.le_refl _) _

set_option maxRecDepth 100000 in
set_option maxHeartbeats 1000000 in
theorem ref4From_cr2 {w : World} {D : Nat} {F : Nat → Nat} {N T : Nat} {pa : Option Addr} {cap : Nat} (h : RefF w D F N T true pa cap) (hF : ∀ j, F j < 256) (a : Nat) (ha : a < N) (hbig : N ≤ 1099511627776) (h1 : ¬ a + 1 < N) (h13 : F a = 13) :
    Calls Tryd.prog 45 #[.pointer (some ⟨D, 0, none⟩), .int .i64 a] w fun e w' => e = .returned (fromV F N a (10, 0, 1, 0)) ∧ Below w.heap.size w w' := by
  obtain ⟨k0, k1, k2⟩ := h.cells
  have hD : D < w.heap.size := (Array.getElem?_eq_some_iff.1 h.blk).1
  have hc1 := h.cap1
  have hc2 := h.cap2
  obtain ⟨b, o, rfl, hby⟩ : ∃ b o, pa = some ⟨b, o, none⟩ ∧ Bytes w b o N F := by
    rcases h.row with q | q
    · omega
    · exact q
  have x0 := hby a ha
  have hbl := block_lt_of_cell x0
  have e0 : ((a : Int) == N) = false := by simp; omega
  have g2 : (a : Int) < N := by omega
  rw [h13] at x0
  have g1 : ¬ (a : Int) + 1 < N := by omega
  have c := fun W (hb : Below w.heap.size w W) => ref4Place_in (h.below hb (Nat.le_refl _)) hF a (by omega) hbig
  unfold plV at c
  unfold fromV
  dsimp only
  rw [if_pos rfl]
  generalize Rn.plc F N a = P at *
  unfold maxLen at hc2
  clear h hby
  go_enter Tryd.func45, Tryd.ntmps45
  go_wp2_with fail
  refine (c _ ((Below.refl _ _).alloc (Nat.le_refl _) _)).mono ?_
  rintro e w1 ⟨rfl, hb1⟩
  have hs : (w.alloc (.cells #[.int .i64 0, .int .i64 0, .int .i64 0, .int .i64 0, .int .i64 0, .int .i64 0] 66)).heap.size = w.heap.size + 1 := by simp
  have hR : w1.heap[w.heap.size]? = some (.cells #[.int .i64 0, .int .i64 0, .int .i64 0, .int .i64 0, .int .i64 0, .int .i64 0] 66 (0, 0)) := (hb1.block w.heap.size (by omega)).trans (heap_top _ _ rfl)
  have hs1 : w.heap.size < w1.heap.size := by have := hb1.size; omega
  have hB1 : Below w.heap.size w w1 := ((Below.refl _ _).alloc (Nat.le_refl _) _).trans (hb1.mono (by omega))
  obtain ⟨rc0, rc1, rc2, rc3, rc4, rc5⟩ := keepC hR
  obtain ⟨rz0, rz1, rz2, rz3, rz4, rz5⟩ := keepF hR
  clear c hb1 hs hR
  go_wp2
  refine bodyPost_ret (v := .tuple #[.agg #[.int .i64 10, .int .i64 (a : Nat), .int .i64 P.1, .int .i64 P.2.1, .int .i64 P.2.2, .int .i64 1], .int .i64 0]) (by simp [results, Tryd.results45, go_sem, rc0, rc1, rc2, rc3, rc4, rc5]) rfl ⟨rfl, ?_⟩
  exact (((((hB1.setCell (p := ⟨w.heap.size, 0, none⟩) (Nat.le_refl _) _).setCell (p := ⟨w.heap.size, 1, none⟩) (Nat.le_refl _) _).setCell (p := ⟨w.heap.size, 2, none⟩) (Nat.le_refl _) _).setCell (p := ⟨w.heap.size, 3, none⟩) (Nat.le_refl _) _).setCell (p := ⟨w.heap.size, 4, none⟩) (Nat.le_refl _) _).setCell (p := ⟨w.heap.size, 5, none⟩) (Nat.le_refl _) _

set_option maxRecDepth 100000 in
set_option maxHeartbeats 1000000 in
theorem ref4From_crw {w : World} {D : Nat} {F : Nat → Nat} {N T : Nat} {pa : Option Addr} {cap : Nat} (h : RefF w D F N T false pa cap) (_hF : ∀ j, F j < 256) (a : Nat) (ha : a < N) (hbig : N ≤ 1099511627776) (h1 : ¬ a + 1 < N) (h13 : F a = 13) :
    Calls Tryd.prog 45 #[.pointer (some ⟨D, 0, none⟩), .int .i64 a] w fun e w' => e = .returned (fromV F N a (0, 0, 0, 1)) ∧ Below w.heap.size w w' := by
  obtain ⟨k0, k1, k2⟩ := h.cells
  have hD : D < w.heap.size := (Array.getElem?_eq_some_iff.1 h.blk).1
  have hc1 := h.cap1
  have hc2 := h.cap2
  obtain ⟨b, o, rfl, hby⟩ : ∃ b o, pa = some ⟨b, o, none⟩ ∧ Bytes w b o N F := by
    rcases h.row with q | q
    · omega
    · exact q
  have x0 := hby a ha
  have hbl := block_lt_of_cell x0
  have e0 : ((a : Int) == N) = false := by simp; omega
  have g2 : (a : Int) < N := by omega
  rw [h13] at x0
  have g1 : ¬ (a : Int) + 1 < N := by omega
  unfold fromV
  dsimp only
  rw [if_neg (by decide), if_neg (by decide)]
  unfold maxLen at hc2
  clear h hby
  go_enter Tryd.func45, Tryd.ntmps45
  go_wp2
  refine bodyPost_ret (v := .tuple #[.agg #[.int .i64 0, .int .i64 0, .int .i64 0, .int .i64 0, .int .i64 0, .int .i64 0], .int .i64 1]) (by simp [results, Tryd.results45, go_sem]) rfl ⟨rfl, ?_⟩
  exact (Below.refl _ _).alloc (Nat.le_refl _) _

set_option maxRecDepth 100000 in
set_option maxHeartbeats 1000000 in
theorem ref4From_whole {w : World} {D : Nat} {F : Nat → Nat} {N T : Nat} {E : Bool} {pa : Option Addr} {cap : Nat} (h : RefF w D F N T E pa cap) (hF : ∀ j, F j < 256) (a : Nat) (ha : a < N) (hbig : N ≤ 1099511627776) (h13 : F a ≠ 13) (hw : Rn.whole (Rn.off F a) (N - a) = true) :
    Calls Tryd.prog 45 #[.pointer (some ⟨D, 0, none⟩), .int .i64 a] w fun e w' => e = .returned (fromV F N a (Rn.fv (Rn.off F a), 0, Rn.fs (Rn.off F a) (N - a), 0)) ∧ Below w.heap.size w w' := by
  obtain ⟨k0, k1, k2⟩ := h.cells
  have hD : D < w.heap.size := (Array.getElem?_eq_some_iff.1 h.blk).1
  have hc1 := h.cap1
  have hc2 := h.cap2
  obtain ⟨b, o, rfl, hby⟩ : ∃ b o, pa = some ⟨b, o, none⟩ ∧ Bytes w b o N F := by
    rcases h.row with q | q
    · omega
    · exact q
  have x0 := hby a ha
  have hbl := block_lt_of_cell x0
  have e0 : ((a : Int) == N) = false := by simp; omega
  have g2 : (a : Int) < N := by omega
  have e1 : ((F a : Int) == 13) = false := by simp; omega
  have cN := fun W (hb : Below w.heap.size w W) => refNext_in F N b o cap a W hF ha hc1 hc2 (by omega) (hby.below hb (Nat.le_refl _))
  rw [Rn.nx_whole hw] at cN
  dsimp only at cN
  generalize Rn.fv (Rn.off F a) = r at *
  generalize Rn.fs (Rn.off F a) (N - a) = d at *
  have c := fun W (hb : Below w.heap.size w W) => ref4Place_in (h.below hb (Nat.le_refl _)) hF a (by omega) hbig
  unfold plV at c
  unfold fromV
  dsimp only
  rw [if_pos rfl]
  generalize Rn.plc F N a = P at *
  unfold maxLen at hc2
  clear h hby
  go_enter Tryd.func45, Tryd.ntmps45
  go_wp2_with fail
  refine (cN _ ((Below.refl _ _).alloc (Nat.le_refl _) _)).mono ?_
  rintro e w2 ⟨rfl, rfl⟩
  clear cN
  go_wp2_with fail
  refine (c _ ((Below.refl _ _).alloc (Nat.le_refl _) _)).mono ?_
  rintro e w1 ⟨rfl, hb1⟩
  have hs : (w.alloc (.cells #[.int .i64 0, .int .i64 0, .int .i64 0, .int .i64 0, .int .i64 0, .int .i64 0] 66)).heap.size = w.heap.size + 1 := by simp
  have hR : w1.heap[w.heap.size]? = some (.cells #[.int .i64 0, .int .i64 0, .int .i64 0, .int .i64 0, .int .i64 0, .int .i64 0] 66 (0, 0)) := (hb1.block w.heap.size (by omega)).trans (heap_top _ _ rfl)
  have hs1 : w.heap.size < w1.heap.size := by have := hb1.size; omega
  have hB1 : Below w.heap.size w w1 := ((Below.refl _ _).alloc (Nat.le_refl _) _).trans (hb1.mono (by omega))
  obtain ⟨rc0, rc1, rc2, rc3, rc4, rc5⟩ := keepC hR
  obtain ⟨rz0, rz1, rz2, rz3, rz4, rz5⟩ := keepF hR
  clear c hb1 hs hR
  go_wp2
  refine bodyPost_ret (v := .tuple #[.agg #[.int .i64 r, .int .i64 (a : Nat), .int .i64 P.1, .int .i64 P.2.1, .int .i64 P.2.2, .int .i64 d], .int .i64 0]) (by simp [results, Tryd.results45, go_sem, rc0, rc1, rc2, rc3, rc4, rc5]) rfl ⟨rfl, ?_⟩
  exact (((((hB1.setCell (p := ⟨w.heap.size, 0, none⟩) (Nat.le_refl _) _).setCell (p := ⟨w.heap.size, 1, none⟩) (Nat.le_refl _) _).setCell (p := ⟨w.heap.size, 2, none⟩) (Nat.le_refl _) _).setCell (p := ⟨w.heap.size, 3, none⟩) (Nat.le_refl _) _).setCell (p := ⟨w.heap.size, 4, none⟩) (Nat.le_refl _) _).setCell (p := ⟨w.heap.size, 5, none⟩) (Nat.le_refl _) _

set_option maxRecDepth 100000 in
set_option maxHeartbeats 1000000 in
theorem ref4From_bad {w : World} {D : Nat} {F : Nat → Nat} {N T : Nat} {E : Bool} {pa : Option Addr} {cap : Nat} (h : RefF w D F N T E pa cap) (hF : ∀ j, F j < 256) (a : Nat) (ha : a < N) (hbig : N ≤ 1099511627776) (h13 : F a ≠ 13) (hw : Rn.whole (Rn.off F a) (N - a) = false) (hx : Rn.waits (Rn.off F a) (N - a) = false) :
    Calls Tryd.prog 45 #[.pointer (some ⟨D, 0, none⟩), .int .i64 a] w fun e w' => e = .returned (fromV F N a (0, Rn.fk (Rn.off F a) (N - a), 0, 2)) ∧ Below w.heap.size w w' := by
  obtain ⟨k0, k1, k2⟩ := h.cells
  have hD : D < w.heap.size := (Array.getElem?_eq_some_iff.1 h.blk).1
  have hc1 := h.cap1
  have hc2 := h.cap2
  obtain ⟨b, o, rfl, hby⟩ : ∃ b o, pa = some ⟨b, o, none⟩ ∧ Bytes w b o N F := by
    rcases h.row with q | q
    · omega
    · exact q
  have x0 := hby a ha
  have hbl := block_lt_of_cell x0
  have e0 : ((a : Int) == N) = false := by simp; omega
  have g2 : (a : Int) < N := by omega
  have e1 : ((F a : Int) == 13) = false := by simp; omega
  have cN := fun W (hb : Below w.heap.size w W) => refNext_in F N b o cap a W hF ha hc1 hc2 (by omega) (hby.below hb (Nat.le_refl _))
  rw [Rn.nx_bad (by omega) hx hw] at cN
  have cK := fun W (hb : Below w.heap.size w W) => front_in F N b o cap a W ha (by omega) (hby.below hb (Nat.le_refl _))
  have hk := Rn.fk_le (Rn.off F a) (N - a)
  generalize Rn.fk (Rn.off F a) (N - a) = q at *
  generalize Rn.fs (Rn.off F a) (N - a) = z at *
  obtain ⟨aq, haq⟩ : ∃ aq, a + q = aq := ⟨_, rfl⟩
  have hpl : a + q = aq := haq
  have haq2 : (a : Int) + (q : Int) = (aq : Int) := by omega
  have c := fun W (hb : Below w.heap.size w W) => ref4Place_in (h.below hb (Nat.le_refl _)) hF aq (by omega) hbig
  unfold plV at c
  unfold fromV
  dsimp only
  rw [if_neg (by decide), if_pos rfl]
  rw [hpl]
  generalize Rn.plc F N aq = P at *
  unfold maxLen at hc2
  clear h hby
  go_enter Tryd.func45, Tryd.ntmps45
  go_wp2_with fail
  refine (cN _ ((Below.refl _ _).alloc (Nat.le_refl _) _)).mono ?_
  rintro e w2 ⟨rfl, rfl⟩
  clear cN
  go_wp2_with fail
  refine (cK _ ((Below.refl _ _).alloc (Nat.le_refl _) _)).mono ?_
  rintro e w3 ⟨rfl, rfl⟩
  clear cK haq hpl
  go_wp2_with fail
  refine (c _ ((Below.refl _ _).alloc (Nat.le_refl _) _)).mono ?_
  rintro e w1 ⟨rfl, hb1⟩
  have hs : (w.alloc (.cells #[.int .i64 0, .int .i64 0, .int .i64 0, .int .i64 0, .int .i64 0, .int .i64 0] 66)).heap.size = w.heap.size + 1 := by simp
  have hR : w1.heap[w.heap.size]? = some (.cells #[.int .i64 0, .int .i64 0, .int .i64 0, .int .i64 0, .int .i64 0, .int .i64 0] 66 (0, 0)) := (hb1.block w.heap.size (by omega)).trans (heap_top _ _ rfl)
  have hs1 : w.heap.size < w1.heap.size := by have := hb1.size; omega
  have hB1 : Below w.heap.size w w1 := ((Below.refl _ _).alloc (Nat.le_refl _) _).trans (hb1.mono (by omega))
  obtain ⟨rc0, rc1, rc2, rc3, rc4, rc5⟩ := keepC hR
  obtain ⟨rz0, rz1, rz2, rz3, rz4, rz5⟩ := keepF hR
  clear c hb1 hs hR
  go_wp2
  refine bodyPost_ret (v := .tuple #[.agg #[.int .i64 0, .int .i64 (aq : Nat), .int .i64 P.1, .int .i64 P.2.1, .int .i64 P.2.2, .int .i64 0], .int .i64 2]) (by simp [results, Tryd.results45, go_sem, rc0, rc1, rc2, rc3, rc4, rc5]) rfl ⟨rfl, ?_⟩
  exact (((((hB1.setCell (p := ⟨w.heap.size, 0, none⟩) (Nat.le_refl _) _).setCell (p := ⟨w.heap.size, 1, none⟩) (Nat.le_refl _) _).setCell (p := ⟨w.heap.size, 2, none⟩) (Nat.le_refl _) _).setCell (p := ⟨w.heap.size, 3, none⟩) (Nat.le_refl _) _).setCell (p := ⟨w.heap.size, 4, none⟩) (Nat.le_refl _) _).setCell (p := ⟨w.heap.size, 5, none⟩) (Nat.le_refl _) _

set_option maxRecDepth 100000 in
set_option maxHeartbeats 1000000 in
theorem ref4From_late {w : World} {D : Nat} {F : Nat → Nat} {N T : Nat} {pa : Option Addr} {cap : Nat} (h : RefF w D F N T true pa cap) (hF : ∀ j, F j < 256) (a : Nat) (ha : a < N) (hbig : N ≤ 1099511627776) (h13 : F a ≠ 13) (hx : Rn.waits (Rn.off F a) (N - a) = true) :
    Calls Tryd.prog 45 #[.pointer (some ⟨D, 0, none⟩), .int .i64 a] w fun e w' => e = .returned (fromV F N a (0, N - a, 0, 2)) ∧ Below w.heap.size w w' := by
  obtain ⟨k0, k1, k2⟩ := h.cells
  have hD : D < w.heap.size := (Array.getElem?_eq_some_iff.1 h.blk).1
  have hc1 := h.cap1
  have hc2 := h.cap2
  obtain ⟨b, o, rfl, hby⟩ : ∃ b o, pa = some ⟨b, o, none⟩ ∧ Bytes w b o N F := by
    rcases h.row with q | q
    · omega
    · exact q
  have x0 := hby a ha
  have hbl := block_lt_of_cell x0
  have e0 : ((a : Int) == N) = false := by simp; omega
  have g2 : (a : Int) < N := by omega
  have e1 : ((F a : Int) == 13) = false := by simp; omega
  have cN := fun W (hb : Below w.heap.size w W) => refNext_in F N b o cap a W hF ha hc1 hc2 (by omega) (hby.below hb (Nat.le_refl _))
  rw [(Rn.nx_waits hx).1] at cN
  dsimp only at cN
  have hpl : a + (N - a) = N := by omega
  have c := fun W (hb : Below w.heap.size w W) => ref4Place_in (h.below hb (Nat.le_refl _)) hF N (by omega) hbig
  unfold plV at c
  unfold fromV
  dsimp only
  rw [if_neg (by decide), if_pos rfl]
  rw [hpl]
  generalize Rn.plc F N N = P at *
  unfold maxLen at hc2
  clear h hby
  go_enter Tryd.func45, Tryd.ntmps45
  go_wp2_with fail
  refine (cN _ ((Below.refl _ _).alloc (Nat.le_refl _) _)).mono ?_
  rintro e w2 ⟨rfl, rfl⟩
  clear cN
  clear hpl
  go_wp2_with fail
  refine (c _ ((Below.refl _ _).alloc (Nat.le_refl _) _)).mono ?_
  rintro e w1 ⟨rfl, hb1⟩
  have hs : (w.alloc (.cells #[.int .i64 0, .int .i64 0, .int .i64 0, .int .i64 0, .int .i64 0, .int .i64 0] 66)).heap.size = w.heap.size + 1 := by simp
  have hR : w1.heap[w.heap.size]? = some (.cells #[.int .i64 0, .int .i64 0, .int .i64 0, .int .i64 0, .int .i64 0, .int .i64 0] 66 (0, 0)) := (hb1.block w.heap.size (by omega)).trans (heap_top _ _ rfl)
  have hs1 : w.heap.size < w1.heap.size := by have := hb1.size; omega
  have hB1 : Below w.heap.size w w1 := ((Below.refl _ _).alloc (Nat.le_refl _) _).trans (hb1.mono (by omega))
  obtain ⟨rc0, rc1, rc2, rc3, rc4, rc5⟩ := keepC hR
  obtain ⟨rz0, rz1, rz2, rz3, rz4, rz5⟩ := keepF hR
  clear c hb1 hs hR
  go_wp2
  refine bodyPost_ret (v := .tuple #[.agg #[.int .i64 0, .int .i64 (N : Nat), .int .i64 P.1, .int .i64 P.2.1, .int .i64 P.2.2, .int .i64 0], .int .i64 2]) (by simp [results, Tryd.results45, go_sem, rc0, rc1, rc2, rc3, rc4, rc5]) rfl ⟨rfl, ?_⟩
  exact (((((hB1.setCell (p := ⟨w.heap.size, 0, none⟩) (Nat.le_refl _) _).setCell (p := ⟨w.heap.size, 1, none⟩) (Nat.le_refl _) _).setCell (p := ⟨w.heap.size, 2, none⟩) (Nat.le_refl _) _).setCell (p := ⟨w.heap.size, 3, none⟩) (Nat.le_refl _) _).setCell (p := ⟨w.heap.size, 4, none⟩) (Nat.le_refl _) _).setCell (p := ⟨w.heap.size, 5, none⟩) (Nat.le_refl _) _

set_option maxRecDepth 100000 in
set_option maxHeartbeats 1000000 in
theorem ref4From_wait {w : World} {D : Nat} {F : Nat → Nat} {N T : Nat} {pa : Option Addr} {cap : Nat} (h : RefF w D F N T false pa cap) (hF : ∀ j, F j < 256) (a : Nat) (ha : a < N) (hbig : N ≤ 1099511627776) (h13 : F a ≠ 13) (hx : Rn.waits (Rn.off F a) (N - a) = true) :
    Calls Tryd.prog 45 #[.pointer (some ⟨D, 0, none⟩), .int .i64 a] w fun e w' => e = .returned (fromV F N a (0, 0, 0, 1)) ∧ Below w.heap.size w w' := by
  obtain ⟨k0, k1, k2⟩ := h.cells
  have hD : D < w.heap.size := (Array.getElem?_eq_some_iff.1 h.blk).1
  have hc1 := h.cap1
  have hc2 := h.cap2
  obtain ⟨b, o, rfl, hby⟩ : ∃ b o, pa = some ⟨b, o, none⟩ ∧ Bytes w b o N F := by
    rcases h.row with q | q
    · omega
    · exact q
  have x0 := hby a ha
  have hbl := block_lt_of_cell x0
  have e0 : ((a : Int) == N) = false := by simp; omega
  have g2 : (a : Int) < N := by omega
  have e1 : ((F a : Int) == 13) = false := by simp; omega
  have cN := fun W (hb : Below w.heap.size w W) => refNext_in F N b o cap a W hF ha hc1 hc2 (by omega) (hby.below hb (Nat.le_refl _))
  rw [(Rn.nx_waits hx).1] at cN
  dsimp only at cN
  unfold fromV
  dsimp only
  rw [if_neg (by decide), if_neg (by decide)]
  unfold maxLen at hc2
  clear h hby
  go_enter Tryd.func45, Tryd.ntmps45
  go_wp2_with fail
  refine (cN _ ((Below.refl _ _).alloc (Nat.le_refl _) _)).mono ?_
  rintro e w2 ⟨rfl, rfl⟩
  clear cN
  go_wp2
  refine bodyPost_ret (v := .tuple #[.agg #[.int .i64 0, .int .i64 0, .int .i64 0, .int .i64 0, .int .i64 0, .int .i64 0], .int .i64 1]) (by simp [results, Tryd.results45, go_sem]) rfl ⟨rfl, ?_⟩
  exact (Below.refl _ _).alloc (Nat.le_refl _) _

theorem ref4From_any {w : World} {D : Nat} {F : Nat → Nat} {N T : Nat} {E : Bool} {pa : Option Addr} {cap : Nat} (h : RefF w D F N T E pa cap) (hF : ∀ j, F j < 256) (a : Nat) (ha : a ≤ N) (hbig : N ≤ 1099511627776) :
    Calls Tryd.prog 45 #[.pointer (some ⟨D, 0, none⟩), .int .i64 a] w fun e w' => e = .returned (fromV F N a (Fd.pk F N a E)) ∧ Below w.heap.size w w' := by
  by_cases hlt : a < N
  · by_cases h13 : F a = 13
    · obtain ⟨s1, s2, s3⟩ := Fd.small_whole (f := Rn.off F a) (n := N - a) (by show F (a + 0) < 128; rw [Nat.add_zero, h13]; omega) (by omega)
      have s4 : Rn.fv (Rn.off F a) = 13 := by rw [s3]; show F (a + 0) = 13; rw [Nat.add_zero, h13]
      unfold Fd.pk
      rw [if_pos s1, if_pos s4]
      by_cases h1 : a + 1 < N
      · rw [if_pos h1]
        by_cases h10 : F (a + 1) = 10
        · rw [if_pos h10]
          exact ref4From_crlf h hF a hlt hbig h1 h13 h10
        · rw [if_neg h10]
          exact ref4From_cr1 h hF a hlt hbig h1 h13 h10
      · rw [if_neg h1]
        cases E with
        | true => exact ref4From_cr2 h hF a hlt hbig h1 h13
        | false => exact ref4From_crw h hF a hlt hbig h1 h13
    · unfold Fd.pk
      cases hw : Rn.whole (Rn.off F a) (N - a)
      · rw [if_neg Bool.false_ne_true, if_neg (by omega)]
        cases hx : Rn.waits (Rn.off F a) (N - a)
        · rw [if_neg Bool.false_ne_true]
          exact ref4From_bad h hF a hlt hbig h13 hw hx
        · rw [if_pos rfl]
          cases E with
          | true => exact ref4From_late h hF a hlt hbig h13 hx
          | false => exact ref4From_wait h hF a hlt hbig h13 hx
      · have hv : Rn.fv (Rn.off F a) ≠ 13 := fun e => by
          have := ((Fd.whole_cr hw).1 e).2
          exact h13 (by have h0 : Rn.off F a 0 = F (a + 0) := rfl; rw [h0, Nat.add_zero] at this; exact this)
        rw [if_pos rfl, if_neg hv]
        exact ref4From_whole h hF a hlt hbig h13 hw
  · obtain rfl : a = N := by omega
    have hp : fromV F a a (Fd.pk F a a E) = .tuple #[.agg #[.int .i64 0, .int .i64 0, .int .i64 0, .int .i64 0, .int .i64 0, .int .i64 0], .int .i64 (if E then 3 else 1 : Nat)] := by
      have hw : Rn.whole (Rn.off F a) (a - a) = false := by
        unfold Rn.whole Rn.fs
        rw [if_pos (by omega)]
        rfl
      unfold Fd.pk
      rw [hw, if_neg Bool.false_ne_true, if_pos (Nat.le_refl _)]
      cases E <;> rfl
    rw [hp]
    exact ref4From_end h
end Go.Proofs.YtbfabpjhdhhpfaaDoor
