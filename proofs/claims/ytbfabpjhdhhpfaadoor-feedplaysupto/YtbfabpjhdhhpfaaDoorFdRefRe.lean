import Derived.Test.YtbfabpjhdhhpfaaDoorFdRefFrom
import Derived.Laws.AppendOwnNone
/-
  WALKS over the document's Feed: End, Peek, Next, Place.
-/
namespace Go.Proofs.YtbfabpjhdhhpfaaDoor
open Go.RowKit Go.Lib

/-- the document's Feed at a block, and the row of its bytes -/
def Ref4 (w : World) (D B : Nat) (v : Value) (F : Nat → Nat) (N T : Nat) (E : Bool) : Prop :=
  w.heap[D]? = some (.cells #[v, .int .i64 T, .bool E] 29 (0, 0)) ∧ w.ownsRow B 5 1 v N (xs F N)
section
variable {w w' : World} {D B : Nat} {v : Value} {F : Nat → Nat} {N T : Nat} {E : Bool}
theorem Ref4.refF (h : Ref4 w D B v F N T E) : ∃ pa cap, v = .slice pa N cap ∧ RefF w D F N T E pa cap := by
  obtain ⟨h1, h2⟩ := h
  rcases h2.2 with ⟨e1, e2⟩ | ⟨g, cap, cur, e1, e2, e3, e4, e5, e6, e7⟩
  · subst e2
    exact ⟨none, 0, e1, ⟨by rw [h1, e1], Nat.le_refl _, by unfold maxLen; omega, fun _ => rfl, .inl rfl⟩⟩
  · subst e1
    exact ⟨_, cap, rfl, ⟨h1, e4, e5, (fun e => by cases e), .inr ⟨g, 0, rfl, bytes_of_owns h2⟩⟩⟩
theorem Ref4.block_ne (h : Ref4 w D B v F N T E) : v.ownBlock ≠ some D := by
  intro e
  rcases h.2.2 with ⟨h1, _⟩ | ⟨q, cap, cur, hv, hb, hg, rest⟩
  · rw [h1] at e; cases e
  · rw [hv] at e
    have : q = D := Option.some.inj e
    subst this
    have := h.1
    rw [hg] at this
    simp at this
theorem Ref4.cell (h : Ref4 w D B v F N T E) : w.cell? ⟨D, 0, none⟩ = some v ∧ w.cell? ⟨D, 1, none⟩ = some (.int .i64 T) ∧ w.cell? ⟨D, 2, none⟩ = some (.bool E) := by
  refine ⟨?_, ?_, ?_⟩ <;> (rw [Lib.cell_of_heap h.1]; rfl)
theorem Ref4.fz (h : Ref4 w D B v F N T E) (i : Nat) : w.frozen? ⟨D, i, none⟩ = false := Lib.frozen_of_heap h.1 i
theorem Ref4.lt (h : Ref4 w D B v F N T E) : D < w.heap.size := block_lt_of_cell h.cell.1
theorem Ref4.below (h : Ref4 w D B v F N T E) (hb : Below w.heap.size w w') : Ref4 w' D B v F N T E :=
  ⟨(hb.block D h.lt).trans h.1, h.2.kept_below hb⟩

set_option maxHeartbeats 400000 in
theorem ref4End_any (h : Ref4 w D B v F N T false) :
    Calls Tryd.prog 23 #[.pointer (some ⟨D, 0, none⟩)] w fun e w' => e = .returned (.int .i64 0) ∧ Ref4 w' D B v F N T true ∧ But D w w' := by
  obtain ⟨_, _, c2⟩ := h.cell
  have H := hide' h
  have f2 := h.fz 2
  clear h
  go_enter Tryd.func23, Tryd.ntmps23
  go_wp2
  go_ret
  exact ⟨rfl, ⟨Go.Joins.block_setCell (i := 2) H.out.1 _, H.out.2.setOther H.out.block_ne _⟩, (But.of_below (Below.refl _ _)).setCell (p := ⟨D, 2, none⟩) rfl _⟩
set_option maxHeartbeats 400000 in
theorem ref4End_ended (h : Ref4 w D B v F N T true) :
    Calls Tryd.prog 23 #[.pointer (some ⟨D, 0, none⟩)] w fun e w' => e = .returned (.int .i64 5) ∧ w' = w := by
  obtain ⟨_, _, c2⟩ := h.cell
  clear h
  go_enter Tryd.func23, Tryd.ntmps23
  go_wp2
  go_ret
  exact ⟨rfl, rfl⟩
set_option maxHeartbeats 400000 in
theorem ref4Push_ended (h : Ref4 w D B v F N T true) (b : Value) :
    Calls Tryd.prog 22 #[.pointer (some ⟨D, 0, none⟩), b] w fun e w' => e = .returned (.int .i64 5) ∧ w' = w := by
  obtain ⟨_, _, c2⟩ := h.cell
  clear h
  go_enter Tryd.func22, Tryd.ntmps22
  go_wp2
  go_ret
  exact ⟨rfl, rfl⟩
/-- what from answers is a tuple of a Char and a number -/
theorem fromV_form (F : Nat → Nat) (N a : Nat) (x : Nat × Nat × Nat × Nat) : ∃ y0 y1 y2 y3 y4 y5 : Nat, fromV F N a x = .tuple #[.agg #[.int .i64 y0, .int .i64 y1, .int .i64 y2, .int .i64 y3, .int .i64 y4, .int .i64 y5], .int .i64 x.2.2.2] ∧ (x.2.2.2 = 0 → y5 = x.2.2.1) := by
  unfold fromV
  split
  · next h => exact ⟨x.1, a, _, _, _, x.2.2.1, by rw [h]; rfl, fun _ => rfl⟩
  · next h =>
    split
    · next h2 => exact ⟨0, a + x.2.1, _, _, _, 0, by rw [h2]; rfl, fun e => absurd e h⟩
    · exact ⟨0, 0, 0, 0, 0, 0, rfl, fun e => absurd e h⟩
set_option maxRecDepth 100000 in
set_option maxHeartbeats 1000000 in
theorem ref4Peek_any (h : Ref4 w D B v F N T E) (hF : ∀ j, F j < 256) (hTN : T ≤ N) (hbig : N ≤ 1099511627776) :
    Calls Tryd.prog 24 #[.pointer (some ⟨D, 0, none⟩)] w fun e w' => e = .returned (fromV F N T (Fd.pk F N T E)) ∧ Below w.heap.size w w' := by
  obtain ⟨c0, c1, c2⟩ := h.cell
  obtain ⟨pa, cap, rfl, hR⟩ := h.refF
  have c := fun W (hb : Below w.heap.size w W) => ref4From_any (hR.below hb (Nat.le_refl _)) hF T hTN hbig
  have hD := h.lt
  obtain ⟨y0, y1, y2, y3, y4, y5, hy, -⟩ := fromV_form F N T (Fd.pk F N T E)
  rw [hy] at c ⊢
  generalize (Fd.pk F N T E).2.2.2 = X at *
  clear h hR hy
  go_enter Tryd.func24, Tryd.ntmps24
  go_wp2_with fail
  refine (c _ ((Below.refl _ _).alloc (Nat.le_refl _) _)).mono ?_
  rintro e w1 ⟨rfl, hb1⟩
  have hs : (w.alloc (.cells #[.int .i64 0, .int .i64 0, .int .i64 0, .int .i64 0, .int .i64 0, .int .i64 0] 66)).heap.size = w.heap.size + 1 := by simp
  have hR : w1.heap[w.heap.size]? = some (.cells #[.int .i64 0, .int .i64 0, .int .i64 0, .int .i64 0, .int .i64 0, .int .i64 0] 66 (0, 0)) := (hb1.block w.heap.size (by omega)).trans (heap_top _ _ rfl)
  have hB1 : Below w.heap.size w w1 := ((Below.refl _ _).alloc (Nat.le_refl _) _).trans (hb1.mono (by omega))
  obtain ⟨rc0, rc1, rc2, rc3, rc4, rc5⟩ := keepC hR
  obtain ⟨rz0, rz1, rz2, rz3, rz4, rz5⟩ := keepF hR
  clear c hb1 hs hR
  go_wp2
  refine bodyPost_ret (v := .tuple #[.agg #[.int .i64 y0, .int .i64 y1, .int .i64 y2, .int .i64 y3, .int .i64 y4, .int .i64 y5], .int .i64 X]) (by simp [results, Tryd.results24, go_sem, rc0, rc1, rc2, rc3, rc4, rc5]) rfl ⟨rfl, ?_⟩
  exact (((((hB1.setCell (p := ⟨w.heap.size, 0, none⟩) (Nat.le_refl _) _).setCell (p := ⟨w.heap.size, 1, none⟩) (Nat.le_refl _) _).setCell (p := ⟨w.heap.size, 2, none⟩) (Nat.le_refl _) _).setCell (p := ⟨w.heap.size, 3, none⟩) (Nat.le_refl _) _).setCell (p := ⟨w.heap.size, 4, none⟩) (Nat.le_refl _) _).setCell (p := ⟨w.heap.size, 5, none⟩) (Nat.le_refl _) _
set_option maxRecDepth 100000 in
set_option maxHeartbeats 1000000 in
theorem ref4Place_any (h : Ref4 w D B v F N T E) (hF : ∀ j, F j < 256) (hTN : T ≤ N) (hbig : N ≤ 1099511627776) :
    Calls Tryd.prog 29 #[.pointer (some ⟨D, 0, none⟩)] w fun e w' => e = .returned (plV F N T) ∧ Below w.heap.size w w' := by
  obtain ⟨c0, c1, c2⟩ := h.cell
  obtain ⟨pa, cap, rfl, hR⟩ := h.refF
  have c := fun W (hb : Below w.heap.size w W) => ref4Place_in (hR.below hb (Nat.le_refl _)) hF T hTN hbig
  have hD := h.lt
  unfold plV at *
  generalize Rn.plc F N T = P at *
  clear h hR
  go_enter Tryd.func29, Tryd.ntmps29
  go_wp2_with fail
  refine (c _ ((Below.refl _ _).alloc (Nat.le_refl _) _)).mono ?_
  rintro e w1 ⟨rfl, hb1⟩
  have hs : (w.alloc (.cells #[.int .i64 0, .int .i64 0, .int .i64 0, .int .i64 0] 64)).heap.size = w.heap.size + 1 := by simp
  have hR : w1.heap[w.heap.size]? = some (.cells #[.int .i64 0, .int .i64 0, .int .i64 0, .int .i64 0] 64 (0, 0)) := (hb1.block w.heap.size (by omega)).trans (heap_top _ _ rfl)
  have hB1 : Below w.heap.size w w1 := ((Below.refl _ _).alloc (Nat.le_refl _) _).trans (hb1.mono (by omega))
  have rc0 : w1.cell? ⟨w.heap.size, 0, none⟩ = some (.int .i64 0) := by rw [Lib.cell_of_heap hR]; rfl
  have rc1 : w1.cell? ⟨w.heap.size, 1, none⟩ = some (.int .i64 0) := by rw [Lib.cell_of_heap hR]; rfl
  have rc2 : w1.cell? ⟨w.heap.size, 2, none⟩ = some (.int .i64 0) := by rw [Lib.cell_of_heap hR]; rfl
  have rc3 : w1.cell? ⟨w.heap.size, 3, none⟩ = some (.int .i64 0) := by rw [Lib.cell_of_heap hR]; rfl
  obtain ⟨rz0, rz1, rz2, rz3, -, -⟩ := keepF hR
  clear c hb1 hs hR
  go_wp2
  refine bodyPost_ret (v := .agg #[.int .i64 T, .int .i64 P.1, .int .i64 P.2.1, .int .i64 P.2.2]) (by simp [results, Tryd.results29, go_sem, rc0, rc1, rc2, rc3]) rfl ⟨rfl, ?_⟩
  exact (((hB1.setCell (p := ⟨w.heap.size, 0, none⟩) (Nat.le_refl _) _).setCell (p := ⟨w.heap.size, 1, none⟩) (Nat.le_refl _) _).setCell (p := ⟨w.heap.size, 2, none⟩) (Nat.le_refl _) _).setCell (p := ⟨w.heap.size, 3, none⟩) (Nat.le_refl _) _
end
end Go.Proofs.YtbfabpjhdhhpfaaDoor
/-
  WALKS over the document's Feed: Next, Push.
-/
namespace Go.Proofs.YtbfabpjhdhhpfaaDoor
open Go.RowKit Go.Lib
section
variable {w w' : World} {D B : Nat} {v : Value} {F : Nat → Nat} {N T : Nat} {E : Bool}
theorem own_keep {e : TypeId} {k n : Nat} {ys : List Value} (h : w.ownsRow B e k v n ys) (hq : ∀ q, v.ownBlock = some q → w'.heap[q]? = w.heap[q]?) : w'.ownsRow B e k v n ys := by
  refine ⟨h.1, ?_⟩
  rcases h.2 with q | ⟨g, cap, cur, e1, e2, e3, rest⟩
  · exact .inl q
  · exact .inr ⟨g, cap, cur, e1, e2, (hq g (by rw [e1]; rfl)).trans e3, rest⟩
theorem own_block_lt {e : TypeId} {k n : Nat} {ys : List Value} (h : w.ownsRow B e k v n ys) {q : Nat} (hq : v.ownBlock = some q) : q < w.heap.size ∧ B ≤ q := by
  rcases h.2 with ⟨e1, _⟩ | ⟨g, cap, cur, e1, e2, e3, rest⟩
  · rw [e1] at hq; cases hq
  · rw [e1] at hq
    have : g = q := Option.some.inj hq
    subst this
    exact ⟨(Array.getElem?_eq_some_iff.1 e3).1, e2⟩
theorem Ref4.keep (h : Ref4 w D B v F N T E) (hD : w'.heap[D]? = w.heap[D]?) (hq : ∀ q, v.ownBlock = some q → w'.heap[q]? = w.heap[q]?) : Ref4 w' D B v F N T E :=
  ⟨hD.trans h.1, own_keep h.2 hq⟩

set_option maxRecDepth 100000 in
set_option maxHeartbeats 1000000 in
theorem ref4Next_any (h : Ref4 w D B v F N T E) (hF : ∀ j, F j < 256) (hTN : T ≤ N) (hbig : N ≤ 1099511627776) :
    Calls Tryd.prog 26 #[.pointer (some ⟨D, 0, none⟩)] w fun e w' => e = .returned (fromV F N T (Fd.pk F N T E)) ∧ Ref4 w' D B v F N (T + (Fd.pk F N T E).2.2.1) E ∧ But D w w' := by
  obtain ⟨c0, c1, c2⟩ := h.cell
  have hno := Fd.pk_no (F := F) (N := N) (T := T) (E := E)
  have hps := Fd.pk_pos (F := F) (N := N) (T := T) (E := E)
  have hD := h.lt
  have H := hide' h
  obtain ⟨pa, cap, rfl, hR⟩ := h.refF
  have c := fun W (hb : Below w.heap.size w W) => ref4From_any (hR.below hb (Nat.le_refl _)) hF T hTN hbig
  obtain ⟨y0, y1, y2, y3, y4, y5, hy, hy5⟩ := fromV_form F N T (Fd.pk F N T E)
  rw [hy] at c ⊢
  generalize (Fd.pk F N T E).2.2.2 = X at *
  generalize (Fd.pk F N T E).2.2.1 = d at *
  clear h hR hy
  by_cases hX : X = 0
  · subst hX
    obtain rfl : y5 = d := hy5 rfl
    obtain ⟨h1, h2, h3⟩ := hps rfl
    clear hps hno hy5
    go_enter Tryd.func26, Tryd.ntmps26
    go_wp2_with fail
    refine (c _ ((Below.refl _ _).alloc (Nat.le_refl _) _)).mono ?_
    rintro e w1 ⟨rfl, hb1⟩
    have hs : (w.alloc (.cells #[.int .i64 0, .int .i64 0, .int .i64 0, .int .i64 0, .int .i64 0, .int .i64 0] 66)).heap.size = w.heap.size + 1 := by simp
    have hR : w1.heap[w.heap.size]? = some (.cells #[.int .i64 0, .int .i64 0, .int .i64 0, .int .i64 0, .int .i64 0, .int .i64 0] 66 (0, 0)) := (hb1.block w.heap.size (by omega)).trans (heap_top _ _ rfl)
    have hB1 : Below w.heap.size w w1 := ((Below.refl _ _).alloc (Nat.le_refl _) _).trans (hb1.mono (by omega))
    have hs1 : w.heap.size < w1.heap.size := by have := hb1.size; omega
    have hH1 := H.out.below hB1
    obtain ⟨d0, d1, d2⟩ := hH1.cell
    have z1 := hH1.fz 1
    obtain ⟨rc0, rc1, rc2, rc3, rc4, rc5⟩ := keepC hR
    obtain ⟨rz0, rz1, rz2, rz3, rz4, rz5⟩ := keepF hR
    have hD1 : D < w1.heap.size := by omega
    have hne : D ≠ w.heap.size := by omega
    have hne1 : D ≠ w1.heap.size := by omega
    have hne2 : w.heap.size ≠ w1.heap.size := by omega
    have HH1 := hide' hH1
    have HB1 := hide' hB1
    clear c hb1 hs hR c0 c1 c2 hH1 hB1
    go_wp2
    go_region
    go_wp2
    refine bodyPost_ret (v := .tuple #[.agg #[.int .i64 y0, .int .i64 y1, .int .i64 y2, .int .i64 y3, .int .i64 y4, .int .i64 y5], .int .i64 0]) (by simp [results, Tryd.results26, go_sem, World.cell?_alloc_lt, hs1, rc0, rc1, rc2, rc3, rc4, rc5]) rfl ⟨rfl, ?_⟩
    have key : ∀ W', But w.heap.size (w1.setCell ⟨D, 1, none⟩ (.int .i64 ((T : Int) + (y5 : Int)))) W' → Ref4 W' D B (.slice pa N cap) F N (T + y5) E ∧ But D w W' := by
      intro W' hX
      have h0 := HH1.out
      have hb4 := (But.of_below (D := D) (Below.refl _ w1)).setCell (p := ⟨D, 1, none⟩) rfl (.int .i64 ((T : Int) + (y5 : Int)))
      have h4 : Ref4 (w1.setCell ⟨D, 1, none⟩ (.int .i64 ((T : Int) + (y5 : Int)))) D B (.slice pa N cap) F N (T + y5) E := ⟨Go.Joins.block_setCell (i := 1) h0.1 _, h0.2.setOther h0.block_ne _⟩
      have hs4 := h4.lt
      have hs5 := hb4.size
      refine ⟨h4.keep (hX.block D hs4 (by omega)) (fun q hq => hX.block q (by have := (own_block_lt H.out.2 hq).1; omega) (by have := (own_block_lt H.out.2 hq).1; omega)), ?_⟩
      exact ⟨hX.os.trans (hb4.os.trans HB1.out.os), hX.tape.trans (hb4.tape.trans HB1.out.tape), hX.output.trans (hb4.output.trans HB1.out.output), Nat.le_trans HB1.out.size (Nat.le_trans hb4.size hX.size), fun k hk hn => (hX.block k (by omega) (by omega)).trans ((hb4.block k (by omega) hn).trans (HB1.out.block k hk))⟩
    have hc := ((((((But.of_below (D := w.heap.size) (Below.refl _ (w1.setCell ⟨D, 1, none⟩ (.int .i64 ((T : Int) + (y5 : Int)))))).setCell (p := ⟨w.heap.size, 0, none⟩) rfl (.int .i64 y0)).setCell (p := ⟨w.heap.size, 1, none⟩) rfl (.int .i64 y1)).setCell (p := ⟨w.heap.size, 2, none⟩) rfl (.int .i64 y2)).setCell (p := ⟨w.heap.size, 3, none⟩) rfl (.int .i64 y3)).setCell (p := ⟨w.heap.size, 4, none⟩) rfl (.int .i64 y4)).setCell (p := ⟨w.heap.size, 5, none⟩) rfl (.int .i64 y5)
    exact key _ (hc.then (((Below.refl _ _).alloc hc.size _).drew))
  · obtain rfl : d = 0 := hno hX
    have eX : ((X : Int) == 0) = false := by simp; omega
    clear hps hno hy5
    go_enter Tryd.func26, Tryd.ntmps26
    go_wp2_with fail
    refine (c _ ((Below.refl _ _).alloc (Nat.le_refl _) _)).mono ?_
    rintro e w1 ⟨rfl, hb1⟩
    have hs : (w.alloc (.cells #[.int .i64 0, .int .i64 0, .int .i64 0, .int .i64 0, .int .i64 0, .int .i64 0] 66)).heap.size = w.heap.size + 1 := by simp
    have hR : w1.heap[w.heap.size]? = some (.cells #[.int .i64 0, .int .i64 0, .int .i64 0, .int .i64 0, .int .i64 0, .int .i64 0] 66 (0, 0)) := (hb1.block w.heap.size (by omega)).trans (heap_top _ _ rfl)
    have hB1 : Below w.heap.size w w1 := ((Below.refl _ _).alloc (Nat.le_refl _) _).trans (hb1.mono (by omega))
    have hs1 : w.heap.size < w1.heap.size := by have := hb1.size; omega
    have hH1 := H.out.below hB1
    obtain ⟨d0, d1, d2⟩ := hH1.cell
    have z1 := hH1.fz 1
    obtain ⟨rc0, rc1, rc2, rc3, rc4, rc5⟩ := keepC hR
    obtain ⟨rz0, rz1, rz2, rz3, rz4, rz5⟩ := keepF hR
    have hD1 : D < w1.heap.size := by omega
    have hne : D ≠ w.heap.size := by omega
    have hne1 : D ≠ w1.heap.size := by omega
    have hne2 : w.heap.size ≠ w1.heap.size := by omega
    have HH1 := hide' hH1
    have HB1 := hide' hB1
    clear c hb1 hs hR c0 c1 c2 hH1 hB1
    go_wp2
    refine bodyPost_ret (v := .tuple #[.agg #[.int .i64 y0, .int .i64 y1, .int .i64 y2, .int .i64 y3, .int .i64 y4, .int .i64 y5], .int .i64 X]) (by simp [results, Tryd.results26, go_sem, World.cell?_alloc_lt, hs1, rc0, rc1, rc2, rc3, rc4, rc5]) rfl ⟨rfl, ?_⟩
    have key : ∀ W', But w.heap.size w1 W' → Ref4 W' D B (.slice pa N cap) F N (T + 0) E ∧ But D w W' := by
      intro W' hX
      have h0 := HH1.out
      have hb4 := But.of_below (D := D) (Below.refl _ w1)
      have h4 : Ref4 w1 D B (.slice pa N cap) F N (T + 0) E := h0
      have hs4 := h4.lt
      have hs5 := hb4.size
      refine ⟨h4.keep (hX.block D hs4 (by omega)) (fun q hq => hX.block q (by have := (own_block_lt H.out.2 hq).1; omega) (by have := (own_block_lt H.out.2 hq).1; omega)), ?_⟩
      exact ⟨hX.os.trans (hb4.os.trans HB1.out.os), hX.tape.trans (hb4.tape.trans HB1.out.tape), hX.output.trans (hb4.output.trans HB1.out.output), Nat.le_trans HB1.out.size (Nat.le_trans hb4.size hX.size), fun k hk hn => (hX.block k (by omega) (by omega)).trans ((hb4.block k (by omega) hn).trans (HB1.out.block k hk))⟩
    have hc := ((((((But.of_below (D := w.heap.size) (Below.refl _ w1)).setCell (p := ⟨w.heap.size, 0, none⟩) rfl (.int .i64 y0)).setCell (p := ⟨w.heap.size, 1, none⟩) rfl (.int .i64 y1)).setCell (p := ⟨w.heap.size, 2, none⟩) rfl (.int .i64 y2)).setCell (p := ⟨w.heap.size, 3, none⟩) rfl (.int .i64 y3)).setCell (p := ⟨w.heap.size, 4, none⟩) rfl (.int .i64 y4)).setCell (p := ⟨w.heap.size, 5, none⟩) rfl (.int .i64 y5)
    exact key _ (hc.then ((Below.refl _ _).alloc hc.size _))
end
end Go.Proofs.YtbfabpjhdhhpfaaDoor
/-
  WALKS over the document's Feed: Push.
-/
namespace Go.Proofs.YtbfabpjhdhhpfaaDoor
open Go.RowKit Go.Lib
section
variable {w w' : World} {D B : Nat} {v : Value} {F : Nat → Nat} {N T : Nat} {E : Bool}

set_option maxRecDepth 100000 in
set_option maxHeartbeats 1000000 in
theorem ref4Push_any {G f : Nat → Nat} (h : Ref4 w D B v F N T false) (hBw : B ≤ w.heap.size) (ad : Addr) (m c : Nat) (hG1 : ∀ j, j < N → G j = F j) (hG2 : ∀ j, j < m → G (N + j) = f j) (hc : ∀ j u, (xs f m)[j]? = some u → w.cell? (ad.add j) = some u) (hlen : N + m ≤ 140737488355328) :
    Calls Tryd.prog 22 #[.pointer (some ⟨D, 0, none⟩), .slice (some ad) m c] w fun e w' => e = .returned (.int .i64 0) ∧ ∃ v', Ref4 w' D B v' G (N + m) T false ∧ (v'.ownBlock = v.ownBlock ∨ v'.ownBlock = some w.heap.size) ∧ ButF D v w w' := by
  obtain ⟨i0, hi, hz0, hz1, hz2⟩ := info_parts infoByte'
  obtain ⟨c0, c1, c2⟩ := h.cell
  have hlt := h.lt
  have H := hide' h
  have hown := h.2
  have hne := h.block_ne
  have f0 := h.fz 0
  clear h
  go_enter Tryd.func22, Tryd.ntmps22
  go_wp2_with (at_builtin; refine wpList_append_own_at _ rfl _ _ 27 rfl B 5 i0 (.int .u8 0) 1 1 Tryd.underlying27 hi hz0 hz1 hz2 rfl (by decide) v N (xs F N) rfl hown ad m c (xs f m) rfl ?b0 hc (one_cell f m) ?b1 ?b2 ?b3 ?_)
  case b0 => first | exact xs_length f m | (rw [xs_length]; omega)
  case b1 => unfold maxLen; omega
  case b2 => omega
  case b3 => exact hBw
  intro v1 w1 hown1 hgrow1 hnn1 hat1
  rw [xs_join F f G N m hG1 hG2] at hown1
  have hD1 : w1.heap[D]? = w.heap[D]? := hgrow1.block D hlt (fun e => hne e.symm)
  have hF1 : Ref4 (w1.setCell ⟨D, 0, none⟩ v1) D B v1 G (N + m) T false := by
    have hb : v1.ownBlock ≠ some D := by
      intro e
      rcases hat1 with e1 | e1
      · exact hne (by rw [← e1, e])
      · rw [e] at e1
        have := Option.some.inj e1
        omega
    exact ⟨Go.Joins.block_setCell (i := 0) (hD1.trans H.out.1) _, hown1.setOther hb _⟩
  have hBu1 : ButF D v w (w1.setCell ⟨D, 0, none⟩ v1) := by
    have : ButF D v w w1 := ⟨hgrow1.os, hgrow1.tape, hgrow1.output, hgrow1.size, fun k hk _ hv => hgrow1.block k hk (fun e => hv e.symm)⟩
    exact this.setCell rfl _
  have hx0 : w1.cell? ⟨D, 0, none⟩ = some v := (World.cell?_of_block (a := ⟨D, 0, none⟩) hD1).trans c0
  have hxf : w1.frozen? ⟨D, 0, none⟩ = false := (World.frozen?_of_block (a := ⟨D, 0, none⟩) hD1).trans f0
  have hv1 : v1.cells = #[v1] := by
    rcases hown1.2 with ⟨e1, _⟩ | ⟨q, cap, cur, e1, _⟩ <;> rw [e1] <;> rfl
  have HF := hide' hF1
  have HB := hide' hBu1
  have HA := hide' hat1
  obtain ⟨p1, n1, cap1, rfl⟩ : ∃ p1 n1 cap1, v1 = .slice p1 n1 cap1 := by
    rcases hown1.2 with ⟨e1, _⟩ | ⟨q, cap, cur, e1, _⟩
    · exact ⟨_, _, _, e1⟩
    · exact ⟨_, _, _, e1⟩
  clear hown hc hown1 hgrow1 hnn1 hat1 hD1 H c1 c0 f0 hlen hG1 hG2 hF1 hBu1 hv1
  go_wp2
  go_ret
  exact ⟨rfl, _, HF.out, HA.out, HB.out⟩
set_option maxRecDepth 100000 in
set_option maxHeartbeats 1000000 in
theorem ref4Push_nil (h : Ref4 w D B v F N T false) :
    Calls Tryd.prog 22 #[.pointer (some ⟨D, 0, none⟩), .slice none 0 0] w fun e w' => e = .returned (.int .i64 0) ∧ Ref4 w' D B v F N T false ∧ But D w w' := by
  obtain ⟨i0, hi, hz0, hz1, hz2⟩ := info_parts infoByte'
  obtain ⟨c0, c1, c2⟩ := h.cell
  have hlt := h.lt
  have H := hide' h
  have hown := h.2
  have f0 := h.fz 0
  obtain ⟨pa, cap, rfl, -⟩ := h.refF
  clear h hz0 hz1 hz2
  go_enter Tryd.func22, Tryd.ntmps22
  go_wp2_with (at_builtin; refine wpList_append_own_none rfl _ _ 27 rfl B 5 i0 1 Tryd.underlying27 hi (.slice pa N cap) N (xs F N) rfl hown rfl ?_)
  clear hown
  go_wp2
  go_ret
  exact ⟨rfl, ⟨Go.Joins.block_setCell (i := 0) H.out.1 _, H.out.2.setOther H.out.block_ne _⟩, (But.of_below (Below.refl _ _)).setCell (p := ⟨D, 0, none⟩) rfl _⟩
end
end Go.Proofs.YtbfabpjhdhhpfaaDoor
/-
  THE WALK over the document's Feed: Rest.
-/
namespace Go.Proofs.YtbfabpjhdhhpfaaDoor
open Go.RowKit Go.Lib
section
variable {w w' : World} {D B : Nat} {v : Value} {F : Nat → Nat} {N T : Nat} {E : Bool}

/-- where the document's Feed has no character any more -/
def stopAt (F : Nat → Nat) (N : Nat) (E : Bool) (T : Nat) : Nat := (Fd.tkE F N E (N - T) T (0, 1, 1)).1
theorem tkE_fst (F : Nat → Nat) (N : Nat) (E : Bool) : ∀ (k T : Nat) (p q : Nat × Nat × Nat), (Fd.tkE F N E k T p).1 = (Fd.tkE F N E k T q).1
  | 0, T, p, q => rfl
  | k + 1, T, p, q => by
    unfold Fd.tkE
    split
    · exact tkE_fst F N E k _ _ _
    · rfl
theorem stopAt_step {F : Nat → Nat} {N T : Nat} {E : Bool} (h : (Fd.pk F N T E).2.2.2 = 0) : stopAt F N E T = stopAt F N E (T + (Fd.pk F N T E).2.2.1) := by
  unfold stopAt
  rw [(Fd.tk_step (0, 1, 1) h).2]
  exact tkE_fst _ _ _ _ _ _ _
theorem stopAt_stop {F : Nat → Nat} {N T : Nat} {E : Bool} (h : (Fd.pk F N T E).2.2.2 ≠ 0) : stopAt F N E T = T := by
  unfold stopAt
  rw [(Fd.tk_stop (0, 1, 1) h).2]
/-- a slice that holds these bytes, in a block below X -/
def Holds (w : World) (X : Nat) (F : Nat → Nat) (n : Nat) (v : Value) : Prop := ∃ pa cap, v = .slice pa n cap ∧ n ≤ cap ∧ (0 < n → ∃ b o, pa = some ⟨b, o, none⟩ ∧ Bytes w b o n F ∧ b < X)
/-- what Rest answers: the bytes from there on, if it waits there; else nothing -/
def RestEnd (F : Nat → Nat) (N : Nat) (E : Bool) (S X : Nat) (w : World) (e : Ending) (w' : World) : Prop := (∃ u, e = .returned u ∧ (if (Fd.pk F N S E).2.2.2 = 1 then Holds w' X (Rn.off F S) (N - S) u else u = .slice none 0 0)) ∧ Below w.heap.size w w'

set_option maxRecDepth 100000 in
set_option maxHeartbeats 1000000 in
theorem ref4Rest_any {X0 : Nat} (hX0 : ∀ q, v.ownBlock = some q → q < X0) (h : Ref4 w D B v F N T E) (hF : ∀ j, F j < 256) (hTN : T ≤ N) (hbig : N ≤ 1099511627776) :
    Calls Tryd.prog 27 #[.pointer (some ⟨D, 0, none⟩)] w (RestEnd F N E (stopAt F N E T) X0 w) := by
  obtain ⟨c0, c1, c2⟩ := h.cell
  have hD := h.lt
  obtain ⟨pa, cap, rfl, hR⟩ := h.refF
  have c := fun a (ha : a ≤ N) W (hb : Below w.heap.size w W) => ref4From_any (hR.below hb (Nat.le_refl _)) hF a ha hbig
  have H := hide' (And.intro h hR)
  obtain ⟨S, hS⟩ : ∃ S, stopAt F N E T = S := ⟨_, rfl⟩
  rw [hS]
  have HS := hide' hS
  clear h hR hS
  go_enter Tryd.func27, Tryd.ntmps27
  go_wp2
  go_loopw [3] (fun i wr => ∃ a : Nat, i = .int .i64 a ∧ a ≤ N ∧ Hid (stopAt F N E a = S) ∧ Below w.heap.size w wr) (fun i _ => N - (RowKit.intOf i).toNat)
  case atStart => exact ⟨T, rfl, hTN, HS, Below.refl _ _⟩
  case round =>
    obtain ⟨a, rfl, ha, hst, hB⟩ := hrel
    clear HS
    have cA := c a ha wr hB
    obtain ⟨y0, y1, y2, y3, y4, y5, hy, hy5⟩ := fromV_form F N a (Fd.pk F N a E)
    rw [hy] at cA
    have hps := Fd.pk_pos (F := F) (N := N) (T := a) (E := E)
    have hs1 := stopAt_step (F := F) (N := N) (T := a) (E := E)
    have hs2 := stopAt_stop (F := F) (N := N) (T := a) (E := E)
    obtain ⟨X, hX⟩ : ∃ X, (Fd.pk F N a E).2.2.2 = X := ⟨_, rfl⟩
    rw [hX] at cA hy5 hps hs1 hs2
    generalize (Fd.pk F N a E).2.2.1 = d at *
    clear c hy
    by_cases h0 : X = 0
    · subst h0
      obtain rfl : y5 = d := hy5 rfl
      obtain ⟨h1, h2, h3⟩ := hps rfl
      have hst2 := hs1 rfl
      rw [hst.out] at hst2
      have HST := hide' hst2.symm
      clear hps hs1 hs2 hst2 hy5 hX hst
      go_wp2_with fail
      refine cA.mono ?_
      rintro e w1 ⟨rfl, hb1⟩
      have hB1 := hB.trans (hb1.mono hB.size)
      clear cA hb1 hB
      go_wp2
      go_roundw
      case rel => exact ⟨a + y5, by go_num, by omega, HST, hB1.alloc hB1.size _⟩
      case measure => simp [RowKit.intOf]; omega
    · obtain rfl : a = S := by rw [← hst.out]; exact (hs2 h0).symm
      have e0 : ((X : Int) != 0) = true := by simp; omega
      by_cases h1 : X = 1
      · subst h1
        clear hps hs1 hs2 hy5 hst
        have HX := hide' hX
        clear hX
        have hnil := H.out.2.nil
        have hrw := H.out.2.row
        have hc1 := H.out.2.cap1
        have hc2 := H.out.2.cap2
        unfold maxLen at hc2
        go_wp2_with fail
        refine cA.mono ?_
        rintro e w1 ⟨rfl, hb1⟩
        have hB1 := hB.trans (hb1.mono hB.size)
        have hD1 : D < w1.heap.size := Nat.lt_of_lt_of_le hD hB1.size
        have d0 : w1.cell? ⟨D, 0, none⟩ = some (.slice pa N cap) := (hB1.cell (p := ⟨D, 0, none⟩) hD).trans c0
        have hB2 : Below w.heap.size w (w1.alloc (.cells #[.int .i64 y0, .int .i64 y1, .int .i64 y2, .int .i64 y3, .int .i64 y4, .int .i64 y5] 66)) := hB1.alloc hB1.size _
        have HB2 := hide' hB2
        cases pa with
        | none =>
          obtain rfl : cap = 0 := hnil rfl
          obtain rfl : N = 0 := by omega
          obtain rfl : a = 0 := by omega
          clear hnil hrw cA hb1 hB hB1 hB2
          go_wp2
          go_ret
          exact ⟨⟨.slice none 0 0, rfl, by rw [HX.out, if_pos rfl]; exact ⟨none, 0, rfl, by omega, fun h => absurd h (by omega)⟩⟩, HB2.out⟩
        | some ad =>
          have hby : N = 0 ∨ ∃ b o, ad = ⟨b, o, none⟩ ∧ Bytes w b o N F := by
            rcases hrw with q | ⟨b, o, e, q⟩
            · exact .inl q
            · exact .inr ⟨b, o, Option.some.inj e, q⟩
          by_cases q : cap = a
          · have hNa : N = a := by omega
            have q2 : cap - a = 0 := by omega
            have q3 : N - a = 0 := by omega
            clear hnil hrw cA hb1 hB hB1 hB2 hby
            go_wp2
            go_ret
            exact ⟨⟨.slice (some ad) 0 0, rfl, by rw [HX.out, if_pos rfl, q3]; exact ⟨some ad, 0, rfl, by omega, fun h => absurd h (by omega)⟩⟩, HB2.out⟩
          · have q1 : ¬ cap = a := q
            have q2 : ¬ cap - a = 0 := by omega
            have hbb : 0 < N - a → ∃ b o, (some (ad.add a) : Option Addr) = some ⟨b, o, none⟩ ∧ Bytes (w1.alloc (.cells #[.int .i64 y0, .int .i64 y1, .int .i64 y2, .int .i64 y3, .int .i64 y4, .int .i64 y5] 66)) b o (N - a) (Rn.off F a) ∧ b < X0 := by
              intro hp
              rcases hby with e | ⟨b, o, rfl, hb⟩
              · omega
              · refine ⟨b, o + a, by simp [Addr.add], fun j hj => ?_, hX0 b rfl⟩
                have := (hb.below hB2 (Nat.le_refl _)) (a + j) (by omega)
                rw [show o + a + j = o + (a + j) by omega]
                exact this
            have HBB := hide' hbb
            clear hnil hrw cA hb1 hB hB1 hB2 hby hbb
            go_wp2
            go_ret
            exact ⟨⟨.slice (some (ad.add a)) (N - a) (cap - a), rfl, by rw [HX.out, if_pos rfl]; exact ⟨_, _, rfl, by omega, HBB.out⟩⟩, HB2.out⟩
      · have e1 : ((X : Int) == 1) = false := by simp; omega
        clear hps hs1 hs2 hy5 hst
        have HX := hide' hX
        clear hX
        go_wp2_with fail
        refine cA.mono ?_
        rintro e w1 ⟨rfl, hb1⟩
        have hB1 := hB.trans (hb1.mono hB.size)
        clear cA hb1 hB
        go_wp2
        go_ret
        exact ⟨⟨.slice none 0 0, rfl, by rw [HX.out, if_neg h1]⟩, hB1.alloc hB1.size _⟩
end
end Go.Proofs.YtbfabpjhdhhpfaaDoor
