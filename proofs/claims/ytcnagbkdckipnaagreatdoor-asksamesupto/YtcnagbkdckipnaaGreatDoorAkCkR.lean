/-
  THE WALK over the survey's expr (gen_akckw.py writes this text).
-/
import Derived.Test.YtcnagbkdckipnaaGreatDoorAkCkQ
import Derived.Deep.RegionHeld3
namespace Go.Proofs.YtcnagbkdckipnaaGreatDoor
open Go.RowKit Go.Lib Go.Sort
namespace Ak
theorem listC_one (NB QB : ByteArray → Bool) (a : Xp) (br : Nat) (s : Sy) : listC NB QB [a] br s = exprC NB QB a br s := by
  unfold listC
  cases exprC NB QB a br s <;> simp [listC]
theorem exprC_some (NB QB : ByteArray → Bool) (ar : List Xp) (st : List Sp) (aa : ByteArray) (cm : Int) (tx : ByteArray) (nu : Int) (br : Nat) (s : Sy) (h : br ≤ 200) :
    exprC NB QB (.mk 3 ar st aa cm tx nu) br s = if ar.length = 0 ∧ (em aa || NB aa) = true ∧ cpB QB cm tx nu = true then pathC NB QB st (br + cbC cm) (mxS br (inc s)) else none := by
  unfold exprC pathC
  rw [if_pos h, if_neg (by omega), if_neg (by omega), if_pos rfl]
  by_cases h1 : ar.length = 0 ∧ (em aa || NB aa) = true ∧ cpB QB cm tx nu = true
  · rw [if_pos h1]
    by_cases h2 : st.length ≠ 0 ∧ br + cbC cm ≤ 200
    · rw [if_pos h2, if_pos ⟨h1, h2⟩]
    · rw [if_neg h2, if_neg (fun e => h2 e.2)]
  · rw [if_neg h1, if_neg (fun e => h1 e.1)]
/-- the seven cells of a block, and what stays of them -/
def Bx (B : Nat) (v0 v1 v2 v3 v4 v5 v6 : Value) (w : World) : Prop := w.cell? ⟨B, 0, none⟩ = some v0 ∧ w.cell? ⟨B, 1, none⟩ = some v1 ∧ w.cell? ⟨B, 2, none⟩ = some v2 ∧ w.cell? ⟨B, 3, none⟩ = some v3 ∧ w.cell? ⟨B, 4, none⟩ = some v4 ∧ w.cell? ⟨B, 5, none⟩ = some v5 ∧ w.cell? ⟨B, 6, none⟩ = some v6
theorem Bx.of {B : Nat} {v0 v1 v2 v3 v4 v5 v6 : Value} {w : World} {t : TypeId} (h : w.heap[B]? = some (.cells #[v0, v1, v2, v3, v4, v5, v6] t (0, 0))) : Bx B v0 v1 v2 v3 v4 v5 v6 w := by
  refine ⟨?_, ?_, ?_, ?_, ?_, ?_, ?_⟩ <;> (rw [Lib.cell_of_heap h]; rfl)
end Ak
set_option maxRecDepth 100000 in
set_option maxHeartbeats 8000000 in
theorem ckExprNo {w0 : World} {NB QB : ByteArray → Bool} (op : Int) (pa : Option Addr) (ca : Nat) (ar : List Ak.Xv) (ps : Option Addr) (cc : Nat) (st : List Ak.Sv) (aa : ByteArray) (cm : Int) (tx : ByteArray) (nu : Int) (hop : op ≠ 0 ∧ op ≠ 1 ∧ op ≠ 2 ∧ op ≠ 3) : Ak.ExprS w0 NB QB (.mk op pa ca ar ps cc st aa cm tx nu) := by
  intro hok W b s br hb0 hlo hC hbr
  obtain ⟨la, hla⟩ : ∃ k, ar.length = k := ⟨_, rfl⟩
  obtain ⟨ls, hls⟩ : ∃ k, st.length = k := ⟨_, rfl⟩
  change Calls Tryz.prog 136 #[.pointer (some ⟨b, 0, none⟩), .agg #[.int .i64 op, .slice pa ar.length ca, .slice ps st.length cc, .string aa, .int .i64 cm, .string tx, .int .i64 nu], .int .i64 (br : Nat)] W (Ak.ChE b W (Ak.exprC NB QB (Ak.cX (.mk op pa ca ar ps cc st aa cm tx nu)) br s))
  rw [hla, hls]
  rw [show Ak.cX (.mk op pa ca ar ps cc st aa cm tx nu) = .mk op (Ak.cXs ar) (Ak.cSs st) aa cm tx nu by simp [Ak.cX]]
  have hbl := hC.lt
  obtain ⟨z, k⟩ := s
  have c0 : W.cell? ⟨b, 0, none⟩ = some (.int .i64 z) := by rw [Lib.cell_of_heap hC]; rfl
  have f0 : W.frozen? ⟨b, 0, none⟩ = false := Lib.frozen_of_heap hC 0
  have s0 : (W.setCell ⟨b, 0, none⟩ (.int .i64 (wrap64 (z + 1)))).heap.size = W.heap.size := by simp
  have hS1 : Ak.CkS w0 W b (Ak.inc (z, k)) (W.setCell ⟨b, 0, none⟩ (.int .i64 (wrap64 (z + 1)))) := (Ak.CkS.mk hlo hb0 (.refl b W) hC).go (Ak.Pb.set _ _ _ _) (Go.Joins.block_setCell (i := 0) hC _)
  have hS2 : Ak.CkS w0 W b (Ak.inc (z, k)) ((W.setCell ⟨b, 0, none⟩ (.int .i64 (wrap64 (z + 1)))).alloc (.cells #[.int .i64 op, .slice pa la ca, .slice ps ls cc, .string aa, .int .i64 cm, .string tx, .int .i64 nu] 121)) := hS1.below ((Below.refl _ _).alloc (Nat.le_refl _) _)
  have hx2 : ((W.setCell ⟨b, 0, none⟩ (.int .i64 (wrap64 (z + 1)))).alloc (.cells #[.int .i64 op, .slice pa la ca, .slice ps ls cc, .string aa, .int .i64 cm, .string tx, .int .i64 nu] 121)).heap[W.heap.size]? = some (.cells #[.int .i64 op, .slice pa la ca, .slice ps ls cc, .string aa, .int .i64 cm, .string tx, .int .i64 nu] 121 (0, 0)) := by
    have := Ak.heap_new (W.setCell ⟨b, 0, none⟩ (.int .i64 (wrap64 (z + 1)))) (.cells #[.int .i64 op, .slice pa la ca, .slice ps ls cc, .string aa, .int .i64 cm, .string tx, .int .i64 nu] 121)
    rwa [s0] at this
  have s2 : ((W.setCell ⟨b, 0, none⟩ (.int .i64 (wrap64 (z + 1)))).alloc (.cells #[.int .i64 op, .slice pa la ca, .slice ps ls cc, .string aa, .int .i64 cm, .string tx, .int .i64 nu] 121)).heap.size = W.heap.size + 1 := by rw [World.size_alloc, s0]
  have C := ckReach ((W.setCell ⟨b, 0, none⟩ (.int .i64 (wrap64 (z + 1)))).alloc (.cells #[.int .i64 op, .slice pa la ca, .slice ps ls cc, .string aa, .int .i64 cm, .string tx, .int .i64 nu] 121)) b _ br hS2.c
  have HS2 := hide' hS2
  have HX2 := hide' hx2
  have twb : IntKind.i64.wrap ((br : Int) + 1) = ((br + 1 : Nat) : Int) := by rw [IntKind.wrap_i64]; omega
  unfold Ak.exprC
  by_cases hbr2 : br ≤ 200
  · rw [if_pos hbr2, if_neg (by omega), if_neg (by omega), if_neg (by omega)]
    rw [decide_eq_true hbr2] at C
    have k0 : (op == 0) = false := by simp; omega
    have k1 : (op == 1) = false := by simp; omega
    have k2 : (op == 2) = false := by simp; omega
    have k3 : (op == 3) = false := by simp; omega
    clear hok hb0 hC hS1 hS2 hx2 s0 hop
    go_enter Tryz.func136, Tryz.ntmps136
    go_wp2_with fail
    refine C.mono ?_
    rintro e w3 ⟨rfl, hq, hc⟩
    have HS3 := hide' (HS2.out.go hq hc)
    have hx3 := (hq.block W.heap.size (by omega) (by omega)).trans HX2.out
    have HX3 := hide' hx3
    have b0 : w3.cell? ⟨W.heap.size, 0, none⟩ = some (.int .i64 op) := by rw [Lib.cell_of_heap hx3]; rfl
    have b1 : w3.cell? ⟨W.heap.size, 1, none⟩ = some (.slice pa la ca) := by rw [Lib.cell_of_heap hx3]; rfl
    have b2 : w3.cell? ⟨W.heap.size, 2, none⟩ = some (.slice ps ls cc) := by rw [Lib.cell_of_heap hx3]; rfl
    have b3 : w3.cell? ⟨W.heap.size, 3, none⟩ = some (.string aa) := by rw [Lib.cell_of_heap hx3]; rfl
    have b4 : w3.cell? ⟨W.heap.size, 4, none⟩ = some (.int .i64 cm) := by rw [Lib.cell_of_heap hx3]; rfl
    have b5 : w3.cell? ⟨W.heap.size, 5, none⟩ = some (.string tx) := by rw [Lib.cell_of_heap hx3]; rfl
    have b6 : w3.cell? ⟨W.heap.size, 6, none⟩ = some (.int .i64 nu) := by rw [Lib.cell_of_heap hx3]; rfl
    have hs3 := hq.size
    clear hq hc hx3 C
    go_wp2_with fail
    go_ret
    exact ⟨rfl, HS3.out.pb⟩
  · rw [if_neg hbr2]
    rw [decide_eq_false hbr2] at C
    clear hok hb0 hC hS1 hS2 hx2 s0 hop
    go_enter Tryz.func136, Tryz.ntmps136
    go_wp2_with fail
    refine C.mono ?_
    rintro e w3 ⟨rfl, hq, hc⟩
    have HS3 := hide' (HS2.out.go hq hc)
    clear hq hc C
    go_wp2_with fail
    go_ret
    exact ⟨rfl, HS3.out.pb⟩
set_option maxRecDepth 100000 in
set_option maxHeartbeats 8000000 in
theorem ckExprAo {w0 : World} {NB QB : ByteArray → Bool} (op : Int) (pa : Option Addr) (ca : Nat) (ar : List Ak.Xv) (ps : Option Addr) (cc : Nat) (st : List Ak.Sv) (aa : ByteArray) (cm : Int) (tx : ByteArray) (nu : Int) (hop : op = 0 ∨ op = 1) (ip : Ak.PartS w0 NB QB (.mk op pa ca ar ps cc st aa cm tx nu)) : Ak.ExprS w0 NB QB (.mk op pa ca ar ps cc st aa cm tx nu) := by
  intro hok W b s br hb0 hlo hC hbr
  obtain ⟨la, hla⟩ : ∃ k, ar.length = k := ⟨_, rfl⟩
  obtain ⟨ls, hls⟩ : ∃ k, st.length = k := ⟨_, rfl⟩
  change Calls Tryz.prog 136 #[.pointer (some ⟨b, 0, none⟩), .agg #[.int .i64 op, .slice pa ar.length ca, .slice ps st.length cc, .string aa, .int .i64 cm, .string tx, .int .i64 nu], .int .i64 (br : Nat)] W (Ak.ChE b W (Ak.exprC NB QB (Ak.cX (.mk op pa ca ar ps cc st aa cm tx nu)) br s))
  rw [hla, hls]
  rw [show Ak.cX (.mk op pa ca ar ps cc st aa cm tx nu) = .mk op (Ak.cXs ar) (Ak.cSs st) aa cm tx nu by simp [Ak.cX]]
  have hbl := hC.lt
  obtain ⟨z, k⟩ := s
  have c0 : W.cell? ⟨b, 0, none⟩ = some (.int .i64 z) := by rw [Lib.cell_of_heap hC]; rfl
  have f0 : W.frozen? ⟨b, 0, none⟩ = false := Lib.frozen_of_heap hC 0
  have s0 : (W.setCell ⟨b, 0, none⟩ (.int .i64 (wrap64 (z + 1)))).heap.size = W.heap.size := by simp
  have hS1 : Ak.CkS w0 W b (Ak.inc (z, k)) (W.setCell ⟨b, 0, none⟩ (.int .i64 (wrap64 (z + 1)))) := (Ak.CkS.mk hlo hb0 (.refl b W) hC).go (Ak.Pb.set _ _ _ _) (Go.Joins.block_setCell (i := 0) hC _)
  have hS2 : Ak.CkS w0 W b (Ak.inc (z, k)) ((W.setCell ⟨b, 0, none⟩ (.int .i64 (wrap64 (z + 1)))).alloc (.cells #[.int .i64 op, .slice pa la ca, .slice ps ls cc, .string aa, .int .i64 cm, .string tx, .int .i64 nu] 121)) := hS1.below ((Below.refl _ _).alloc (Nat.le_refl _) _)
  have hx2 : ((W.setCell ⟨b, 0, none⟩ (.int .i64 (wrap64 (z + 1)))).alloc (.cells #[.int .i64 op, .slice pa la ca, .slice ps ls cc, .string aa, .int .i64 cm, .string tx, .int .i64 nu] 121)).heap[W.heap.size]? = some (.cells #[.int .i64 op, .slice pa la ca, .slice ps ls cc, .string aa, .int .i64 cm, .string tx, .int .i64 nu] 121 (0, 0)) := by
    have := Ak.heap_new (W.setCell ⟨b, 0, none⟩ (.int .i64 (wrap64 (z + 1)))) (.cells #[.int .i64 op, .slice pa la ca, .slice ps ls cc, .string aa, .int .i64 cm, .string tx, .int .i64 nu] 121)
    rwa [s0] at this
  have s2 : ((W.setCell ⟨b, 0, none⟩ (.int .i64 (wrap64 (z + 1)))).alloc (.cells #[.int .i64 op, .slice pa la ca, .slice ps ls cc, .string aa, .int .i64 cm, .string tx, .int .i64 nu] 121)).heap.size = W.heap.size + 1 := by rw [World.size_alloc, s0]
  have C := ckReach ((W.setCell ⟨b, 0, none⟩ (.int .i64 (wrap64 (z + 1)))).alloc (.cells #[.int .i64 op, .slice pa la ca, .slice ps ls cc, .string aa, .int .i64 cm, .string tx, .int .i64 nu] 121)) b _ br hS2.c
  have HS2 := hide' hS2
  have HX2 := hide' hx2
  have twb : IntKind.i64.wrap ((br : Int) + 1) = ((br + 1 : Nat) : Int) := by rw [IntKind.wrap_i64]; omega
  have hip := ip hok
  unfold Ak.PartS at ip
  unfold Ak.exprC
  by_cases hbr2 : br ≤ 200
  rotate_left
  · rw [if_neg hbr2]
    rw [decide_eq_false hbr2] at C
    clear hok hb0 hC hS1 hS2 hx2 s0 hip ip hop
    go_enter Tryz.func136, Tryz.ntmps136
    go_wp2_with fail
    refine C.mono ?_
    rintro e w3 ⟨rfl, hq, hc⟩
    have HS3 := hide' (HS2.out.go hq hc)
    clear hq hc C
    go_wp2_with fail
    go_ret
    exact ⟨rfl, HS3.out.pb⟩
  rw [if_pos hbr2]
  rw [decide_eq_true hbr2] at C
  rw [if_pos hop, Ak.cXs_len, hla, Ak.cSs_len, hls]
  obtain ⟨t, ht⟩ : ∃ t, Ak.aoB ls aa cm tx nu = t := ⟨_, rfl⟩
  rw [ht]
  have HT := hide' ht
  obtain ⟨R, hR⟩ : ∃ R, Ak.partC NB QB op (Ak.cXs ar) br (Ak.mxS br (Ak.inc (z, k))) = R := ⟨_, rfl⟩
  rw [hR]
  have HC2 : Hid (∀ w5, Ak.CkS w0 W b (Ak.mxS br (Ak.inc (z, k))) w5 → Calls Tryz.prog 153 #[.pointer (some ⟨b, 0, none⟩), .agg #[.int .i64 op, .slice pa la ca, .slice ps ls cc, .string aa, .int .i64 cm, .string tx, .int .i64 nu], .int .i64 (br : Nat)] w5 (Ak.ChE b w5 R)) := hide' (fun w5 hS5 => by
    rw [← hR, ← hla, ← hls]
    have := hip w5 b _ br hS5.b0 hS5.lo hS5.c (by omega)
    rw [show Ak.opX (Ak.cX (.mk op pa ca ar ps cc st aa cm tx nu)) = op by simp [Ak.cX, Ak.opX]] at this
    exact this)
  clear hok hb0 hC hS1 hS2 hx2 s0 hip ip ht hR hla hls
  by_cases h2 : 2 ≤ la
  rotate_left
  · rw [if_neg (fun e => h2 e.1)]
    clear HC2 HT
    have g2 : ¬ (2 : Int) ≤ (la : Int) := by omega
    rcases hop with hop | hop
    · have k0 : (op == 0) = true := by simp [hop]
      clear hop
      go_enter Tryz.func136, Tryz.ntmps136
      go_wp2_with fail
      refine C.mono ?_
      rintro e w3 ⟨rfl, hq, hc⟩
      have HS3 := hide' (HS2.out.go hq hc)
      have hx3 := (hq.block W.heap.size (by omega) (by omega)).trans HX2.out
      have HX3 := hide' hx3
      have b0 : w3.cell? ⟨W.heap.size, 0, none⟩ = some (.int .i64 op) := by rw [Lib.cell_of_heap hx3]; rfl
      have b1 : w3.cell? ⟨W.heap.size, 1, none⟩ = some (.slice pa la ca) := by rw [Lib.cell_of_heap hx3]; rfl
      have b2 : w3.cell? ⟨W.heap.size, 2, none⟩ = some (.slice ps ls cc) := by rw [Lib.cell_of_heap hx3]; rfl
      have b3 : w3.cell? ⟨W.heap.size, 3, none⟩ = some (.string aa) := by rw [Lib.cell_of_heap hx3]; rfl
      have b4 : w3.cell? ⟨W.heap.size, 4, none⟩ = some (.int .i64 cm) := by rw [Lib.cell_of_heap hx3]; rfl
      have b5 : w3.cell? ⟨W.heap.size, 5, none⟩ = some (.string tx) := by rw [Lib.cell_of_heap hx3]; rfl
      have b6 : w3.cell? ⟨W.heap.size, 6, none⟩ = some (.int .i64 nu) := by rw [Lib.cell_of_heap hx3]; rfl
      have hs3 := hq.size
      clear hq hc hx3 C
      go_wp2_with fail
      go_ret
      exact ⟨rfl, HS3.out.pb⟩
    · have k0 : (op == 0) = false := by simp [hop]
      have k1 : (op == 1) = true := by simp [hop]
      clear hop
      go_enter Tryz.func136, Tryz.ntmps136
      go_wp2_with fail
      refine C.mono ?_
      rintro e w3 ⟨rfl, hq, hc⟩
      have HS3 := hide' (HS2.out.go hq hc)
      have hx3 := (hq.block W.heap.size (by omega) (by omega)).trans HX2.out
      have HX3 := hide' hx3
      have b0 : w3.cell? ⟨W.heap.size, 0, none⟩ = some (.int .i64 op) := by rw [Lib.cell_of_heap hx3]; rfl
      have b1 : w3.cell? ⟨W.heap.size, 1, none⟩ = some (.slice pa la ca) := by rw [Lib.cell_of_heap hx3]; rfl
      have b2 : w3.cell? ⟨W.heap.size, 2, none⟩ = some (.slice ps ls cc) := by rw [Lib.cell_of_heap hx3]; rfl
      have b3 : w3.cell? ⟨W.heap.size, 3, none⟩ = some (.string aa) := by rw [Lib.cell_of_heap hx3]; rfl
      have b4 : w3.cell? ⟨W.heap.size, 4, none⟩ = some (.int .i64 cm) := by rw [Lib.cell_of_heap hx3]; rfl
      have b5 : w3.cell? ⟨W.heap.size, 5, none⟩ = some (.string tx) := by rw [Lib.cell_of_heap hx3]; rfl
      have b6 : w3.cell? ⟨W.heap.size, 6, none⟩ = some (.int .i64 nu) := by rw [Lib.cell_of_heap hx3]; rfl
      have hs3 := hq.size
      clear hq hc hx3 C
      go_wp2_with fail
      go_ret
      exact ⟨rfl, HS3.out.pb⟩
  have g2 : (2 : Int) ≤ (la : Int) := by omega
  cases t with
  | false =>
    rw [if_neg (fun e => by simp at e)]
    clear HC2
    rcases hop with hop | hop
    · have k0 : (op == 0) = true := by simp [hop]
      clear hop
      go_enter Tryz.func136, Tryz.ntmps136
      go_wp2_with fail
      refine C.mono ?_
      rintro e w3 ⟨rfl, hq, hc⟩
      have HS3 := hide' (HS2.out.go hq hc)
      have hx3 := (hq.block W.heap.size (by omega) (by omega)).trans HX2.out
      have HX3 := hide' hx3
      have b0 : w3.cell? ⟨W.heap.size, 0, none⟩ = some (.int .i64 op) := by rw [Lib.cell_of_heap hx3]; rfl
      have b1 : w3.cell? ⟨W.heap.size, 1, none⟩ = some (.slice pa la ca) := by rw [Lib.cell_of_heap hx3]; rfl
      have b2 : w3.cell? ⟨W.heap.size, 2, none⟩ = some (.slice ps ls cc) := by rw [Lib.cell_of_heap hx3]; rfl
      have b3 : w3.cell? ⟨W.heap.size, 3, none⟩ = some (.string aa) := by rw [Lib.cell_of_heap hx3]; rfl
      have b4 : w3.cell? ⟨W.heap.size, 4, none⟩ = some (.int .i64 cm) := by rw [Lib.cell_of_heap hx3]; rfl
      have b5 : w3.cell? ⟨W.heap.size, 5, none⟩ = some (.string tx) := by rw [Lib.cell_of_heap hx3]; rfl
      have b6 : w3.cell? ⟨W.heap.size, 6, none⟩ = some (.int .i64 nu) := by rw [Lib.cell_of_heap hx3]; rfl
      have hs3 := hq.size
      clear hq hc hx3 C
      go_wp2_with fail
      refine (ckArgs w3 op pa la ca ps ls cc aa cm tx nu).mono ?_
      rintro e w4 ⟨rfl, hb4⟩
      have HS4 := hide' (HS3.out.below hb4)
      have hx4 := (hb4.block W.heap.size (by omega)).trans HX3.out
      have d0 : w4.cell? ⟨W.heap.size, 0, none⟩ = some (.int .i64 op) := by rw [Lib.cell_of_heap hx4]; rfl
      have d1 : w4.cell? ⟨W.heap.size, 1, none⟩ = some (.slice pa la ca) := by rw [Lib.cell_of_heap hx4]; rfl
      have d2 : w4.cell? ⟨W.heap.size, 2, none⟩ = some (.slice ps ls cc) := by rw [Lib.cell_of_heap hx4]; rfl
      have d3 : w4.cell? ⟨W.heap.size, 3, none⟩ = some (.string aa) := by rw [Lib.cell_of_heap hx4]; rfl
      have d4 : w4.cell? ⟨W.heap.size, 4, none⟩ = some (.int .i64 cm) := by rw [Lib.cell_of_heap hx4]; rfl
      have d5 : w4.cell? ⟨W.heap.size, 5, none⟩ = some (.string tx) := by rw [Lib.cell_of_heap hx4]; rfl
      have d6 : w4.cell? ⟨W.heap.size, 6, none⟩ = some (.int .i64 nu) := by rw [Lib.cell_of_heap hx4]; rfl
      rw [HT.out]
      clear hb4 hx4
      go_wp2_with fail
      go_ret
      exact ⟨rfl, HS4.out.pb⟩
    · have k0 : (op == 0) = false := by simp [hop]
      have k1 : (op == 1) = true := by simp [hop]
      clear hop
      go_enter Tryz.func136, Tryz.ntmps136
      go_wp2_with fail
      refine C.mono ?_
      rintro e w3 ⟨rfl, hq, hc⟩
      have HS3 := hide' (HS2.out.go hq hc)
      have hx3 := (hq.block W.heap.size (by omega) (by omega)).trans HX2.out
      have HX3 := hide' hx3
      have b0 : w3.cell? ⟨W.heap.size, 0, none⟩ = some (.int .i64 op) := by rw [Lib.cell_of_heap hx3]; rfl
      have b1 : w3.cell? ⟨W.heap.size, 1, none⟩ = some (.slice pa la ca) := by rw [Lib.cell_of_heap hx3]; rfl
      have b2 : w3.cell? ⟨W.heap.size, 2, none⟩ = some (.slice ps ls cc) := by rw [Lib.cell_of_heap hx3]; rfl
      have b3 : w3.cell? ⟨W.heap.size, 3, none⟩ = some (.string aa) := by rw [Lib.cell_of_heap hx3]; rfl
      have b4 : w3.cell? ⟨W.heap.size, 4, none⟩ = some (.int .i64 cm) := by rw [Lib.cell_of_heap hx3]; rfl
      have b5 : w3.cell? ⟨W.heap.size, 5, none⟩ = some (.string tx) := by rw [Lib.cell_of_heap hx3]; rfl
      have b6 : w3.cell? ⟨W.heap.size, 6, none⟩ = some (.int .i64 nu) := by rw [Lib.cell_of_heap hx3]; rfl
      have hs3 := hq.size
      clear hq hc hx3 C
      go_wp2_with fail
      refine (ckArgs w3 op pa la ca ps ls cc aa cm tx nu).mono ?_
      rintro e w4 ⟨rfl, hb4⟩
      have HS4 := hide' (HS3.out.below hb4)
      have hx4 := (hb4.block W.heap.size (by omega)).trans HX3.out
      have d0 : w4.cell? ⟨W.heap.size, 0, none⟩ = some (.int .i64 op) := by rw [Lib.cell_of_heap hx4]; rfl
      have d1 : w4.cell? ⟨W.heap.size, 1, none⟩ = some (.slice pa la ca) := by rw [Lib.cell_of_heap hx4]; rfl
      have d2 : w4.cell? ⟨W.heap.size, 2, none⟩ = some (.slice ps ls cc) := by rw [Lib.cell_of_heap hx4]; rfl
      have d3 : w4.cell? ⟨W.heap.size, 3, none⟩ = some (.string aa) := by rw [Lib.cell_of_heap hx4]; rfl
      have d4 : w4.cell? ⟨W.heap.size, 4, none⟩ = some (.int .i64 cm) := by rw [Lib.cell_of_heap hx4]; rfl
      have d5 : w4.cell? ⟨W.heap.size, 5, none⟩ = some (.string tx) := by rw [Lib.cell_of_heap hx4]; rfl
      have d6 : w4.cell? ⟨W.heap.size, 6, none⟩ = some (.int .i64 nu) := by rw [Lib.cell_of_heap hx4]; rfl
      rw [HT.out]
      clear hb4 hx4
      go_wp2_with fail
      go_ret
      exact ⟨rfl, HS4.out.pb⟩
  | true =>
    rw [if_pos ⟨h2, rfl⟩]
    rcases hop with hop | hop
    · have k0 : (op == 0) = true := by simp [hop]
      clear hop
      go_enter Tryz.func136, Tryz.ntmps136
      go_wp2_with fail
      refine C.mono ?_
      rintro e w3 ⟨rfl, hq, hc⟩
      have HS3 := hide' (HS2.out.go hq hc)
      have hx3 := (hq.block W.heap.size (by omega) (by omega)).trans HX2.out
      have HX3 := hide' hx3
      have b0 : w3.cell? ⟨W.heap.size, 0, none⟩ = some (.int .i64 op) := by rw [Lib.cell_of_heap hx3]; rfl
      have b1 : w3.cell? ⟨W.heap.size, 1, none⟩ = some (.slice pa la ca) := by rw [Lib.cell_of_heap hx3]; rfl
      have b2 : w3.cell? ⟨W.heap.size, 2, none⟩ = some (.slice ps ls cc) := by rw [Lib.cell_of_heap hx3]; rfl
      have b3 : w3.cell? ⟨W.heap.size, 3, none⟩ = some (.string aa) := by rw [Lib.cell_of_heap hx3]; rfl
      have b4 : w3.cell? ⟨W.heap.size, 4, none⟩ = some (.int .i64 cm) := by rw [Lib.cell_of_heap hx3]; rfl
      have b5 : w3.cell? ⟨W.heap.size, 5, none⟩ = some (.string tx) := by rw [Lib.cell_of_heap hx3]; rfl
      have b6 : w3.cell? ⟨W.heap.size, 6, none⟩ = some (.int .i64 nu) := by rw [Lib.cell_of_heap hx3]; rfl
      have hs3 := hq.size
      clear hq hc hx3 C
      go_wp2_with fail
      refine (ckArgs w3 op pa la ca ps ls cc aa cm tx nu).mono ?_
      rintro e w4 ⟨rfl, hb4⟩
      have HS4 := hide' (HS3.out.below hb4)
      have hx4 := (hb4.block W.heap.size (by omega)).trans HX3.out
      have d0 : w4.cell? ⟨W.heap.size, 0, none⟩ = some (.int .i64 op) := by rw [Lib.cell_of_heap hx4]; rfl
      have d1 : w4.cell? ⟨W.heap.size, 1, none⟩ = some (.slice pa la ca) := by rw [Lib.cell_of_heap hx4]; rfl
      have d2 : w4.cell? ⟨W.heap.size, 2, none⟩ = some (.slice ps ls cc) := by rw [Lib.cell_of_heap hx4]; rfl
      have d3 : w4.cell? ⟨W.heap.size, 3, none⟩ = some (.string aa) := by rw [Lib.cell_of_heap hx4]; rfl
      have d4 : w4.cell? ⟨W.heap.size, 4, none⟩ = some (.int .i64 cm) := by rw [Lib.cell_of_heap hx4]; rfl
      have d5 : w4.cell? ⟨W.heap.size, 5, none⟩ = some (.string tx) := by rw [Lib.cell_of_heap hx4]; rfl
      have d6 : w4.cell? ⟨W.heap.size, 6, none⟩ = some (.int .i64 nu) := by rw [Lib.cell_of_heap hx4]; rfl
      rw [HT.out]
      clear hb4 hx4
      go_wp2_with fail
      refine (HC2.out _ HS4.out).mono ?_
      clear HC2
      cases R with
      | none =>
        rintro e w6 ⟨rfl, hq⟩
        have HP6 := hide' (HS4.out.pb.trans hq)
        clear hq
        go_wp2_with fail
        go_ret
        exact ⟨rfl, HP6.out⟩
      | some s2 =>
        rintro e w6 ⟨rfl, hq, hc⟩
        have HS6 := hide' (HS4.out.go hq hc)
        clear hq hc
        go_wp2_with fail
        go_ret
        exact ⟨rfl, HS6.out.pb, HS6.out.c⟩
    · have k0 : (op == 0) = false := by simp [hop]
      have k1 : (op == 1) = true := by simp [hop]
      clear hop
      go_enter Tryz.func136, Tryz.ntmps136
      go_wp2_with fail
      refine C.mono ?_
      rintro e w3 ⟨rfl, hq, hc⟩
      have HS3 := hide' (HS2.out.go hq hc)
      have hx3 := (hq.block W.heap.size (by omega) (by omega)).trans HX2.out
      have HX3 := hide' hx3
      have b0 : w3.cell? ⟨W.heap.size, 0, none⟩ = some (.int .i64 op) := by rw [Lib.cell_of_heap hx3]; rfl
      have b1 : w3.cell? ⟨W.heap.size, 1, none⟩ = some (.slice pa la ca) := by rw [Lib.cell_of_heap hx3]; rfl
      have b2 : w3.cell? ⟨W.heap.size, 2, none⟩ = some (.slice ps ls cc) := by rw [Lib.cell_of_heap hx3]; rfl
      have b3 : w3.cell? ⟨W.heap.size, 3, none⟩ = some (.string aa) := by rw [Lib.cell_of_heap hx3]; rfl
      have b4 : w3.cell? ⟨W.heap.size, 4, none⟩ = some (.int .i64 cm) := by rw [Lib.cell_of_heap hx3]; rfl
      have b5 : w3.cell? ⟨W.heap.size, 5, none⟩ = some (.string tx) := by rw [Lib.cell_of_heap hx3]; rfl
      have b6 : w3.cell? ⟨W.heap.size, 6, none⟩ = some (.int .i64 nu) := by rw [Lib.cell_of_heap hx3]; rfl
      have hs3 := hq.size
      clear hq hc hx3 C
      go_wp2_with fail
      refine (ckArgs w3 op pa la ca ps ls cc aa cm tx nu).mono ?_
      rintro e w4 ⟨rfl, hb4⟩
      have HS4 := hide' (HS3.out.below hb4)
      have hx4 := (hb4.block W.heap.size (by omega)).trans HX3.out
      have d0 : w4.cell? ⟨W.heap.size, 0, none⟩ = some (.int .i64 op) := by rw [Lib.cell_of_heap hx4]; rfl
      have d1 : w4.cell? ⟨W.heap.size, 1, none⟩ = some (.slice pa la ca) := by rw [Lib.cell_of_heap hx4]; rfl
      have d2 : w4.cell? ⟨W.heap.size, 2, none⟩ = some (.slice ps ls cc) := by rw [Lib.cell_of_heap hx4]; rfl
      have d3 : w4.cell? ⟨W.heap.size, 3, none⟩ = some (.string aa) := by rw [Lib.cell_of_heap hx4]; rfl
      have d4 : w4.cell? ⟨W.heap.size, 4, none⟩ = some (.int .i64 cm) := by rw [Lib.cell_of_heap hx4]; rfl
      have d5 : w4.cell? ⟨W.heap.size, 5, none⟩ = some (.string tx) := by rw [Lib.cell_of_heap hx4]; rfl
      have d6 : w4.cell? ⟨W.heap.size, 6, none⟩ = some (.int .i64 nu) := by rw [Lib.cell_of_heap hx4]; rfl
      rw [HT.out]
      clear hb4 hx4
      go_wp2_with fail
      refine (HC2.out _ HS4.out).mono ?_
      clear HC2
      cases R with
      | none =>
        rintro e w6 ⟨rfl, hq⟩
        have HP6 := hide' (HS4.out.pb.trans hq)
        clear hq
        go_wp2_with fail
        go_ret
        exact ⟨rfl, HP6.out⟩
      | some s2 =>
        rintro e w6 ⟨rfl, hq, hc⟩
        have HS6 := hide' (HS4.out.go hq hc)
        clear hq hc
        go_wp2_with fail
        go_ret
        exact ⟨rfl, HS6.out.pb, HS6.out.c⟩
set_option maxRecDepth 100000 in
set_option maxHeartbeats 8000000 in
theorem ckExprNot {w0 : World} {NB QB : ByteArray → Bool} (op : Int) (pa : Option Addr) (ca : Nat) (ar : List Ak.Xv) (ps : Option Addr) (cc : Nat) (st : List Ak.Sv) (aa : ByteArray) (cm : Int) (tx : ByteArray) (nu : Int) (hop : op = 2) (ih : ∀ a ∈ ar, Ak.ExprS w0 NB QB a) : Ak.ExprS w0 NB QB (.mk op pa ca ar ps cc st aa cm tx nu) := by
  intro hok W b s br hb0 hlo hC hbr
  obtain ⟨la, hla⟩ : ∃ k, ar.length = k := ⟨_, rfl⟩
  obtain ⟨ls, hls⟩ : ∃ k, st.length = k := ⟨_, rfl⟩
  change Calls Tryz.prog 136 #[.pointer (some ⟨b, 0, none⟩), .agg #[.int .i64 op, .slice pa ar.length ca, .slice ps st.length cc, .string aa, .int .i64 cm, .string tx, .int .i64 nu], .int .i64 (br : Nat)] W (Ak.ChE b W (Ak.exprC NB QB (Ak.cX (.mk op pa ca ar ps cc st aa cm tx nu)) br s))
  rw [hla, hls]
  rw [show Ak.cX (.mk op pa ca ar ps cc st aa cm tx nu) = .mk op (Ak.cXs ar) (Ak.cSs st) aa cm tx nu by simp [Ak.cX]]
  have hbl := hC.lt
  obtain ⟨z, k⟩ := s
  have c0 : W.cell? ⟨b, 0, none⟩ = some (.int .i64 z) := by rw [Lib.cell_of_heap hC]; rfl
  have f0 : W.frozen? ⟨b, 0, none⟩ = false := Lib.frozen_of_heap hC 0
  have s0 : (W.setCell ⟨b, 0, none⟩ (.int .i64 (wrap64 (z + 1)))).heap.size = W.heap.size := by simp
  have hS1 : Ak.CkS w0 W b (Ak.inc (z, k)) (W.setCell ⟨b, 0, none⟩ (.int .i64 (wrap64 (z + 1)))) := (Ak.CkS.mk hlo hb0 (.refl b W) hC).go (Ak.Pb.set _ _ _ _) (Go.Joins.block_setCell (i := 0) hC _)
  have hS2 : Ak.CkS w0 W b (Ak.inc (z, k)) ((W.setCell ⟨b, 0, none⟩ (.int .i64 (wrap64 (z + 1)))).alloc (.cells #[.int .i64 op, .slice pa la ca, .slice ps ls cc, .string aa, .int .i64 cm, .string tx, .int .i64 nu] 121)) := hS1.below ((Below.refl _ _).alloc (Nat.le_refl _) _)
  have hx2 : ((W.setCell ⟨b, 0, none⟩ (.int .i64 (wrap64 (z + 1)))).alloc (.cells #[.int .i64 op, .slice pa la ca, .slice ps ls cc, .string aa, .int .i64 cm, .string tx, .int .i64 nu] 121)).heap[W.heap.size]? = some (.cells #[.int .i64 op, .slice pa la ca, .slice ps ls cc, .string aa, .int .i64 cm, .string tx, .int .i64 nu] 121 (0, 0)) := by
    have := Ak.heap_new (W.setCell ⟨b, 0, none⟩ (.int .i64 (wrap64 (z + 1)))) (.cells #[.int .i64 op, .slice pa la ca, .slice ps ls cc, .string aa, .int .i64 cm, .string tx, .int .i64 nu] 121)
    rwa [s0] at this
  have s2 : ((W.setCell ⟨b, 0, none⟩ (.int .i64 (wrap64 (z + 1)))).alloc (.cells #[.int .i64 op, .slice pa la ca, .slice ps ls cc, .string aa, .int .i64 cm, .string tx, .int .i64 nu] 121)).heap.size = W.heap.size + 1 := by rw [World.size_alloc, s0]
  have C := ckReach ((W.setCell ⟨b, 0, none⟩ (.int .i64 (wrap64 (z + 1)))).alloc (.cells #[.int .i64 op, .slice pa la ca, .slice ps ls cc, .string aa, .int .i64 cm, .string tx, .int .i64 nu] 121)) b _ br hS2.c
  have HS2 := hide' hS2
  have HX2 := hide' hx2
  have twb : IntKind.i64.wrap ((br : Int) + 1) = ((br + 1 : Nat) : Int) := by rw [IntKind.wrap_i64]; omega
  unfold Ak.exprC
  by_cases hbr2 : br ≤ 200
  rotate_left
  · rw [if_neg hbr2]
    rw [decide_eq_false hbr2] at C
    clear hok hb0 hC hS1 hS2 hx2 s0 ih hop
    go_enter Tryz.func136, Tryz.ntmps136
    go_wp2_with fail
    refine C.mono ?_
    rintro e w3 ⟨rfl, hq, hc⟩
    have HS3 := hide' (HS2.out.go hq hc)
    clear hq hc C
    go_wp2_with fail
    go_ret
    exact ⟨rfl, HS3.out.pb⟩
  rw [if_pos hbr2]
  rw [decide_eq_true hbr2] at C
  rw [if_neg (by omega), if_pos hop, Ak.cXs_len, hla, Ak.cSs_len, hls]
  obtain ⟨t, ht⟩ : ∃ t, Ak.aoB ls aa cm tx nu = t := ⟨_, rfl⟩
  rw [ht]
  have HT := hide' ht
  have hrow := hok.rows.1
  have k0 : (op == 0) = false := by simp [hop]
  have k1 : (op == 1) = false := by simp [hop]
  have k2 : (op == 2) = true := by simp [hop]
  clear hok hb0 hC hS1 hS2 hx2 s0 ht hls hop
  by_cases h2 : la = 1
  rotate_left
  · rw [if_neg (fun e => h2 e.1)]
    clear HT hrow
    have g2 : ((la : Int) == 1) = false := by simp; omega
    go_enter Tryz.func136, Tryz.ntmps136
    go_wp2_with fail
    refine C.mono ?_
    rintro e w3 ⟨rfl, hq, hc⟩
    have HS3 := hide' (HS2.out.go hq hc)
    have hx3 := (hq.block W.heap.size (by omega) (by omega)).trans HX2.out
    have HX3 := hide' hx3
    have b0 : w3.cell? ⟨W.heap.size, 0, none⟩ = some (.int .i64 op) := by rw [Lib.cell_of_heap hx3]; rfl
    have b1 : w3.cell? ⟨W.heap.size, 1, none⟩ = some (.slice pa la ca) := by rw [Lib.cell_of_heap hx3]; rfl
    have b2 : w3.cell? ⟨W.heap.size, 2, none⟩ = some (.slice ps ls cc) := by rw [Lib.cell_of_heap hx3]; rfl
    have b3 : w3.cell? ⟨W.heap.size, 3, none⟩ = some (.string aa) := by rw [Lib.cell_of_heap hx3]; rfl
    have b4 : w3.cell? ⟨W.heap.size, 4, none⟩ = some (.int .i64 cm) := by rw [Lib.cell_of_heap hx3]; rfl
    have b5 : w3.cell? ⟨W.heap.size, 5, none⟩ = some (.string tx) := by rw [Lib.cell_of_heap hx3]; rfl
    have b6 : w3.cell? ⟨W.heap.size, 6, none⟩ = some (.int .i64 nu) := by rw [Lib.cell_of_heap hx3]; rfl
    have hs3 := hq.size
    clear hq hc hx3 C
    go_wp2_with fail
    go_ret
    exact ⟨rfl, HS3.out.pb⟩
  have g2 : ((la : Int) == 1) = true := by simp; omega
  have t1 : (0 : Int) < (la : Int) := by omega
  have H2 := hide' h2
  clear h2
  cases t with
  | false =>
    rw [if_neg (fun e => by simp at e)]
    clear hrow
    go_enter Tryz.func136, Tryz.ntmps136
    go_wp2_with fail
    refine C.mono ?_
    rintro e w3 ⟨rfl, hq, hc⟩
    have HS3 := hide' (HS2.out.go hq hc)
    have hx3 := (hq.block W.heap.size (by omega) (by omega)).trans HX2.out
    have HX3 := hide' hx3
    have b0 : w3.cell? ⟨W.heap.size, 0, none⟩ = some (.int .i64 op) := by rw [Lib.cell_of_heap hx3]; rfl
    have b1 : w3.cell? ⟨W.heap.size, 1, none⟩ = some (.slice pa la ca) := by rw [Lib.cell_of_heap hx3]; rfl
    have b2 : w3.cell? ⟨W.heap.size, 2, none⟩ = some (.slice ps ls cc) := by rw [Lib.cell_of_heap hx3]; rfl
    have b3 : w3.cell? ⟨W.heap.size, 3, none⟩ = some (.string aa) := by rw [Lib.cell_of_heap hx3]; rfl
    have b4 : w3.cell? ⟨W.heap.size, 4, none⟩ = some (.int .i64 cm) := by rw [Lib.cell_of_heap hx3]; rfl
    have b5 : w3.cell? ⟨W.heap.size, 5, none⟩ = some (.string tx) := by rw [Lib.cell_of_heap hx3]; rfl
    have b6 : w3.cell? ⟨W.heap.size, 6, none⟩ = some (.int .i64 nu) := by rw [Lib.cell_of_heap hx3]; rfl
    have hs3 := hq.size
    clear hq hc hx3 C
    go_wp2_with fail
    refine (ckArgs w3 op pa la ca ps ls cc aa cm tx nu).mono ?_
    rintro e w4 ⟨rfl, hb4⟩
    have HS4 := hide' (HS3.out.below hb4)
    have hx4 := (hb4.block W.heap.size (by omega)).trans HX3.out
    have d0 : w4.cell? ⟨W.heap.size, 0, none⟩ = some (.int .i64 op) := by rw [Lib.cell_of_heap hx4]; rfl
    have d1 : w4.cell? ⟨W.heap.size, 1, none⟩ = some (.slice pa la ca) := by rw [Lib.cell_of_heap hx4]; rfl
    have d2 : w4.cell? ⟨W.heap.size, 2, none⟩ = some (.slice ps ls cc) := by rw [Lib.cell_of_heap hx4]; rfl
    have d3 : w4.cell? ⟨W.heap.size, 3, none⟩ = some (.string aa) := by rw [Lib.cell_of_heap hx4]; rfl
    have d4 : w4.cell? ⟨W.heap.size, 4, none⟩ = some (.int .i64 cm) := by rw [Lib.cell_of_heap hx4]; rfl
    have d5 : w4.cell? ⟨W.heap.size, 5, none⟩ = some (.string tx) := by rw [Lib.cell_of_heap hx4]; rfl
    have d6 : w4.cell? ⟨W.heap.size, 6, none⟩ = some (.int .i64 nu) := by rw [Lib.cell_of_heap hx4]; rfl
    rw [HT.out]
    clear hb4 hx4
    go_wp2_with fail
    go_ret
    exact ⟨rfl, HS4.out.pb⟩
  | true =>
    rw [if_pos ⟨H2.out, rfl⟩]
    obtain ⟨x, rfl⟩ := List.length_eq_one_iff.1 (hla.trans H2.out)
    obtain ⟨h1, _, h3⟩ := hrow
    obtain ⟨g, o, rfl, hel⟩ := h3 (by simp)
    obtain ⟨hrg, hok⟩ := hel 0 x rfl
    have hcl := ih x (by simp) hok
    rw [show Ak.cXs [x] = [Ak.cX x] by simp [Ak.cXs], Ak.listC_one]
    obtain ⟨R, hR⟩ : ∃ R, Ak.exprC NB QB (Ak.cX x) (br + 1) (Ak.mxS br (Ak.inc (z, k))) = R := ⟨_, rfl⟩
    rw [hR]
    obtain ⟨op', pa', ca', ar', ps', cc', st', aa', cm', tx', nu'⟩ := x
    obtain ⟨la', hla'⟩ : ∃ k, ar'.length = k := ⟨_, rfl⟩
    obtain ⟨ls', hls'⟩ : ∃ k, st'.length = k := ⟨_, rfl⟩
    have hrg2 : w0.rangeAt g o [.int .i64 op', .slice pa' la' ca', .slice ps' ls' cc', .string aa', .int .i64 cm', .string tx', .int .i64 nu'] := by rw [← hla', ← hls']; rw [Nat.zero_mul, Nat.add_zero] at hrg; exact hrg
    have HRG := hide' hrg2
    have HC2 : Hid (∀ w5, Ak.CkS w0 W b (Ak.mxS br (Ak.inc (z, k))) w5 → Calls Tryz.prog 136 #[.pointer (some ⟨b, 0, none⟩), .agg #[.int .i64 op', .slice pa' la' ca', .slice ps' ls' cc', .string aa', .int .i64 cm', .string tx', .int .i64 nu'], .int .i64 (br + 1 : Nat)] w5 (Ak.ChE b w5 R)) := hide' (fun w5 hS5 => by
      rw [← hR, ← hla', ← hls']
      exact hcl w5 b _ (br + 1) hS5.b0 hS5.lo hS5.c (by omega))
    have HC1 : Hid (la ≤ ca) := hide' (by rw [← hla]; exact h1)
    clear h1 h3 hel hrg hrg2 hok hcl ih hR hla' hls' hla
    go_enter Tryz.func136, Tryz.ntmps136
    go_wp2_with fail
    refine C.mono ?_
    rintro e w3 ⟨rfl, hq, hc⟩
    have HS3 := hide' (HS2.out.go hq hc)
    have hx3 := (hq.block W.heap.size (by omega) (by omega)).trans HX2.out
    have HX3 := hide' hx3
    have b0 : w3.cell? ⟨W.heap.size, 0, none⟩ = some (.int .i64 op) := by rw [Lib.cell_of_heap hx3]; rfl
    have b1 : w3.cell? ⟨W.heap.size, 1, none⟩ = some (.slice (some ⟨g, o, none⟩) la ca) := by rw [Lib.cell_of_heap hx3]; rfl
    have b2 : w3.cell? ⟨W.heap.size, 2, none⟩ = some (.slice ps ls cc) := by rw [Lib.cell_of_heap hx3]; rfl
    have b3 : w3.cell? ⟨W.heap.size, 3, none⟩ = some (.string aa) := by rw [Lib.cell_of_heap hx3]; rfl
    have b4 : w3.cell? ⟨W.heap.size, 4, none⟩ = some (.int .i64 cm) := by rw [Lib.cell_of_heap hx3]; rfl
    have b5 : w3.cell? ⟨W.heap.size, 5, none⟩ = some (.string tx) := by rw [Lib.cell_of_heap hx3]; rfl
    have b6 : w3.cell? ⟨W.heap.size, 6, none⟩ = some (.int .i64 nu) := by rw [Lib.cell_of_heap hx3]; rfl
    have hs3 := hq.size
    clear hq hc hx3 C
    go_wp2_with fail
    refine (ckArgs w3 op (some ⟨g, o, none⟩) la ca ps ls cc aa cm tx nu).mono ?_
    rintro e w4 ⟨rfl, hb4⟩
    have HS4 := hide' (HS3.out.below hb4)
    have hx4 := (hb4.block W.heap.size (by omega)).trans HX3.out
    have d0 : w4.cell? ⟨W.heap.size, 0, none⟩ = some (.int .i64 op) := by rw [Lib.cell_of_heap hx4]; rfl
    have d1 : w4.cell? ⟨W.heap.size, 1, none⟩ = some (.slice (some ⟨g, o, none⟩) la ca) := by rw [Lib.cell_of_heap hx4]; rfl
    have d2 : w4.cell? ⟨W.heap.size, 2, none⟩ = some (.slice ps ls cc) := by rw [Lib.cell_of_heap hx4]; rfl
    have d3 : w4.cell? ⟨W.heap.size, 3, none⟩ = some (.string aa) := by rw [Lib.cell_of_heap hx4]; rfl
    have d4 : w4.cell? ⟨W.heap.size, 4, none⟩ = some (.int .i64 cm) := by rw [Lib.cell_of_heap hx4]; rfl
    have d5 : w4.cell? ⟨W.heap.size, 5, none⟩ = some (.string tx) := by rw [Lib.cell_of_heap hx4]; rfl
    have d6 : w4.cell? ⟨W.heap.size, 6, none⟩ = some (.int .i64 nu) := by rw [Lib.cell_of_heap hx4]; rfl
    rw [HT.out]
    clear hb4 hx4
    have q0 := HS4.out.cell (HRG.out 0 _ rfl)
    have q1 := HS4.out.cell (HRG.out 1 _ rfl)
    have q2 := HS4.out.cell (HRG.out 2 _ rfl)
    have q3 := HS4.out.cell (HRG.out 3 _ rfl)
    have q4 := HS4.out.cell (HRG.out 4 _ rfl)
    have q5 := HS4.out.cell (HRG.out 5 _ rfl)
    have q6 := HS4.out.cell (HRG.out 6 _ rfl)
    rw [Nat.add_zero] at q0
    go_wp2_with fail
    refine (HC2.out _ HS4.out).mono ?_
    clear HC2
    cases R with
    | none =>
      rintro e w6 ⟨rfl, hq⟩
      have HP6 := hide' (HS4.out.pb.trans hq)
      clear hq
      go_wp2_with fail
      go_ret
      exact ⟨rfl, HP6.out⟩
    | some s2 =>
      rintro e w6 ⟨rfl, hq, hc⟩
      have HS6 := hide' (HS4.out.go hq hc)
      clear hq hc
      go_wp2_with fail
      go_ret
      exact ⟨rfl, HS6.out.pb, HS6.out.c⟩
end Go.Proofs.YtcnagbkdckipnaaGreatDoor
