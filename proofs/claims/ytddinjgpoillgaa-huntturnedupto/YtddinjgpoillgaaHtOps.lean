/-
  What the second form's bound gives; what a row tells of an Asked and of a row of numbers that came in.
-/
import Derived.Test.YtddinjgpoillgaaHtOnceM
import Derived.Test.YtddinjgpoillgaaRows
import Derived.ProofKit
import Derived.OpenShut
import Derived.JoinedCond
import Derived.Lib.RowBridge
namespace Go.Proofs.Ytddinjgpoillgaa
open Go.RowKit Go.Lib
open Go.ChangeShapes Go.WideShapes Go.ChangeAt Go.Joins
theorem htBulkOne {H : Type} (d : DataW H) : 1 ≤ Rows.uptoBulk d := by
  cases d with
  | lit l => cases l <;> simp [Rows.uptoBulk]
  | nil => simp [Rows.uptoBulk]
  | ptr d => simp [Rows.uptoBulk]
  | slice elems spare => simp [Rows.uptoBulk]
  | agg parts => simp [Rows.uptoBulk]
  | iface t d => simp [Rows.uptoBulk]
  | map entries => simp [Rows.uptoBulk]
  | held h => simp [Rows.uptoBulk]
theorem htBulkLen {H : Type} (l : List (DataW H)) : l.length ≤ Rows.uptoBulkAll l := by
  induction l with
  | nil => simp [Rows.uptoBulkAll]
  | cons x r ih => have := htBulkOne x; simp only [Rows.uptoBulkAll, List.length_cons]; omega
theorem htBulkPart {H : Type} {d : DataW H} {l : List (DataW H)} (h : d ∈ l) : Rows.uptoBulk d ≤ Rows.uptoBulkAll l := by
  induction l with
  | nil => cases h
  | cons x r ih =>
    simp only [Rows.uptoBulkAll]
    cases List.mem_cons.1 h with
    | inl e => subst e; omega
    | inr e => have := ih e; omega
theorem htBulk {H : Type} {l : List (DataW H)} (hk : Rows.uptoSmall H l = true) {d : DataW H} (h : d ∈ l) : Rows.uptoBulk d ≤ 1048576 := Nat.le_trans (htBulkPart h) (of_decide_eq_true hk)
set_option maxRecDepth 100000 in
set_option maxHeartbeats 800000 in
/-- a comparison that came in -/
theorem htAskedOf {H : Type} {enc : TypeId × Value → H} {W : World} {cs : Array Value} {d : DataW H} {p : List MemPlace} (hcs : cs.size = Try.prog.cellsOf 23) (h : DataW.Trod enc Try.prog W 0 (fun _ => true) true 23 (Value.agg cs) d p) :
    ∃ (C : Int) (s : ByteArray) (N : Int), cs = #[.int .i64 C, .string s, .int .i64 N] ∧ s.data.toList.length ≤ Rows.uptoBulk d ∧ N ≤ 9223372036854775807 ∧ -9223372036854775808 ≤ C ∧ C ≤ 9223372036854775807 := by
  rw [show Try.prog.cellsOf 23 = 3 from by kernel_rfl] at hcs
  obtain ⟨L⟩ := cs
  match L, hcs with
  | [v0, v1, v2], _ =>
    obtain ⟨fuel, hf⟩ := h
    change DataW.trod enc Try.prog W 0 (fun _ => true) true fuel 23 [v0, v1, v2] = some (d, p) at hf
    obtain ⟨ys, k, hk, hxy, _, hxl, hfl⟩ := DataW.trod_struct Try.underlying23 hf
    match ys, hxl with
    | [y0, y1, y2], _ =>
      have g0 := hfl 0 _ rfl
      have g1 := hfl 1 _ rfl
      have g2 := hfl 2 _ rfl
      have c0 : Try.prog.cellsOf 3 = 1 := by kernel_rfl
      have c1 : Try.prog.cellsOf 9 = 1 := by kernel_rfl
      simp [c0, c1] at g0 g1 g2
      obtain ⟨C, hC, _, wC⟩ := DataW.trod_int Try.underlying3 g0
      obtain ⟨T, hT, hT2, _⟩ := DataW.trod_string Try.underlying9 g1
      obtain ⟨N, hN, _, wN⟩ := DataW.trod_int Try.underlying3 g2
      obtain rfl : v0 = .int .i64 C := by simpa using hC
      obtain rfl : v1 = .string T := by simpa using hT
      obtain rfl : v2 = .int .i64 N := by simpa using hN
      have b1 : -9223372036854775808 ≤ C ∧ C ≤ 9223372036854775807 := by simpa [Lit.wf, IntKind.min, IntKind.max, IntKind.signed, IntKind.bits] using wC
      have b2 : -9223372036854775808 ≤ N ∧ N ≤ 9223372036854775807 := by simpa [Lit.wf, IntKind.min, IntKind.max, IntKind.signed, IntKind.bits] using wN
      refine ⟨C, T, N, rfl, ?_, b2.2, b1.1, b1.2⟩
      simp only [Prod.mk.injEq] at hxy
      rw [hxy.1]
      have h1 : y1.1 = .lit (.string T.data.toList) := congrArg Prod.fst hT2
      simp only [List.map, Rows.uptoBulk, Rows.uptoBulkAll, h1]
      omega
set_option maxRecDepth 100000 in
/-- numbers that came in -/
theorem htRiOf {H : Type} {enc : TypeId × Value → H} {W : World} {a : Option Addr} {len cap : Nat} {d : DataW H} {p : List MemPlace} (h : DataW.Trod enc Try.prog W 0 (fun _ => true) true 43 (Value.slice a len cap) d p) :
    ∃ l : List Int, Ht.Ri W (.slice a len cap) l ∧ l.length ≤ Rows.uptoBulk d := by
  obtain ⟨fuel, hf⟩ := h
  rcases open_ints Try.underlying43 Try.underlying3 (by kernel_rfl) hf with ⟨hcs, hx⟩ | ⟨a, len', cap', zs, hcs, _, hl, hmx, hz, hx, hcell, hwz⟩
  · simp [Value.cells] at hcs
    obtain ⟨rfl, rfl, rfl⟩ := hcs
    exact ⟨[], ⟨none, 0, rfl, by simp, by simp, by simp⟩, Nat.zero_le _⟩
  · simp [Value.cells] at hcs
    obtain ⟨rfl, rfl, rfl⟩ := hcs
    simp only [if_true] at hz
    have hmx2 : cap ≤ 9223372036854775807 := by unfold maxLen at hmx; omega
    have hll : (zs.take len).length = len := by rw [List.length_take]; omega
    refine ⟨zs.take len, ⟨some a, cap, by rw [hll], by rw [hll]; omega, hmx2, fun h0 => ?_⟩, ?_⟩
    · obtain ⟨b, off, spot⟩ := a
      rw [hll] at h0
      have hspot : spot = none := by simpa [Addr.add] using World.cell?_spot (hcell 0 (by omega))
      subst hspot
      refine ⟨b, off, rfl, fun i y hy => ?_⟩
      have hi : i < len := by have := (List.getElem?_eq_some_iff.1 hy).1; omega
      have q := hcell i (by omega)
      rw [add_plain] at q
      rw [q]
      rw [List.getElem?_take_of_lt hi] at hy
      rw [List.getD_eq_getElem?_getD, hy]
      rfl
    · have hd' := congrArg Prod.fst hx
      simp only at hd'
      rw [hd', hll]
      have e : (lits (H := H) .i64 (zs.take len)).length = len := by simp [lits]; omega
      have := htBulkLen (lits (H := H) .i64 (zs.take len))
      simp only [Rows.uptoBulk]
      omega
end Go.Proofs.Ytddinjgpoillgaa
