/-
  PROVED: 'gimletlaw14.KleeneMemory' returns true at every formula and any list of values, and its arguments stay (the statement KleeneMemorySaid). No condition.
-/
import Derived.Test.YtmpmlccomgepjaaKlMemo
import Derived.Test.YtmpmlccomgepjaaKlOps
import Derived.Test.YtmpmlccomgepjaaRows
import Derived.ProofKit
import Derived.SizedLaws
import Derived.Lib.RowBridge
namespace Go.Proofs.Ytmpmlccomgepjaa
open Go.ChangeShapes Go.WideShapes Go.ChangeAt Go.RowKit

theorem klOwnY : ownKnob Try.prog.godebug = none := by kernel_rfl
theorem klLaidY : laidOutB Try.prog = true := by kernel_rfl
theorem klCellsY : Try.prog.cellsOf 23 = 1 := by kernel_rfl
theorem klBytesY : Try.prog.bytesOf 23 = 8 := by kernel_rfl

set_option maxHeartbeats 1600000 in
set_option maxRecDepth 100000 in
theorem klmemo_lifted (os : Os) (started : os.Started) (H : Type) (enc : TypeId × Value → H) :
    ReturnsInHanded {} Try.checked os 3 .any (Rows.kleeneMemorySpec.pre6 enc Try.prog Try.f3 Rows.kleeneMemoryRow.domain false) (Rows.kleeneMemorySpec.post enc Try.prog Try.f3 false true false false) := by
  refine returnsInHanded_of_change_sized (C := Try.checked) klOwnY started (by kernel_rfl) Try.func3
    (ChangeSpec.witness6 (enc := enc) (C := Try.checked) false ⟨#[], #[.agg #[.int .i64 0, .int .i64 0, .int .i64 0, .slice none 0 0], .slice none 0 0], []⟩ 8 (by kernel_rfl) (by kernel_rfl) (by kernel_rfl) (by kernel_rfl)) ?_
  intro W base args ds gs before hval0 hW _ hsz0 _
  have hsz : (DataW.weightsEach Try.prog (Try.f3.params.toList ++ Rows.kleeneMemorySpec.plain.varTypes Try.prog) (ds ++ gs)).all (· ≤ reachBytes) = true := hsz0
  clear hsz0
  have hval : ∀ (j : Nat) t v, Try.f3.params[j]? = some t → args[j]? = some v → Value.okWide Try.prog W .any base t v := hval0
  have hW' := hW
  obtain ⟨p, q, hA0, hV, rfl, _, _⟩ := hW
  have hA : DataW.TrodAll enc Try.prog W 0 (fun _ => true) true Try.f3.params.toList args.toList ds p := hA0
  rw [Try.params3] at hA hval hsz
  obtain ⟨v0, vs0, d0, ds0, p0, q0, hargs, rfl, rfl, h0, r0⟩ := trodAll_cons hA
  obtain ⟨v1, vs1, d1, ds1, p1, q1, rfl, rfl, rfl, h1, r1⟩ := trodAll_cons r0
  obtain ⟨rfl, rfl, rfl⟩ := trodAll_nil r1
  obtain rfl : args = #[v0, v1] := by cases args; simp_all
  obtain ⟨rfl, rfl⟩ := trodVars_none hV
  obtain ⟨cs, rfl, hcs⟩ := okWide_struct Try.underlying26 (hval 0 26 v0 rfl rfl)
  obtain ⟨a1, n1, c1, rfl⟩ := okWide_slice Try.underlying27 (hval 1 27 v1 rfl rfl)
  have k0 := h0
  have k1 := h1
  have lt0 : ∀ x ∈ p0, x.block < W.heap.size := by obtain ⟨m, hm⟩ := k0; exact DataW.trod_lt m _ _ _ hm
  have lt1 : ∀ x ∈ p1, x.block < W.heap.size := by obtain ⟨m, hm⟩ := k1; exact DataW.trod_lt m _ _ _ hm
  clear hA0 hval0 hargs r0 r1 hA
  obtain ⟨x, rfl, hx⟩ := klForm_of hcs h0
  have open1 : ∀ (j : Nat) (a0 : Option Addr) (len cap : Nat) (d : DataW H) (pp : List MemPlace), ([26, 27] ++ Rows.kleeneMemorySpec.plain.varTypes Try.prog)[j]? = some 27 → ([d0, d1] ++ [])[j]? = some d → DataW.Trod enc Try.prog W 0 (fun _ => true) true 27 (.slice a0 len cap) d pp → ∃ l : List Int, Kl.TsN W (.slice a0 len cap) l ∧ l.length ≤ 17592186044416 := by
    intro j a0 len cap d pp hj hd ⟨fuel, hf⟩
    rcases open_ints Try.underlying27 Try.underlying23 klCellsY hf with ⟨hcs, hx⟩ | ⟨a, len', cap', zs, hcs, _, hl, hmx, hz, hx, hcell, hwz⟩
    · simp [Value.cells] at hcs
      obtain ⟨rfl, rfl, rfl⟩ := hcs
      exact ⟨[], ⟨Kl.Ts.none W, fun n c e => by cases e; rfl⟩, by simp⟩
    · simp [Value.cells] at hcs
      obtain ⟨rfl, rfl, rfl⟩ := hcs
      simp only [Prod.mk.injEq] at hx
      obtain ⟨rfl, rfl⟩ := hx
      simp only [if_true] at hz
      have hreach : len ≤ 17592186044416 ∧ zs.length ≤ 17592186044416 := by
        have := sized_slice hsz (j := j) (t := 27) (e := 23) hj hd Try.underlying27
        rw [klBytesY] at this
        simp only [lits, List.length_map, List.length_take, List.length_drop, reachBytes] at this
        omega
      have hll : (zs.take len).length = len := by rw [List.length_take]; omega
      refine ⟨zs.take len, ⟨⟨some a, cap, by rw [hll], by rw [hll]; omega, by omega, fun h0 => ?_⟩, fun n c e => by cases e⟩, by rw [hll]; omega⟩
      obtain ⟨b, off, spot⟩ := a
      rw [hll] at h0
      have hspot : spot = none := by simpa [Addr.add] using World.cell?_spot (hcell 0 (by omega))
      subst hspot
      refine ⟨b, off, rfl, fun i y hy => ?_⟩
      have hi : i < len := by have := (List.getElem?_eq_some_iff.1 hy).1; omega
      have q := hcell i (by omega)
      rw [add_plain] at q
      rw [q]
      rw [List.getElem?_take_of_lt hi] at hy
      rw [List.getD_eq_getElem?_getD, hy]
      rfl
  obtain ⟨l1, t1, b1⟩ := open1 1 a1 n1 c1 d1 p1 rfl rfl h1
  refine (lawMemory14 x _ l1 W hx t1 b1).mono fun e W' ⟨he, hb⟩ => ?_
  subst he
  exact ⟨_, rfl, _, _, _, [], _, [], hW', trodAll_mk1 (shut_bool Try.underlying4 _), (trodAll_cons_mk (Below.trod klLaidY (by kernel_rfl) (of_decide_eq_true (by kernel_rfl)) k0 hb lt0) (trodAll_cons_mk (Below.trod klLaidY (by kernel_rfl) (of_decide_eq_true (by kernel_rfl)) k1 hb lt1) trodAll_mk0)), rfl, hb.frame _, fun h => by cases h⟩

theorem kleeneMemory_holds : Rows.KleeneMemorySaid :=
  OpenClaim.holds_of_wide 3 Try.f3 rfl rfl rfl rfl rfl rfl rfl ⟨rfl, rfl, rfl, rfl, rfl⟩ rfl rfl rfl rfl rfl (by kernel_rfl) Try.func3 (by kernel_rfl)
    (of_decide_eq_true (by kernel_rfl)) (by unfold Func.isWrapper; first | (rw [if_pos (by decide +kernel)]; kernel_rfl) | (rw [if_neg (by decide +kernel)]; exact ⟨rfl, rfl⟩))
    (fun os started H enc _ => klmemo_lifted os started H enc)
#print axioms kleeneMemory_holds
end Go.Proofs.Ytmpmlccomgepjaa
