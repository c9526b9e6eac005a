/-
  PROVED: 'gimletlaw14.KleeneValues' returns true at every list of numbers and every number, and its arguments stay (the statement KleeneValuesSaid). No condition.
-/
import Derived.Test.YtdmimkljokjfdaaKlValLaw
import Derived.Test.YtdmimkljokjfdaaRows
import Derived.ProofKit
import Derived.SizedLaws
import Derived.Lib.RowBridge
namespace Go.Proofs.Ytdmimkljokjfdaa
open Go.ChangeShapes Go.WideShapes Go.ChangeAt Go.RowKit

theorem klOwn : ownKnob Try.prog.godebug = none := by kernel_rfl
theorem klLaidOut : laidOutB Try.prog = true := by kernel_rfl
theorem klCellsT : Try.prog.cellsOf 23 = 1 := by kernel_rfl
theorem klBytesT : Try.prog.bytesOf 23 = 8 := by kernel_rfl

set_option maxHeartbeats 800000 in
set_option maxRecDepth 100000 in
theorem klval_lifted (os : Os) (started : os.Started) (H : Type) (enc : TypeId × Value → H) :
    ReturnsInHanded {} Try.checked os 3 .any (Rows.kleeneValuesSpec.pre6 enc Try.prog Try.f3 Rows.kleeneValuesRow.domain false) (Rows.kleeneValuesSpec.post enc Try.prog Try.f3 false true false false) := by
  refine returnsInHanded_of_change_sized (C := Try.checked) klOwn started (by kernel_rfl) Try.func3
    (ChangeSpec.witness6 (enc := enc) (C := Try.checked) false ⟨#[], #[.slice none 0 0, .int .i64 0], []⟩ 8 (by kernel_rfl) (by kernel_rfl) (by kernel_rfl) (by kernel_rfl)) ?_
  intro W base args ds gs before hval0 hW _ hsz0 _
  have hsz : (DataW.weightsEach Try.prog (Try.f3.params.toList ++ Rows.kleeneValuesSpec.plain.varTypes Try.prog) (ds ++ gs)).all (· ≤ reachBytes) = true := hsz0
  clear hsz0
  have hval : ∀ (j : Nat) t v, Try.f3.params[j]? = some t → args[j]? = some v → Value.okWide Try.prog W .any base t v := hval0
  have hW' := hW
  obtain ⟨p, q, hA0, hV, rfl, _, _⟩ := hW
  have hA : DataW.TrodAll enc Try.prog W 0 (fun _ => true) true Try.f3.params.toList args.toList ds p := hA0
  rw [Try.params3] at hA hval hsz
  obtain ⟨v0, v1, d0, d1, p0, p1, rfl, rfl, rfl, h0, h1⟩ := trodAll_two hA
  obtain ⟨rfl, rfl⟩ := trodVars_none hV
  have h1k := h1
  obtain ⟨x, rfl, rfl, rfl, wx⟩ := open_int Try.underlying23 (hval 1 23 v1 rfl rfl) h1
  obtain ⟨a0, len, cap, rfl⟩ := okWide_slice Try.underlying22 (hval 0 22 v0 rfl rfl)
  have h0k := h0
  obtain ⟨fuel, hf⟩ := h0
  clear hA0 hval0
  simp only [List.append_nil] at hW'
  have hlt : ∀ y ∈ p0, y.block < W.heap.size := fun y hy => by simpa using hW'.lt y (by simp [hy])
  have harg0 : ∀ W', Below W.heap.size W W' → DataW.Trod enc Try.prog W' 0 (fun b => decide (b < W.heap.size)) true 22 (.slice a0 len cap) d0 p0 := fun W' hb =>
    Below.trod klLaidOut (by kernel_rfl) (of_decide_eq_true (by kernel_rfl)) h0k hb hlt
  have harg1 : ∀ W', Below W.heap.size W W' → DataW.Trod enc Try.prog W' 0 (fun b => decide (b < W.heap.size)) true 23 (.int .i64 x) (.lit (.int .i64 x)) [] := fun W' hb =>
    Below.trod klLaidOut (by kernel_rfl) (of_decide_eq_true (by kernel_rfl)) h1k hb (fun y hy => by cases hy)
  have fin : ∀ l : List Int, Kl.TsN W (.slice a0 len cap) l → l.length ≤ 17592186044416 → Calls Try.prog 3 #[.slice a0 len cap, .int .i64 x] W fun e W' => ∃ v, e = .returned v ∧ Rows.kleeneValuesSpec.post enc Try.prog Try.f3 false true false false W #[.slice a0 len cap, .int .i64 x] v W' := fun l hl hn => (lawValues _ l x W hl hn).mono fun e W' ⟨he, hb⟩ => by
    subst he
    exact ⟨_, rfl, _, _, _, [], _, [], hW', trodAll_mk1 (shut_bool Try.underlying4 _), trodAll_mk2 (harg0 W' hb) (harg1 W' hb), rfl, hb.frame _, fun h => by cases h⟩
  rcases open_ints Try.underlying22 Try.underlying23 klCellsT hf with ⟨hcs, hx⟩ | ⟨a, len', cap', zs, hcs, _, hl, hmx, hz, hx, hcell, hwz⟩
  · simp [Value.cells] at hcs
    obtain ⟨rfl, rfl, rfl⟩ := hcs
    exact fin [] ⟨Kl.Ts.none W, fun n c e => by cases e; rfl⟩ (by simp)
  · simp [Value.cells] at hcs
    obtain ⟨rfl, rfl, rfl⟩ := hcs
    simp only [Prod.mk.injEq] at hx
    obtain ⟨rfl, rfl⟩ := hx
    simp only [if_true] at hz
    have hreach : len ≤ 17592186044416 ∧ zs.length ≤ 17592186044416 := by
      have := sized_slice hsz (j := 0) (t := 22) (e := 23) rfl rfl Try.underlying22
      rw [klBytesT] at this
      simp only [lits, List.length_map, List.length_take, List.length_drop, reachBytes] at this
      omega
    have hll : (zs.take len).length = len := by rw [List.length_take]; omega
    refine fin (zs.take len) ⟨⟨some a, cap, by rw [hll], by rw [hll]; omega, by omega, fun h0 => ?_⟩, fun n c e => by cases e⟩ (by rw [hll]; omega)
    obtain ⟨b, off, spot⟩ := a
    rw [hll] at h0
    have hspot : spot = none := by simpa [Addr.add] using World.cell?_spot (hcell 0 (by omega))
    subst hspot
    refine ⟨b, off, rfl, fun i y hy => ?_⟩
    have hi : i < len := by have := (List.getElem?_eq_some_iff.1 hy).1; omega
    have q := hcell i (by omega)
    rw [add_plain] at q
    rw [q]
    rw [List.getElem?_take_of_lt hi] at hy
    rw [List.getD_eq_getElem?_getD, hy]
    rfl

theorem kleeneValues_holds : Rows.KleeneValuesSaid :=
  OpenClaim.holds_of_wide 3 Try.f3 rfl rfl rfl rfl rfl rfl rfl ⟨rfl, rfl, rfl, rfl, rfl⟩ rfl rfl rfl rfl rfl (by kernel_rfl) Try.func3 (by kernel_rfl)
    (of_decide_eq_true (by kernel_rfl)) (by unfold Func.isWrapper; first | (rw [if_pos (by decide +kernel)]; kernel_rfl) | (rw [if_neg (by decide +kernel)]; exact ⟨rfl, rfl⟩))
    (fun os started H enc _ => klval_lifted os started H enc)
#print axioms kleeneValues_holds
end Go.Proofs.Ytdmimkljokjfdaa
