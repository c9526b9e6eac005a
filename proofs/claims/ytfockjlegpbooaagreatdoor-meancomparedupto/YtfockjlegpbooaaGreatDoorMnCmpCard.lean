/-
  PROVED: 'gimletlaw12.MeanCompared' returns true at every input, where what it reads is of bulk at most 1048576 (the card MeanComparedUptoCardSaid). The conditions: the program's table of ranges and utf8's tables, where it reads them, start as the program's text lays them (the card ties them).
-/
import Derived.Test.YtfockjlegpbooaaGreatDoorMnCmpLaw
import Derived.Test.YtfockjlegpbooaaGreatDoorMnPair
import Derived.Test.YtfockjlegpbooaaGreatDoorMnPair
import Derived.Test.YtfockjlegpbooaaGreatDoorCards
import Derived.Test.YtfockjlegpbooaaGreatDoorTie
import Derived.SevenTiedAt
import Derived.ChangeMaps5
import Derived.OpenShut
namespace Go.Proofs.YtfockjlegpbooaaGreatDoor
open Go.RowKit Go.Shelf Go.Lib
open Go.ChangeShapes Go.WideShapes Go.ChangeAt

theorem mncmp_reads (os : Os) {H : Type} (enc : TypeId × Value → H) : ∃ places, DataW.whole enc Tryz.checked.prog ((World.laidAll Tryz.prog os theLaid).forCall (fun _ _ => 0) ⟨#[], #[.agg #[.string ⟨#[]⟩, .string ⟨#[]⟩, .int .i64 0, .int .i64 0]], []⟩).memory Tryz.f5.params.toList (Rows.OpenSpec.upto Rows.meanComparedSpec).vars false #[Value.agg #[.string ⟨#[]⟩, .string ⟨#[]⟩, .int .i64 0, .int .i64 0]].toList 8 = some ([.agg [.lit (.string []), .lit (.string []), .lit (.int .i64 0), .lit (.int .i64 0)]], [], places) :=
  ⟨[], by kernel_rfl⟩

set_option maxRecDepth 100000 in
theorem mncmp_lifted (os : Os) (started : os.Started) (H : Type) (enc : TypeId × Value → H) (F : Stop.Interp) :
    ReturnsInHanded {} Tryz.checked os 5 .any ((Rows.OpenSpec.upto Rows.meanComparedSpec).preRow enc Tryz.prog Tryz.f5 Rows.meanComparedUptoRow.domain false Rows.meanComparedUptoRow.laid) (((Rows.OpenSpec.upto Rows.meanComparedSpec).at F).post enc Tryz.prog Tryz.f5 false true false false) := by
  obtain ⟨places, hx⟩ := mncmp_reads os enc
  refine returnsInHanded_of_row (C := Tryz.checked) (s := Rows.OpenSpec.upto Rows.meanComparedSpec) own started (by kernel_rfl) Tryz.func5
    (upto_witness (fn := Tryz.f5) #[.agg #[.string ⟨#[]⟩, .string ⟨#[]⟩, .int .i64 0, .int .i64 0]] _ rfl (by kernel_rfl) 8 hx (by kernel_rfl) (fun k hk => by cases hk; kernel_rfl) (by kernel_rfl)) ?_
  intro W base args ds gs before hval0 hW _ hcond _ hL _ _
  have hk := hcond _ rfl
  have hval : ∀ (j : Nat) t v, Tryz.f5.params[j]? = some t → args[j]? = some v → Value.okWide Tryz.prog W .any base t v := hval0
  have hW' := hW
  obtain ⟨p, q, hA0, hV, rfl, _, _⟩ := hW
  have hA : DataW.TrodAll enc Tryz.prog W 0 (fun _ => true) true Tryz.f5.params.toList args.toList ds p := hA0
  rw [Tryz.params5] at hA hval
  obtain ⟨v0, vs0, d0, ds0, p0, q0, hargs, rfl, rfl, h0, r0⟩ := trodAll_cons hA
  obtain ⟨rfl, rfl, rfl⟩ := trodAll_nil r0
  obtain rfl : args = #[v0] := by cases args; simp_all
  obtain ⟨rfl, rfl⟩ := trodVars_none hV
  obtain ⟨cs, rfl, hcs⟩ := okWide_struct Tryz.underlying55 (hval 0 55 v0 rfl rfl)
  have k0 := h0
  have lt0 : ∀ x ∈ p0, x.block < W.heap.size := by obtain ⟨m, hm⟩ := k0; exact DataW.trod_lt m _ _ _ hm
  have hB := bulk_bound hk (d := d0) (by simp)
  obtain ⟨s0, s1, c, num, rfl, b0, b1⟩ := pair_of hcs h0
  clear hA0 hval0
  obtain ⟨hT, hS⟩ := tabs_of_laid hL
  have e0 : Rn.arr (Rn.lf s0.data.toList) s0.data.toList.length = s0 := by rw [Rn.arr_lf]
  have e1 : Rn.arr (Rn.lf s1.data.toList) s1.data.toList.length = s1 := by rw [Rn.arr_lf]
  have hc := lawCompared (Rn.lf s0.data.toList) s0.data.toList.length (Rn.lf s1.data.toList) s1.data.toList.length c num W (Rn.lf_lt _) (Rn.lf_lt _) (by omega) (by omega) hS hT
  rw [e0, e1] at hc
  refine hc.mono fun e W' ⟨he, bel⟩ => ?_
  subst he
  exact ⟨_, rfl, _, _, _, [], _, [], hW', trodAll_mk1 (shut_bool Tryz.underlying4 _), (trodAll_cons_mk (Below.trod mnLaidOut (by kernel_rfl) (of_decide_eq_true (by kernel_rfl)) k0 bel lt0) trodAll_mk0), rfl, bel.frame _, fun h => by cases h⟩

theorem mncmp_said : Rows.MeanComparedUptoSaid :=
  OpenClaim.holds_of_cond 5 Tryz.f5 rfl rfl rfl rfl rfl rfl rfl ⟨rfl, rfl, rfl, rfl, rfl⟩ rfl rfl rfl rfl rfl (by kernel_rfl) Tryz.func5 (by kernel_rfl)
    (of_decide_eq_true (by kernel_rfl)) (by unfold Func.isWrapper; rw [if_neg (by decide +kernel)]; exact ⟨rfl, rfl⟩)
    (fun os started H enc _ F => by rw [OpenClaim.pre_eq_preRow]; exact mncmp_lifted os started H enc F)

theorem mncmp_plain (f : FuncId) (fn : Func) (hf : Tryz.pinned.checked.prog.funcNamed "gimlet/gimletlaw12.MeanCompared" = some f) (hfn : Tryz.pinned.checked.prog.funcs[f]? = some fn) :
    false = Tryz.pinned.checked.prog.looks [] ∧ ∀ (j : Nat) t, fn.params[j]? = some t → Tryz.pinned.checked.prog.wantsStandIn t = false := by
  obtain rfl : f = 5 := Option.some.inj ((show Tryz.prog.funcNamed "gimlet/gimletlaw12.MeanCompared" = some 5 by kernel_rfl).symm.trans hf) |>.symm
  obtain rfl : fn = Tryz.f5 := (Option.some.inj (Tryz.func5.symm.trans hfn)).symm
  refine ⟨by kernel_rfl, fun j t ht => ?_⟩
  rw [Tryz.params5] at ht
  have hm : t ∈ [55] := by simpa using Array.mem_of_getElem? ht
  have hall : ([55].all fun u => !Tryz.prog.wantsStandIn u) = true := by kernel_rfl
  exact (show Tryz.prog.wantsStandIn t = false by simpa using List.all_eq_true.1 hall t hm)

theorem meanCompared_card : Rows.MeanComparedUptoCardSaid :=
  Claim7.holds_tied_plain_at .later [] _ _ _ _ mncmp_said (fun _ h => by cases h) (by kernel_rfl) (fun _ h => by cases h) meanComparedUpto_row_tie rfl ⟨rfl, rfl⟩ (by kernel_rfl) rfl mncmp_plain (by kernel_rfl)
#print axioms meanCompared_card
end Go.Proofs.YtfockjlegpbooaaGreatDoor
