/-
  PROVED: 'gimletlaw11.AskSames' returns true at every two paths that hold together at most 1048576 values and letters, and its arguments stay (the card AskSamesUptoCardSaid). The conditions: the row's tables start as the program's text lays them (the card ties them).
-/
import Derived.Test.YtcnagbkdckipnaaGreatDoorAkTabs
import Derived.Test.YtcnagbkdckipnaaGreatDoorAkOps
import Derived.Test.YtcnagbkdckipnaaGreatDoorCards
import Derived.Test.YtcnagbkdckipnaaGreatDoorTie
import Derived.SevenTiedAt
import Derived.ChangeMaps5
import Derived.OpenShut
import Derived.Deep.DeepHandedRow
namespace Go.Proofs.YtcnagbkdckipnaaGreatDoor
open Go.RowKit Go.Shelf Go.Lib
open Go.ChangeShapes Go.WideShapes Go.ChangeAt
theorem akLaidOut : laidOutB Tryz.prog = true := by kernel_rfl
/-- 'there is an input that fits', at the world in which the tables lie -/
theorem uptoA_witness {H : Type} {enc : TypeId × Value → H} {os : Os} {f : FuncId} {fn : Func} {s : OpenSpec} {conds : List PathCond} (args : Array Value) (laid : List (String × DataW Unit)) (hl : laid = theLaidA)
    (hok : Input.okWideB Tryz.checked.prog ((World.laidAll Tryz.prog os theLaidA).forCall (fun _ _ => 0) ⟨#[], args, []⟩) f ⟨#[], args, []⟩ = true)
    (fuel : Nat) {x : List (DataW H) × List (DataW H) × List MemPlace} (hx : DataW.whole enc Tryz.checked.prog ((World.laidAll Tryz.prog os theLaidA).forCall (fun _ _ => 0) ⟨#[], args, []⟩).memory fn.params.toList s.vars false args.toList fuel = some x)
    (hconds : conds.all (PathCond.test Tryz.checked.prog ⟨fn.params.toList, x.1, s.bare.plain.varTypes Tryz.checked.prog, x.2.1⟩) = true) (hkk : ∀ k, s.cond = some k → k H (x.1 ++ x.2.1) = true)
    (hsz : s.bare.sizedB enc Tryz.checked.prog fn false ((World.laidAll Tryz.prog os theLaidA).forCall (fun _ _ => 0) ⟨#[], args, []⟩).memory args fuel = true) :
    ∃ (w : World) (tape : Tape) (i : Input), w.os = os ∧ (w.forCall tape i).Shaped Tryz.checked.prog ∧ i.vars = [] ∧ Input.okWide Tryz.checked.prog (w.forCall tape i) .any w.heap.size f i ∧
      s.preRow enc Tryz.checked.prog fn conds false laid (w.forCall tape i).memory i.args ∧ ({} : Assume).holds Tryz.checked.prog (lone (Frame.enter Tryz.checked.prog f i.args .normal) [] (w.forCall tape i)) := by
  subst hl
  refine ⟨World.laidAll Tryz.prog os theLaidA, fun _ _ => 0, ⟨#[], args, []⟩, World.laidAll_os _ _ _, laidA_shaped os args, (Input.okWide_of_okWideB (base := 0) hok).1, (Input.okWide_of_okWideB hok).2, OpenSpec.preRow_of_cond fuel hx hconds hkk hsz (laidA_holds os args), ?_⟩
  simp only [Assume.holds]
  exact ⟨by simp, by simp, fun _ => Modest.zero, by simp, by simp⟩
theorem aksames_reads (os : Os) {H : Type} (enc : TypeId × Value → H) : ∃ places, DataW.whole enc Tryz.checked.prog ((World.laidAll Tryz.prog os theLaidA).forCall (fun _ _ => 0) ⟨#[], #[.agg #[.slice none 0 0], .agg #[.slice none 0 0]], []⟩).memory Tryz.f4.params.toList (Rows.OpenSpec.upto Rows.askSamesSpec).vars false #[Value.agg #[.slice none 0 0], .agg #[.slice none 0 0]].toList 8 = some ([.agg [.nil], .agg [.nil]], [], places) :=
  ⟨[], by kernel_rfl⟩
set_option maxHeartbeats 1600000 in
set_option maxRecDepth 100000 in
theorem aksames_lifted (os : Os) (started : os.Started) (H : Type) (enc : TypeId × Value → H) (F : Stop.Interp) :
    ReturnsInHanded {} Tryz.checked os 4 .any ((Rows.OpenSpec.upto Rows.askSamesSpec).preRow enc Tryz.prog Tryz.f4 Rows.askSamesUptoRow.domain false Rows.askSamesUptoRow.laid) (((Rows.OpenSpec.upto Rows.askSamesSpec).at F).post enc Tryz.prog Tryz.f4 false true false false) := by
  obtain ⟨places, hx⟩ := aksames_reads os enc
  refine returnsInHanded_of_row (C := Tryz.checked) (s := Rows.OpenSpec.upto Rows.askSamesSpec) own started (by kernel_rfl) Tryz.func4
    (uptoA_witness (fn := Tryz.f4) #[.agg #[.slice none 0 0], .agg #[.slice none 0 0]] _ rfl (by kernel_rfl) 8 hx (by kernel_rfl) (fun k hk => by cases hk; kernel_rfl) (by kernel_rfl)) ?_
  intro W base args ds gs before hval0 hW _ hcond _ hL _ _
  have hk := hcond _ rfl
  have hval : ∀ (j : Nat) t v, Tryz.f4.params[j]? = some t → args[j]? = some v → Value.okWide Tryz.prog W .any base t v := hval0
  have hW' := hW
  obtain ⟨p, q, hA0, hV, rfl, _, _⟩ := hW
  have hA : DataW.TrodAll enc Tryz.prog W 0 (fun _ => true) true Tryz.f4.params.toList args.toList ds p := hA0
  rw [Tryz.params4] at hA hval
  obtain ⟨v0, vs0, d0, ds0, p0, q0, hargs, rfl, rfl, h0, r0⟩ := trodAll_cons hA
  obtain ⟨v1, vs1, d1, ds1, p1, q1, rfl, rfl, rfl, h1, r1⟩ := trodAll_cons r0
  obtain ⟨rfl, rfl, rfl⟩ := trodAll_nil r1
  obtain rfl : args = #[v0, v1] := by cases args; simp_all
  obtain ⟨rfl, rfl⟩ := trodVars_none hV
  obtain ⟨cs, rfl, hcs⟩ := okWide_struct Tryz.underlying25 (hval 0 25 v0 rfl rfl)
  obtain ⟨cs1, rfl, hcs1⟩ := okWide_struct Tryz.underlying25 (hval 1 25 v1 rfl rfl)
  have k0 := h0
  have k1 := h1
  have lt0 : ∀ x ∈ p0, x.block < W.heap.size := by obtain ⟨m, hm⟩ := k0; exact DataW.trod_lt m _ _ _ hm
  have lt1 : ∀ x ∈ p1, x.block < W.heap.size := by obtain ⟨m, hm⟩ := k1; exact DataW.trod_lt m _ _ _ hm
  clear hA0 hval0 hargs r0 r1 hA
  have b0 := Ak.bulk_bound hk (d := d0) (by simp)
  have b1 := Ak.bulk_bound hk (d := d1) (by simp)
  obtain ⟨t1, t2, t3, t4, t5⟩ := tabsA_of_laid hL
  obtain ⟨q, c, l, rfl, u1, u2⟩ := akPath_of hcs h0 b0
  obtain ⟨q', c', m, rfl, u3, u4⟩ := akPath_of hcs1 h1 b1
  have hc := akLawSames l m W q q' c c' u1 u3 u2 u4 t1 t2 t3 t4 t5
  refine hc.mono fun e W' ⟨he, bel⟩ => ?_
  subst he
  exact ⟨_, rfl, _, _, _, [], _, [], hW', trodAll_mk1 (shut_bool Tryz.underlying4 _), (trodAll_cons_mk (Below.trod akLaidOut (by kernel_rfl) (of_decide_eq_true (by kernel_rfl)) k0 bel lt0) (trodAll_cons_mk (Below.trod akLaidOut (by kernel_rfl) (of_decide_eq_true (by kernel_rfl)) k1 bel lt1) trodAll_mk0)), rfl, bel.frame _, fun h => by cases h⟩
theorem aksames_said : Rows.AskSamesUptoSaid :=
  OpenClaim.holds_of_cond 4 Tryz.f4 rfl rfl rfl rfl rfl rfl rfl ⟨rfl, rfl, rfl, rfl, rfl⟩ rfl rfl rfl rfl rfl (by kernel_rfl) Tryz.func4 (by kernel_rfl)
    (of_decide_eq_true (by kernel_rfl)) (by unfold Func.isWrapper; rw [if_neg (by decide +kernel)]; exact ⟨rfl, rfl⟩)
    (fun os started H enc _ F => by rw [OpenClaim.pre_eq_preRow]; exact aksames_lifted os started H enc F)
theorem aksames_plain (f : FuncId) (fn : Func) (hf : Tryz.pinned.checked.prog.funcNamed "gimlet/gimletlaw11.AskSames" = some f) (hfn : Tryz.pinned.checked.prog.funcs[f]? = some fn) :
    true = Tryz.pinned.checked.prog.looks [] ∧ ∀ (j : Nat) t, fn.params[j]? = some t → Tryz.pinned.checked.prog.wantsStandIn t = false := by
  obtain rfl : f = 4 := Option.some.inj ((show Tryz.prog.funcNamed "gimlet/gimletlaw11.AskSames" = some 4 by kernel_rfl).symm.trans hf) |>.symm
  obtain rfl : fn = Tryz.f4 := (Option.some.inj (Tryz.func4.symm.trans hfn)).symm
  refine ⟨by kernel_rfl, fun j t ht => ?_⟩
  rw [Tryz.params4] at ht
  have hm : t ∈ [25] := by simpa using Array.mem_of_getElem? ht
  have hall : ([25].all fun u => !Tryz.prog.wantsStandIn u) = true := by kernel_rfl
  exact (show Tryz.prog.wantsStandIn t = false by simpa using List.all_eq_true.1 hall t hm)
theorem askSames_card : Rows.AskSamesUptoCardSaid :=
  Claim7.holds_tied_plain_at .later [] _ _ _ _ aksames_said (fun _ h => by cases h) (by kernel_rfl) (fun _ h => by cases h) askSamesUpto_row_tie rfl ⟨rfl, rfl⟩ (by kernel_rfl) rfl aksames_plain (by kernel_rfl)
#print axioms askSames_card
end Go.Proofs.YtcnagbkdckipnaaGreatDoor
