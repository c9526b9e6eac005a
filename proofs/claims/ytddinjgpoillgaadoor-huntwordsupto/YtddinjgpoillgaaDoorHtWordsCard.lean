/-
  PROVED: 'gimletlaw16.HuntWords' returns true at every comparison and text that hold together at most 1048576 values and letters, and its arguments stay (the card HuntWordsUptoCardSaid). The conditions: utf8's two tables start as the program's text lays them (the card ties them).
-/
import Derived.Test.YtddinjgpoillgaaDoorHtWords
import Derived.Test.YtddinjgpoillgaaDoorHtOps
import Derived.Test.YtddinjgpoillgaaDoorRnBulk
import Derived.Test.YtddinjgpoillgaaDoorCards
import Derived.Test.YtddinjgpoillgaaDoorTie
import Derived.SevenTiedAt
import Derived.ChangeMaps5
import Derived.OpenShut
namespace Go.Proofs.YtddinjgpoillgaaDoor
open Go.RowKit Go.Shelf Go.Lib
open Go.ChangeShapes Go.WideShapes Go.ChangeAt
theorem htLaidW : laidOutB Tryd.prog = true := by kernel_rfl
theorem htwords_reads (os : Os) {H : Type} (enc : TypeId × Value → H) : ∃ places, DataW.whole enc Tryd.checked.prog ((World.laidAll Tryd.prog os theLaid).forCall (fun _ _ => 0) ⟨#[], #[.agg #[.int .i64 0, .string ⟨#[]⟩, .int .i64 0], .string ⟨#[]⟩], []⟩).memory Tryd.f3.params.toList (Rows.OpenSpec.upto Rows.huntWordsSpec).vars false #[Value.agg #[.int .i64 0, .string ⟨#[]⟩, .int .i64 0], .string ⟨#[]⟩].toList 8 = some ([.agg [.lit (.int .i64 0), .lit (.string []), .lit (.int .i64 0)], .lit (.string [])], [], places) :=
  ⟨[], by kernel_rfl⟩
set_option maxHeartbeats 1600000 in
set_option maxRecDepth 100000 in
theorem htwords_lifted (os : Os) (started : os.Started) (H : Type) (enc : TypeId × Value → H) (F : Stop.Interp) :
    ReturnsInHanded {} Tryd.checked os 3 .any ((Rows.OpenSpec.upto Rows.huntWordsSpec).preRow enc Tryd.prog Tryd.f3 Rows.huntWordsUptoRow.domain false Rows.huntWordsUptoRow.laid) (((Rows.OpenSpec.upto Rows.huntWordsSpec).at F).post enc Tryd.prog Tryd.f3 false true false false) := by
  obtain ⟨places, hx⟩ := htwords_reads os enc
  refine returnsInHanded_of_row (C := Tryd.checked) (s := Rows.OpenSpec.upto Rows.huntWordsSpec) own started (by kernel_rfl) Tryd.func3
    (upto_witness (fn := Tryd.f3) #[.agg #[.int .i64 0, .string ⟨#[]⟩, .int .i64 0], .string ⟨#[]⟩] _ rfl (by kernel_rfl) 8 hx (by kernel_rfl) (fun k hk => by cases hk; kernel_rfl) (by kernel_rfl)) ?_
  intro W base args ds gs before hval0 hW _ hcond _ hL _ _
  have hk := hcond _ rfl
  have hval : ∀ (j : Nat) t v, Tryd.f3.params[j]? = some t → args[j]? = some v → Value.okWide Tryd.prog W .any base t v := hval0
  have hW' := hW
  obtain ⟨p, q, hA0, hV, rfl, _, _⟩ := hW
  have hA : DataW.TrodAll enc Tryd.prog W 0 (fun _ => true) true Tryd.f3.params.toList args.toList ds p := hA0
  rw [Tryd.params3] at hA hval
  obtain ⟨v0, vs0, d0, ds0, p0, q0, hargs, rfl, rfl, h0, r0⟩ := trodAll_cons hA
  obtain ⟨v1, vs1, d1, ds1, p1, q1, rfl, rfl, rfl, h1, r1⟩ := trodAll_cons r0
  obtain ⟨rfl, rfl, rfl⟩ := trodAll_nil r1
  obtain rfl : args = #[v0, v1] := by cases args; simp_all
  obtain ⟨rfl, rfl⟩ := trodVars_none hV
  obtain ⟨cs, rfl, hcs⟩ := okWide_struct Tryd.underlying23 (hval 0 23 v0 rfl rfl)
  obtain ⟨s1, rfl, rfl, rfl, ws1⟩ := ChangeMaps.open_string Tryd.underlying9 (hval 1 9 v1 rfl rfl) h1
  have k0 := h0
  have lt0 : ∀ x ∈ p0, x.block < W.heap.size := by obtain ⟨m, hm⟩ := k0; exact DataW.trod_lt m _ _ _ hm
  clear hA0 hval0 hargs r0 r1 hA
  have b0 := bulk_bound hk (d := d0) (by simp)
  have b1 := bulk_bound hk (d := .lit (.string s1.data.toList)) (by simp)
  simp only [Rows.uptoBulk] at b1
  have hT : Lib.Utf8Tabs 0 1 W := tabs_of_laid hL
  obtain ⟨C, s, N, rfl, u1, u2, _, _⟩ := htAskedOf hcs h0
  have e0 : Rn.arr (Rn.lf s.data.toList) s.data.toList.length = s := by rw [Rn.arr_lf]
  have e1 : Rn.arr (Rn.lf s1.data.toList) s1.data.toList.length = s1 := by rw [Rn.arr_lf]
  have hc := lawWords16 C N (Rn.lf s.data.toList) s.data.toList.length (Rn.lf s1.data.toList) s1.data.toList.length W (Rn.lf_lt _) (Rn.lf_lt _) (by omega) (by omega) u2 hT
  rw [e0, e1] at hc
  refine hc.mono fun e W' ⟨he, bel⟩ => ?_
  subst he
  exact ⟨_, rfl, _, _, _, [], _, [], hW', trodAll_mk1 (shut_bool Tryd.underlying4 _), (trodAll_cons_mk (Below.trod htLaidW (by kernel_rfl) (of_decide_eq_true (by kernel_rfl)) k0 bel lt0) (trodAll_cons_mk (ChangeMaps.shut_string Tryd.underlying9 ws1) trodAll_mk0)), rfl, bel.frame _, fun h => by cases h⟩
theorem htwords_said : Rows.HuntWordsUptoSaid :=
  OpenClaim.holds_of_cond 3 Tryd.f3 rfl rfl rfl rfl rfl rfl rfl ⟨rfl, rfl, rfl, rfl, rfl⟩ rfl rfl rfl rfl rfl (by kernel_rfl) Tryd.func3 (by kernel_rfl)
    (of_decide_eq_true (by kernel_rfl)) (by unfold Func.isWrapper; rw [if_neg (by decide +kernel)]; exact ⟨rfl, rfl⟩)
    (fun os started H enc _ F => by rw [OpenClaim.pre_eq_preRow]; exact htwords_lifted os started H enc F)
theorem htwords_plain (f : FuncId) (fn : Func) (hf : Tryd.pinned.checked.prog.funcNamed "gimlet/gimletlaw16.HuntWords" = some f) (hfn : Tryd.pinned.checked.prog.funcs[f]? = some fn) :
    false = Tryd.pinned.checked.prog.looks [] ∧ ∀ (j : Nat) t, fn.params[j]? = some t → Tryd.pinned.checked.prog.wantsStandIn t = false := by
  obtain rfl : f = 3 := Option.some.inj ((show Tryd.prog.funcNamed "gimlet/gimletlaw16.HuntWords" = some 3 by kernel_rfl).symm.trans hf) |>.symm
  obtain rfl : fn = Tryd.f3 := (Option.some.inj (Tryd.func3.symm.trans hfn)).symm
  refine ⟨by kernel_rfl, fun j t ht => ?_⟩
  rw [Tryd.params3] at ht
  have hm : t ∈ [23, 9] := by simpa using Array.mem_of_getElem? ht
  have hall : ([23, 9].all fun u => !Tryd.prog.wantsStandIn u) = true := by kernel_rfl
  exact (show Tryd.prog.wantsStandIn t = false by simpa using List.all_eq_true.1 hall t hm)
theorem huntWords_card : Rows.HuntWordsUptoCardSaid :=
  Claim7.holds_tied_plain_at .later [] _ _ _ _ htwords_said (fun _ h => by cases h) (by kernel_rfl) (fun _ h => by cases h) huntWordsUpto_row_tie rfl ⟨rfl, rfl⟩ (by kernel_rfl) rfl htwords_plain (by kernel_rfl)
#print axioms huntWords_card
end Go.Proofs.YtddinjgpoillgaaDoor
