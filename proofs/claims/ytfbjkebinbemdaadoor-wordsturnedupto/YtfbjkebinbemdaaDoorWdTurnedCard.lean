/-
  PROVED: 'gimletlaw03.WordsTurned' returns true at every input, where what it reads is of bulk at most 1048576 (the card WordsTurnedUptoCardSaid). The conditions: utf8's two tables start as the program's text lays them (the card ties them).
-/
import Derived.Test.YtfbjkebinbemdaaDoorWdLawTurned
import Derived.Test.YtfbjkebinbemdaaDoorRnBulk
import Derived.Test.YtfbjkebinbemdaaDoorCards
import Derived.Test.YtfbjkebinbemdaaDoorTie
import Derived.SevenTiedAt
import Derived.ChangeMaps5
import Derived.OpenShut
namespace Go.Proofs.YtfbjkebinbemdaaDoor
open Go.RowKit Go.Shelf Go.Lib
open Go.ChangeShapes Go.WideShapes Go.ChangeAt

theorem wdturned_reads (os : Os) {H : Type} (enc : TypeId × Value → H) : ∃ places, DataW.whole enc Tryd.checked.prog ((World.laidAll Tryd.prog os theLaid).forCall (fun _ _ => 0) ⟨#[], #[.string ⟨#[]⟩, .string ⟨#[]⟩, .string ⟨#[]⟩], []⟩).memory Tryd.f5.params.toList (Rows.OpenSpec.upto Rows.wordsTurnedSpec).vars false #[Value.string ⟨#[]⟩, .string ⟨#[]⟩, .string ⟨#[]⟩].toList 8 = some ([.lit (.string []), .lit (.string []), .lit (.string [])], [], places) :=
  ⟨[], by kernel_rfl⟩

set_option maxRecDepth 100000 in
theorem wdturned_lifted (os : Os) (started : os.Started) (H : Type) (enc : TypeId × Value → H) (F : Stop.Interp) :
    ReturnsInHanded {} Tryd.checked os 5 .any ((Rows.OpenSpec.upto Rows.wordsTurnedSpec).preRow enc Tryd.prog Tryd.f5 Rows.wordsTurnedUptoRow.domain false Rows.wordsTurnedUptoRow.laid) (((Rows.OpenSpec.upto Rows.wordsTurnedSpec).at F).post enc Tryd.prog Tryd.f5 false true false false) := by
  obtain ⟨places, hx⟩ := wdturned_reads os enc
  refine returnsInHanded_of_row (C := Tryd.checked) (s := Rows.OpenSpec.upto Rows.wordsTurnedSpec) own started (by kernel_rfl) Tryd.func5
    (upto_witness (fn := Tryd.f5) #[.string ⟨#[]⟩, .string ⟨#[]⟩, .string ⟨#[]⟩] _ rfl (by kernel_rfl) 8 hx (by kernel_rfl) (fun k hk => by cases hk; kernel_rfl) (by kernel_rfl)) ?_
  intro W base args ds gs before hval0 hW _ hcond _ hL _ _
  have hk := hcond _ rfl
  have hval : ∀ (j : Nat) t v, Tryd.f5.params[j]? = some t → args[j]? = some v → Value.okWide Tryd.prog W .any base t v := hval0
  have hW' := hW
  obtain ⟨p, q, hA0, hV, rfl, _, _⟩ := hW
  have hA : DataW.TrodAll enc Tryd.prog W 0 (fun _ => true) true Tryd.f5.params.toList args.toList ds p := hA0
  rw [Tryd.params5] at hA hval
  obtain ⟨v0, vs0, d0, ds0, p0, q0, hargs, rfl, rfl, h0, r0⟩ := trodAll_cons hA
  obtain ⟨v1, vs1, d1, ds1, p1, q1, rfl, rfl, rfl, h1, r1⟩ := trodAll_cons r0
  obtain ⟨v2, vs2, d2, ds2, p2, q2, rfl, rfl, rfl, h2, r2⟩ := trodAll_cons r1
  obtain ⟨rfl, rfl, rfl⟩ := trodAll_nil r2
  obtain rfl : args = #[v0, v1, v2] := by cases args; simp_all
  obtain ⟨rfl, rfl⟩ := trodVars_none hV
  obtain ⟨s0, rfl, rfl, rfl, ws0⟩ := ChangeMaps.open_string Tryd.underlying9 (hval 0 9 v0 rfl rfl) h0
  obtain ⟨s1, rfl, rfl, rfl, ws1⟩ := ChangeMaps.open_string Tryd.underlying9 (hval 1 9 v1 rfl rfl) h1
  obtain ⟨s2, rfl, rfl, rfl, ws2⟩ := ChangeMaps.open_string Tryd.underlying9 (hval 2 9 v2 rfl rfl) h2
  clear hA0 hval0
  have b0 := bulk_bound hk (d := .lit (.string s0.data.toList)) (by simp)
  have b1 := bulk_bound hk (d := .lit (.string s1.data.toList)) (by simp)
  have b2 := bulk_bound hk (d := .lit (.string s2.data.toList)) (by simp)
  simp only [Rows.uptoBulk] at b0 b1 b2
  have hT : Lib.Utf8Tabs 0 1 W := tabs_of_laid hL
  have e0 : Rn.arr (Rn.lf s0.data.toList) s0.data.toList.length = s0 := by rw [Rn.arr_lf]
  have e1 : Rn.arr (Rn.lf s1.data.toList) s1.data.toList.length = s1 := by rw [Rn.arr_lf]
  have e2 : Rn.arr (Rn.lf s2.data.toList) s2.data.toList.length = s2 := by rw [Rn.arr_lf]
  have hc := lawTurned_any (Rn.lf s0.data.toList) s0.data.toList.length (Rn.lf s1.data.toList) s1.data.toList.length (Rn.lf s2.data.toList) s2.data.toList.length W hT (Rn.lf_lt _) (Rn.lf_lt _) (Rn.lf_lt _) (by omega) (by omega) (by omega)
  rw [e0, e1, e2] at hc
  refine hc.mono fun e W' ⟨he, bel⟩ => ?_
  subst he
  exact ⟨_, rfl, _, _, _, [], _, [], hW', trodAll_mk1 (shut_bool Tryd.underlying4 _), (trodAll_cons_mk (ChangeMaps.shut_string Tryd.underlying9 ws0) (trodAll_cons_mk (ChangeMaps.shut_string Tryd.underlying9 ws1) (trodAll_cons_mk (ChangeMaps.shut_string Tryd.underlying9 ws2) trodAll_mk0))), rfl, bel.frame _, fun h => by cases h⟩

theorem wdturned_said : Rows.WordsTurnedUptoSaid :=
  OpenClaim.holds_of_cond 5 Tryd.f5 rfl rfl rfl rfl rfl rfl rfl ⟨rfl, rfl, rfl, rfl, rfl⟩ rfl rfl rfl rfl rfl (by kernel_rfl) Tryd.func5 (by kernel_rfl)
    (of_decide_eq_true (by kernel_rfl)) (by unfold Func.isWrapper; rw [if_neg (by decide +kernel)]; exact ⟨rfl, rfl⟩)
    (fun os started H enc _ F => by rw [OpenClaim.pre_eq_preRow]; exact wdturned_lifted os started H enc F)

theorem wdturned_plain (f : FuncId) (fn : Func) (hf : Tryd.pinned.checked.prog.funcNamed "gimlet/gimletlaw03.WordsTurned" = some f) (hfn : Tryd.pinned.checked.prog.funcs[f]? = some fn) :
    false = Tryd.pinned.checked.prog.looks [] ∧ ∀ (j : Nat) t, fn.params[j]? = some t → Tryd.pinned.checked.prog.wantsStandIn t = false := by
  obtain rfl : f = 5 := Option.some.inj ((show Tryd.prog.funcNamed "gimlet/gimletlaw03.WordsTurned" = some 5 by kernel_rfl).symm.trans hf) |>.symm
  obtain rfl : fn = Tryd.f5 := (Option.some.inj (Tryd.func5.symm.trans hfn)).symm
  refine ⟨by kernel_rfl, fun j t ht => ?_⟩
  rw [Tryd.params5] at ht
  have hm : t ∈ [9, 9, 9] := by simpa using Array.mem_of_getElem? ht
  have hall : ([9, 9, 9].all fun u => !Tryd.prog.wantsStandIn u) = true := by kernel_rfl
  exact (show Tryd.prog.wantsStandIn t = false by simpa using List.all_eq_true.1 hall t hm)

theorem wordsTurned_card : Rows.WordsTurnedUptoCardSaid :=
  Claim7.holds_tied_plain_at .later [] _ _ _ _ wdturned_said (fun _ h => by cases h) (by kernel_rfl) (fun _ h => by cases h) wordsTurnedUpto_row_tie rfl ⟨rfl, rfl⟩ (by kernel_rfl) rfl wdturned_plain (by kernel_rfl)
#print axioms wordsTurned_card
end Go.Proofs.YtfbjkebinbemdaaDoor
