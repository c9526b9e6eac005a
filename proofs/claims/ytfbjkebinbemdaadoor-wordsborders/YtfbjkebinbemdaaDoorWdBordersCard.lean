/-
  PROVED: 'gimletlaw03.WordsBorders' returns true at every input, and its arguments stay (the card WordsBordersCardSaid). The conditions: the listed package-level variables start as the program's text lays them (the card ties them).
-/
import Derived.Test.YtfbjkebinbemdaaDoorWdLawBorders
import Derived.Test.YtfbjkebinbemdaaDoorRnTabs
import Derived.Test.YtfbjkebinbemdaaDoorRnCat
import Derived.Test.YtfbjkebinbemdaaDoorCards
import Derived.Test.YtfbjkebinbemdaaDoorTie
import Derived.SevenTiedAt
import Derived.ChangeMaps5
import Derived.OpenShut
import Derived.SizedLaws
namespace Go.Proofs.YtfbjkebinbemdaaDoor
open Go.RowKit Go.Shelf Go.Lib
open Go.ChangeShapes Go.WideShapes Go.ChangeAt

set_option maxRecDepth 100000 in
theorem wdborders_lifted (os : Os) (started : os.Started) (H : Type) (enc : TypeId × Value → H) :
    ReturnsInHanded {} Tryd.checked os 6 .any (fun w args => (Rows.wordsBordersSpec.pre enc Tryd.prog Tryd.f6 [] false w args ∧ laidMetH Tryd.prog Rows.wordsBordersRow.laid w) ∧ sizedMet enc Tryd.prog Tryd.f6 (OpenSpec.ofChange Rows.wordsBordersSpec) false w args)
      (Rows.wordsBordersSpec.post enc Tryd.prog Tryd.f6 false true false false) := by
  refine returnsInHanded_of_change_and (C := Tryd.checked) (X := fun w _ => laidMetH Tryd.prog Rows.wordsBordersRow.laid w) (fun _ _ _ hh h => h.of_heap hh) own started (by kernel_rfl) Tryd.func6
    (ChangeSpec.witness_shaped (enc := enc) (C := Tryd.checked) (os := os) (X := fun w _ => laidMetH Tryd.prog Rows.wordsBordersRow.laid w) false (World.laidAll Tryd.prog os theLaid) #[.string ⟨#[]⟩] 8 (World.laidAll_os _ _ _)
      (laid_shaped os _) (by kernel_rfl) (by kernel_rfl) (by kernel_rfl) (laid_holds os _)) ?_
  intro W base args ds gs before hval0 hW _ hsz hL _
  have hval : ∀ (j : Nat) t v, Tryd.f6.params[j]? = some t → args[j]? = some v → Value.okWide Tryd.prog W .any base t v := hval0
  have hW' := hW
  obtain ⟨p, q, hA0, hV, rfl, _, _⟩ := hW
  have hA : DataW.TrodAll enc Tryd.prog W 0 (fun _ => true) true Tryd.f6.params.toList args.toList ds p := hA0
  rw [Tryd.params6] at hA hval
  obtain ⟨v0, d0, rfl, rfl, h0⟩ := trodAll_one hA
  obtain ⟨rfl, rfl⟩ := trodVars_none hV
  obtain ⟨s0, rfl, rfl, rfl, ws0⟩ := ChangeMaps.open_string Tryd.underlying9 (hval 0 9 v0 rfl rfl) h0
  simp only [List.append_nil] at hW'
  have hT : Lib.Utf8Tabs 0 1 W := tabs_of_laid hL
  have e0 : Rn.arr (Rn.lf s0.data.toList) s0.data.toList.length = s0 := by rw [Rn.arr_lf]
  have z0 : s0.data.toList.length ≤ reachBytes := sized_string hsz (j := 0) (t := 9) (bytes := s0.data.toList) rfl rfl
  unfold reachBytes at z0
  have hc := lawBorders_any (Rn.lf s0.data.toList) s0.data.toList.length W hT (Rn.lf_lt _) (by omega)
  rw [e0] at hc
  refine hc.mono fun e W' ⟨he, hb⟩ => ?_
  subst he
  exact ⟨_, rfl, _, _, _, [], [], [], hW', trodAll_mk1 (shut_bool Tryd.underlying4 _), trodAll_mk1 (ChangeMaps.shut_string Tryd.underlying9 ws0), rfl, hb.frame _, fun h => by cases h⟩

theorem wdborders_said : Rows.WordsBordersSaid :=
  OpenClaim.holds_of_wide 6 Tryd.f6 rfl rfl rfl rfl rfl rfl rfl ⟨rfl, rfl, rfl, rfl, rfl⟩ rfl rfl rfl rfl rfl (by kernel_rfl) Tryd.func6 (by kernel_rfl)
    (of_decide_eq_true (by kernel_rfl)) (by unfold Func.isWrapper; rw [if_neg (by decide +kernel)]; exact ⟨rfl, rfl⟩)
    (fun os started H enc _ => wdborders_lifted os started H enc)

theorem wdborders_plain (f : FuncId) (fn : Func) (hf : Tryd.pinned.checked.prog.funcNamed "gimlet/gimletlaw03.WordsBorders" = some f) (hfn : Tryd.pinned.checked.prog.funcs[f]? = some fn) :
    false = Tryd.pinned.checked.prog.looks [] ∧ ∀ (j : Nat) t, fn.params[j]? = some t → Tryd.pinned.checked.prog.wantsStandIn t = false := by
  obtain rfl : f = 6 := Option.some.inj ((show Tryd.prog.funcNamed "gimlet/gimletlaw03.WordsBorders" = some 6 by kernel_rfl).symm.trans hf) |>.symm
  obtain rfl : fn = Tryd.f6 := (Option.some.inj (Tryd.func6.symm.trans hfn)).symm
  refine ⟨by kernel_rfl, fun j t ht => ?_⟩
  rw [Tryd.params6] at ht
  have hm : t ∈ [9] := by simpa using Array.mem_of_getElem? ht
  have hall : ([9].all fun u => !Tryd.prog.wantsStandIn u) = true := by kernel_rfl
  exact (show Tryd.prog.wantsStandIn t = false by simpa using List.all_eq_true.1 hall t hm)

theorem wordsBorders_card : Rows.WordsBordersCardSaid :=
  Claim7.holds_tied_plain_at .later [] _ _ _ _ wdborders_said (fun _ h => by cases h) (by kernel_rfl) (fun _ h => by cases h) wordsBorders_row_tie rfl ⟨rfl, rfl⟩ (by kernel_rfl) rfl wdborders_plain (by kernel_rfl)
#print axioms wordsBorders_card
end Go.Proofs.YtfbjkebinbemdaaDoor
