/-
  WHAT A ROW's LIST OF ONE VARIABLE GIVES: the program's table of ranges lies in memory; and the second form's bound and witness at such a row.
-/
import Derived.Test.YtbbbokkfhfmoeaaDoorRfBulk
namespace Go.Proofs.YtbbbokkfhfmoeaaDoor
open Go.RowKit Go.Shelf Go.Lib
open Go.ChangeShapes Go.WideShapes Go.ChangeAt

def sLaid : List (String × DataW Unit) := [("gimlet/chars.spans", Rows.laid_gimlet_chars_spans)]
theorem spans_of_laid {W : World} (hL : laidMetH Tryd.prog sLaid W) : Spans W := by
  rw [MakeChecks.laidMetH_plain _ _ _ (by kernel_rfl)] at hL
  have h3 : VarReads Tryd.prog W "gimlet/chars.spans" (.slice (Ch.tab.map spanData) []) := spans_eq ▸ Lib.laidMet.reads hL (.head _)
  exact spans_of_reads h3
set_option maxRecDepth 100000 in
theorem sLaid_shaped (os : Os) (args : Array Value) : ((World.laidAll Tryd.prog os sLaid).forCall (fun _ _ => 0) ⟨#[], args, []⟩).Shaped Tryd.prog := World.shaped_of_ZipB (by kernel_rfl) (by kernel_rfl)
set_option maxRecDepth 100000 in
theorem sLaid_holds (os : Os) (args : Array Value) : laidMetH Tryd.prog sLaid ((World.laidAll Tryd.prog os sLaid).forCall (fun _ _ => 0) ⟨#[], args, []⟩).memory := by
  rw [MakeChecks.laidMetH_plain _ _ _ (by kernel_rfl)]
  exact laidMet_laidAll _ (by kernel_rfl) (by kernel_rfl)
/-- 'there is an input that fits', at the world in which the table lies -/
theorem upto_witnessS {H : Type} {enc : TypeId × Value → H} {os : Os} {f : FuncId} {fn : Func} {s : OpenSpec} {conds : List PathCond} (args : Array Value) (laid : List (String × DataW Unit)) (hl : laid = sLaid)
    (hok : Input.okWideB Tryd.checked.prog ((World.laidAll Tryd.prog os sLaid).forCall (fun _ _ => 0) ⟨#[], args, []⟩) f ⟨#[], args, []⟩ = true)
    (fuel : Nat) {x : List (DataW H) × List (DataW H) × List MemPlace} (hx : DataW.whole enc Tryd.checked.prog ((World.laidAll Tryd.prog os sLaid).forCall (fun _ _ => 0) ⟨#[], args, []⟩).memory fn.params.toList s.vars false args.toList fuel = some x)
    (hconds : conds.all (PathCond.test Tryd.checked.prog ⟨fn.params.toList, x.1, s.bare.plain.varTypes Tryd.checked.prog, x.2.1⟩) = true) (hkk : ∀ k, s.cond = some k → k H (x.1 ++ x.2.1) = true)
    (hsz : s.bare.sizedB enc Tryd.checked.prog fn false ((World.laidAll Tryd.prog os sLaid).forCall (fun _ _ => 0) ⟨#[], args, []⟩).memory args fuel = true) :
    ∃ (w : World) (tape : Tape) (i : Input), w.os = os ∧ (w.forCall tape i).Shaped Tryd.checked.prog ∧ i.vars = [] ∧ Input.okWide Tryd.checked.prog (w.forCall tape i) .any w.heap.size f i ∧
      s.preRow enc Tryd.checked.prog fn conds false laid (w.forCall tape i).memory i.args ∧ ({} : Assume).holds Tryd.checked.prog (lone (Frame.enter Tryd.checked.prog f i.args .normal) [] (w.forCall tape i)) := by
  subst hl
  refine ⟨World.laidAll Tryd.prog os sLaid, fun _ _ => 0, ⟨#[], args, []⟩, World.laidAll_os _ _ _, sLaid_shaped os args, (Input.okWide_of_okWideB (base := 0) hok).1, (Input.okWide_of_okWideB hok).2, OpenSpec.preRow_of_cond fuel hx hconds hkk hsz (sLaid_holds os args), ?_⟩
  simp only [Assume.holds]
  exact ⟨by simp, by simp, fun _ => Modest.zero, by simp, by simp⟩
end Go.Proofs.YtbbbokkfhfmoeaaDoor
