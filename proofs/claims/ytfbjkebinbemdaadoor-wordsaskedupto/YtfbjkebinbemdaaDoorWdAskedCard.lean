/-
  PROVED: 'gimletlaw03.WordsAsked' returns true at every two texts and numbers, and its argument stays, where what it reads is of bulk at most 1048576 (the card WordsAskedUptoCardSaid). The conditions: utf8's two tables and the program's table of ranges start as the program's text lays them (the card ties them).
-/
import Derived.Test.YtfbjkebinbemdaaDoorWdLawAsked
import Derived.Test.YtfbjkebinbemdaaDoorChBulk
import Derived.Test.YtfbjkebinbemdaaDoorCards
import Derived.Test.YtfbjkebinbemdaaDoorTie
import Derived.SevenTiedAt
import Derived.ChangeMaps5
import Derived.ChangeOld
import Derived.OpenShut
import Derived.Lib.SmallJoins
namespace Go.Proofs.YtfbjkebinbemdaaDoor
open Go.RowKit Go.Shelf
open Go.ChangeShapes Go.WideShapes Go.ChangeAt Go.Joins

theorem laidOut3 : laidOutB Tryd.prog = true := by kernel_rfl
/-- what a row tells of the struct that came in -/
theorem asked_of {H : Type} {enc : TypeId × Value → H} {W : World} {cs : Array Value} {d : DataW H} {p : List MemPlace} (hcs : cs.size = Tryd.prog.cellsOf 23) (h : DataW.Trod enc Tryd.prog W 0 (fun _ => true) true 23 (Value.agg cs) d p) :
    ∃ (s t : ByteArray) (x y : Int), cs = #[.string s, .string t, .int .i64 x, .int .i64 y] ∧ (Lit.int .i64 x).wf = true ∧ (Lit.int .i64 y).wf = true ∧ ∃ a b, d = .agg [.lit (.string s.data.toList), .lit (.string t.data.toList), a, b] := by
  rw [show Tryd.prog.cellsOf 23 = 4 from by kernel_rfl] at hcs
  obtain ⟨c0, c1, c2, c3, rfl⟩ := array4 hcs
  obtain ⟨fuel, hf⟩ := h
  obtain ⟨y0, y1, y2, y3, m, hd, _, g0, g1, g2, g3⟩ := trod_struct4 Tryd.underlying23 hf
  change DataW.trod _ _ _ _ _ _ _ 9 (([c0, c1, c2, c3].drop 0).take (Tryd.prog.cellsOf 9)) = some y0 at g0
  change DataW.trod _ _ _ _ _ _ _ 9 (([c0, c1, c2, c3].drop 1).take (Tryd.prog.cellsOf 9)) = some y1 at g1
  change DataW.trod _ _ _ _ _ _ _ 3 (([c0, c1, c2, c3].drop 2).take (Tryd.prog.cellsOf 3)) = some y2 at g2
  change DataW.trod _ _ _ _ _ _ _ 3 (([c0, c1, c2, c3].drop 3).take (Tryd.prog.cellsOf 3)) = some y3 at g3
  rw [show Tryd.prog.cellsOf 9 = 1 from by kernel_rfl] at g0 g1
  rw [show Tryd.prog.cellsOf 3 = 1 from by kernel_rfl] at g2 g3
  obtain ⟨s, hs, e0, _⟩ := DataW.trod_string Tryd.underlying9 g0
  obtain ⟨t, ht, e1, _⟩ := DataW.trod_string Tryd.underlying9 g1
  obtain ⟨x, hx, _, wx⟩ := DataW.trod_int Tryd.underlying3 g2
  obtain ⟨y, hy, _, wy⟩ := DataW.trod_int Tryd.underlying3 g3
  simp at hs ht hx hy
  subst hs ht hx hy
  refine ⟨s, t, x, y, rfl, wx, wy, y2.1, y3.1, ?_⟩
  have := congrArg Prod.fst hd
  rw [e0, e1] at this
  exact this

theorem asked_reads (os : Os) {H : Type} (enc : TypeId × Value → H) : ∃ places, DataW.whole enc Tryd.checked.prog ((World.laidAll Tryd.prog os theLaid).forCall (fun _ _ => 0) ⟨#[], #[.agg #[.string ⟨#[]⟩, .string ⟨#[]⟩, .int .i64 0, .int .i64 0]], []⟩).memory Tryd.f3.params.toList (Rows.OpenSpec.upto Rows.wordsAskedSpec).vars false #[Value.agg #[.string ⟨#[]⟩, .string ⟨#[]⟩, .int .i64 0, .int .i64 0]].toList 8 = some ([.agg [.lit (.string []), .lit (.string []), .lit (.int .i64 0), .lit (.int .i64 0)]], [], places) :=
  ⟨[], by kernel_rfl⟩

set_option maxRecDepth 100000 in
theorem asked_lifted (os : Os) (started : os.Started) (H : Type) (enc : TypeId × Value → H) (F : Stop.Interp) :
    ReturnsInHanded {} Tryd.checked os 3 .any ((Rows.OpenSpec.upto Rows.wordsAskedSpec).preRow enc Tryd.prog Tryd.f3 Rows.wordsAskedUptoRow.domain false Rows.wordsAskedUptoRow.laid) (((Rows.OpenSpec.upto Rows.wordsAskedSpec).at F).post enc Tryd.prog Tryd.f3 false true false false) := by
  obtain ⟨places, hx⟩ := asked_reads os enc
  refine returnsInHanded_of_row (C := Tryd.checked) (s := Rows.OpenSpec.upto Rows.wordsAskedSpec) own started (by kernel_rfl) Tryd.func3
    (upto_witness (fn := Tryd.f3) #[.agg #[.string ⟨#[]⟩, .string ⟨#[]⟩, .int .i64 0, .int .i64 0]] _ rfl (by kernel_rfl) 8 hx (by kernel_rfl) (fun k hk => by cases hk; kernel_rfl) (by kernel_rfl)) ?_
  intro W base args ds gs before hval0 hW _ hcond _ hL _ _
  have hk := hcond _ rfl
  have hval : ∀ (j : Nat) t v, Tryd.f3.params[j]? = some t → args[j]? = some v → Value.okWide Tryd.prog W .any base t v := hval0
  have hW' := hW
  obtain ⟨p, q, hA0, hV, rfl, _, _⟩ := hW
  have hA : DataW.TrodAll enc Tryd.prog W 0 (fun _ => true) true Tryd.f3.params.toList args.toList ds p := hA0
  rw [Tryd.params3] at hA hval
  obtain ⟨v0, d0, rfl, rfl, h0⟩ := trodAll_one hA
  obtain ⟨rfl, rfl⟩ := trodVars_none hV
  obtain ⟨cs, rfl, hcs⟩ := okWide_struct Tryd.underlying23 (hval 0 23 v0 rfl rfl)
  simp only [List.append_nil] at hW'
  have k0 := h0
  have lt0 : ∀ x ∈ p, x.block < W.heap.size := by obtain ⟨m, hm⟩ := k0; exact DataW.trod_lt m _ _ _ hm
  obtain ⟨s0, s1, x, y, rfl, wx, wy, a, b, rfl⟩ := asked_of hcs h0
  clear hA0 hval0
  have hb0 := bulk_bound hk (d := .agg [.lit (.string s0.data.toList), .lit (.string s1.data.toList), a, b]) (by simp)
  simp only [Rows.uptoBulk, Rows.uptoBulkAll] at hb0
  have hx1 : -9223372036854775808 ≤ x ∧ x ≤ 9223372036854775807 := by simpa [Lit.wf, IntKind.min, IntKind.max, IntKind.signed, IntKind.bits] using wx
  have hy1 : -9223372036854775808 ≤ y ∧ y ≤ 9223372036854775807 := by simpa [Lit.wf, IntKind.min, IntKind.max, IntKind.signed, IntKind.bits] using wy
  obtain ⟨hT, hS⟩ := tabs_of_laid hL
  have e0 : Rn.arr (Rn.lf s0.data.toList) s0.data.toList.length = s0 := by rw [Rn.arr_lf]
  have e1 : Rn.arr (Rn.lf s1.data.toList) s1.data.toList.length = s1 := by rw [Rn.arr_lf]
  have hc := lawAsked_any (Rn.lf s0.data.toList) s0.data.toList.length (Rn.lf s1.data.toList) s1.data.toList.length x y W hT hS (Rn.lf_lt _) (Rn.lf_lt _) (by omega) (by omega) hx1.1 hx1.2 hy1.1 hy1.2
  rw [e0, e1] at hc
  refine hc.mono fun e W' ⟨he, hb⟩ => ?_
  subst he
  exact ⟨_, rfl, _, _, _, [], _, [], hW', trodAll_mk1 (shut_bool Tryd.underlying4 _), (trodAll_cons_mk (Below.trod laidOut3 (by kernel_rfl) (of_decide_eq_true (by kernel_rfl)) k0 hb lt0) trodAll_mk0), rfl, hb.frame _, fun h => by cases h⟩

theorem asked_said : Rows.WordsAskedUptoSaid :=
  OpenClaim.holds_of_cond 3 Tryd.f3 rfl rfl rfl rfl rfl rfl rfl ⟨rfl, rfl, rfl, rfl, rfl⟩ rfl rfl rfl rfl rfl (by kernel_rfl) Tryd.func3 (by kernel_rfl)
    (of_decide_eq_true (by kernel_rfl)) (by unfold Func.isWrapper; rw [if_neg (by decide +kernel)]; exact ⟨rfl, rfl⟩)
    (fun os started H enc _ F => by rw [OpenClaim.pre_eq_preRow]; exact asked_lifted os started H enc F)

theorem asked_plain (f : FuncId) (fn : Func) (hf : Tryd.pinned.checked.prog.funcNamed "gimlet/gimletlaw03.WordsAsked" = some f) (hfn : Tryd.pinned.checked.prog.funcs[f]? = some fn) :
    false = Tryd.pinned.checked.prog.looks [] ∧ ∀ (j : Nat) t, fn.params[j]? = some t → Tryd.pinned.checked.prog.wantsStandIn t = false := by
  obtain rfl : f = 3 := Option.some.inj ((show Tryd.prog.funcNamed "gimlet/gimletlaw03.WordsAsked" = some 3 by kernel_rfl).symm.trans hf) |>.symm
  obtain rfl : fn = Tryd.f3 := (Option.some.inj (Tryd.func3.symm.trans hfn)).symm
  refine ⟨by kernel_rfl, fun j t ht => ?_⟩
  rw [Tryd.params3] at ht
  have hm : t ∈ [23] := by simpa using Array.mem_of_getElem? ht
  have hall : ([23].all fun u => !Tryd.prog.wantsStandIn u) = true := by kernel_rfl
  exact (show Tryd.prog.wantsStandIn t = false by simpa using List.all_eq_true.1 hall t hm)

theorem wordsAsked_card : Rows.WordsAskedUptoCardSaid :=
  Claim7.holds_tied_plain_at .later [] _ _ _ _ asked_said (fun _ h => by cases h) (by kernel_rfl) (fun _ h => by cases h) wordsAskedUpto_row_tie rfl ⟨rfl, rfl⟩ (by kernel_rfl) rfl asked_plain (by kernel_rfl)
#print axioms wordsAsked_card
end Go.Proofs.YtfbjkebinbemdaaDoor
