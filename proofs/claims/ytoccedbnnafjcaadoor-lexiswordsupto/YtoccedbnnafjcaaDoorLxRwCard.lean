import Derived.Test.YtoccedbnnafjcaaDoorLxRwF
import Derived.Test.YtoccedbnnafjcaaDoorLxRwG
import Derived.Test.YtoccedbnnafjcaaDoorLxBulk
import Derived.LaidSub
import Derived.LaidHandle
import Derived.Test.YtoccedbnnafjcaaDoorCards
import Derived.Test.YtoccedbnnafjcaaDoorTie
import Derived.SevenTiedAt
import Derived.ChangeMaps5
import Derived.OpenShut
/-
  The statement LexisWords, any query; what its row tells: its variables, among them errors' handle of the type error.
-/
namespace Go.Proofs.YtoccedbnnafjcaaDoor
open Go.RowKit Go.Shelf Go.Lib
open Go.ChangeShapes Go.WideShapes Go.ChangeAt
theorem lawWords_all (f : Nat → Nat) (n : Nat) (v : Value) (w : World) (hT : Lib.Utf8Tabs 1 2 w) (hS : Spans w) (hG : Signs w) (hE : Er.ETab w) (hf : ∀ j, f j < 256) (hn : n ≤ 1048576) (hq : ArgS w f n v) :
    Calls Tryd.prog 3 #[v] w fun e w' => e = .returned (.bool true) ∧ Below w.heap.size w w' := by
  cases h : Lx.flt f n with
  | none => exact lawWords_ok f n v w hT hS hG h hf hn hq
  | some x => exact lawWords_bad f n v w hT hS hG hE x.1 x.2 h hf hn hq
/-- what the row lists -/
def theLaidW : List (String × DataW Unit) := [("unicode/utf8.acceptRanges", Rows.laid_unicode_utf8_acceptRanges), ("errors.errorType", Rows.laid_errors_errorType), ("gimlet/chars.spans", Rows.laid_gimlet_chars_spans), ("gimlet/lexis.signs", Rows.laid_gimlet_lexis_signs), ("unicode/utf8.first", Rows.laid_unicode_utf8_first)]
theorem theLaidW_rest : (theLaidW.filter fun x => x.2.handleName?.isNone) = theLaid := by kernel_rfl
theorem theLaidW_hand : (theLaidW.filter fun x => x.2.handleName?.isSome) = [("errors.errorType", Rows.laid_errors_errorType)] := by kernel_rfl
theorem et_global : Tryd.prog.globalNamed "errors.errorType" = some 0 := by kernel_rfl
theorem rt_type : (Tryd.prog.cutTypes.find? (·.1 == "internal/reflectlite.rtype")).map (·.2) = some 112 := by kernel_rfl
theorem et_row : ((List.range Tryd.prog.types.size).filter fun t => Tryd.prog.rowNamed t [101, 114, 114, 111, 114]) = [26] := by kernel_rfl
theorem et_handle : typeHandle Tryd.prog 26 = .pointer (some ⟨9, 26, none⟩) := by kernel_rfl
theorem tabsW_of_laid {W : World} (hL : laidMetH Tryd.prog theLaidW W) : Lib.Utf8Tabs 1 2 W ∧ Spans W ∧ Signs W ∧ Er.ETab W := by
  obtain ⟨h1, h2⟩ := laidMetH_iff.1 hL
  rw [theLaidW_rest] at h1
  rw [theLaidW_hand] at h2
  obtain ⟨t1, t2, t3⟩ := tabs_of_laid (W := W) (by rw [MakeChecks.laidMetH_plain _ _ _ (by kernel_rfl)]; exact h1)
  refine ⟨t1, t2, t3, ?_⟩
  obtain ⟨name, u, ty, e1, e2, e3, e4, e5⟩ := h2 _ (List.mem_singleton.2 rfl)
  have en : name = [101, 114, 114, 111, 114] := (Option.some.inj e1).symm
  subst en
  obtain rfl := Option.some.inj (rt_type.symm.trans e2)
  have hm : ty ∈ (List.range Tryd.prog.types.size).filter fun t => Tryd.prog.rowNamed t [101, 114, 114, 111, 114] := List.mem_filter.2 ⟨List.mem_range.2 e3, e4⟩
  rw [et_row] at hm
  obtain rfl := List.mem_singleton.1 hm
  rw [et_handle] at e5
  unfold Er.ETab
  simpa using World.var?_cell et_global e5 0
/-- the handle laid into a world -/
def withEt (w : World) : World :=
  { w with heap := w.heap.modify 0 fun
      | .cells _ t frozen => .cells #[.iface 112 (.agg #[.pointer (some ⟨9, 26, none⟩)])] t frozen
      | o => o }
set_option maxRecDepth 100000 in
theorem laidW_shaped (os : Os) (args : Array Value) : (((withEt (World.holding Tryd.prog os ⟨#[], #[], []⟩)).layVars Tryd.prog theLaid).forCall (fun _ _ => 0) ⟨#[], args, []⟩).Shaped Tryd.prog := World.shaped_of_ZipB (by kernel_rfl) (by kernel_rfl)
set_option maxRecDepth 100000 in
theorem laidW_rest (os : Os) (args : Array Value) : laidMet Tryd.prog theLaid (((withEt (World.holding Tryd.prog os ⟨#[], #[], []⟩)).layVars Tryd.prog theLaid).forCall (fun _ _ => 0) ⟨#[], args, []⟩).memory := by
  have e1 : (theLaid.filter fun x => (theLaid.map (·.1)).contains x.1) = theLaid := List.filter_eq_self.2 fun x hx => List.contains_iff_mem.2 (List.mem_map.2 ⟨x, hx, rfl⟩)
  have e2 : (theLaid.filter fun x => !(theLaid.map (·.1)).contains x.1) = [] := List.filter_eq_nil_iff.2 fun x hx => by rw [List.contains_iff_mem.2 (List.mem_map.2 ⟨x, hx, rfl⟩)]; simp
  have h : laidMet Tryd.prog theLaid ((withEt (World.holding Tryd.prog os ⟨#[], #[], []⟩)).layVars Tryd.prog theLaid) := laidMet_layVars (w0 := withEt (World.holding Tryd.prog os ⟨#[], #[], []⟩)) (theLaid.map (·.1)) [] (by rw [e1]) (by rw [e1]; kernel_rfl) (by rw [e1]; kernel_rfl) (by rw [e2]; exact LaidIn.none)
  exact h.of_heap (by simp [World.memory, World.forCall, Input.heap])
set_option maxRecDepth 100000 in
theorem laidW_holds (os : Os) (args : Array Value) : laidMetH Tryd.prog theLaidW (((withEt (World.holding Tryd.prog os ⟨#[], #[], []⟩)).layVars Tryd.prog theLaid).forCall (fun _ _ => 0) ⟨#[], args, []⟩).memory :=
  laidMetH_of_parts (by rw [theLaidW_rest]; exact laidW_rest os args) (by kernel_rfl)
/-- 'there is an input that fits', at the world in which the variables lie -/
theorem uptoW_witness {H : Type} {enc : TypeId × Value → H} {os : Os} {f : FuncId} {fn : Func} {s : OpenSpec} {conds : List PathCond} (args : Array Value) (laid : List (String × DataW Unit)) (hl : laid = theLaidW)
    (hok : Input.okWideB Tryd.checked.prog (((withEt (World.holding Tryd.prog os ⟨#[], #[], []⟩)).layVars Tryd.prog theLaid).forCall (fun _ _ => 0) ⟨#[], args, []⟩) f ⟨#[], args, []⟩ = true)
    (fuel : Nat) {x : List (DataW H) × List (DataW H) × List MemPlace} (hx : DataW.whole enc Tryd.checked.prog (((withEt (World.holding Tryd.prog os ⟨#[], #[], []⟩)).layVars Tryd.prog theLaid).forCall (fun _ _ => 0) ⟨#[], args, []⟩).memory fn.params.toList s.vars false args.toList fuel = some x)
    (hconds : conds.all (PathCond.test Tryd.checked.prog ⟨fn.params.toList, x.1, s.bare.plain.varTypes Tryd.checked.prog, x.2.1⟩) = true) (hkk : ∀ k, s.cond = some k → k H (x.1 ++ x.2.1) = true)
    (hsz : s.bare.sizedB enc Tryd.checked.prog fn false (((withEt (World.holding Tryd.prog os ⟨#[], #[], []⟩)).layVars Tryd.prog theLaid).forCall (fun _ _ => 0) ⟨#[], args, []⟩).memory args fuel = true) :
    ∃ (w : World) (tape : Tape) (i : Input), w.os = os ∧ (w.forCall tape i).Shaped Tryd.checked.prog ∧ i.vars = [] ∧ Input.okWide Tryd.checked.prog (w.forCall tape i) .any w.heap.size f i ∧
      s.preRow enc Tryd.checked.prog fn conds false laid (w.forCall tape i).memory i.args ∧ ({} : Assume).holds Tryd.checked.prog (lone (Frame.enter Tryd.checked.prog f i.args .normal) [] (w.forCall tape i)) := by
  subst hl
  refine ⟨(withEt (World.holding Tryd.prog os ⟨#[], #[], []⟩)).layVars Tryd.prog theLaid, fun _ _ => 0, ⟨#[], args, []⟩, World.layVars_os _ _ _, laidW_shaped os args, (Input.okWide_of_okWideB (base := 0) hok).1, (Input.okWide_of_okWideB hok).2, OpenSpec.preRow_of_cond fuel hx hconds hkk hsz (laidW_holds os args), ?_⟩
  simp only [Assume.holds]
  exact ⟨by simp, by simp, fun _ => Modest.zero, by simp, by simp⟩
end Go.Proofs.YtoccedbnnafjcaaDoor
/-
  PROVED: 'gimletlaw10.LexisWords' returns true at every input, where what it reads is of bulk at most 1048576 (the card LexisWordsUptoCardSaid). The conditions: the program's table of ranges, its signs, utf8's tables and errors' type of error start as the program's text lays them (the card ties them).
-/
namespace Go.Proofs.YtoccedbnnafjcaaDoor
open Go.RowKit Go.Shelf Go.Lib
open Go.ChangeShapes Go.WideShapes Go.ChangeAt

theorem lxwd_reads (os : Os) {H : Type} (enc : TypeId × Value → H) : ∃ places, DataW.whole enc Tryd.checked.prog (((withEt (World.holding Tryd.prog os ⟨#[], #[], []⟩)).layVars Tryd.prog theLaid).forCall (fun _ _ => 0) ⟨#[], #[.slice none 0 0], []⟩).memory Tryd.f3.params.toList (Rows.OpenSpec.upto Rows.lexisWordsSpec).vars false #[Value.slice none 0 0].toList 8 = some ([.nil], [], places) :=
  ⟨[], by kernel_rfl⟩

set_option maxRecDepth 100000 in
theorem lxwd_lifted (os : Os) (started : os.Started) (H : Type) (enc : TypeId × Value → H) (F : Stop.Interp) :
    ReturnsInHanded {} Tryd.checked os 3 .any ((Rows.OpenSpec.upto Rows.lexisWordsSpec).preRow enc Tryd.prog Tryd.f3 Rows.lexisWordsUptoRow.domain false Rows.lexisWordsUptoRow.laid) (((Rows.OpenSpec.upto Rows.lexisWordsSpec).at F).post enc Tryd.prog Tryd.f3 false true false false) := by
  obtain ⟨places, hx⟩ := lxwd_reads os enc
  refine returnsInHanded_of_row (C := Tryd.checked) (s := Rows.OpenSpec.upto Rows.lexisWordsSpec) own started (by kernel_rfl) Tryd.func3
    (uptoW_witness (fn := Tryd.f3) #[.slice none 0 0] _ rfl (by kernel_rfl) 8 hx (by kernel_rfl) (fun k hk => by cases hk; kernel_rfl) (by kernel_rfl)) ?_
  intro W base args ds gs before hval0 hW _ hcond _ hL _ _
  have hk := hcond _ rfl
  have hval : ∀ (j : Nat) t v, Tryd.f3.params[j]? = some t → args[j]? = some v → Value.okWide Tryd.prog W .any base t v := hval0
  have hW' := hW
  obtain ⟨p, q, hA0, hV, rfl, _, _⟩ := hW
  have hA : DataW.TrodAll enc Tryd.prog W 0 (fun _ => true) true Tryd.f3.params.toList args.toList ds p := hA0
  rw [Tryd.params3] at hA hval
  obtain ⟨v0, vs0, d0, ds0, p0, q0, hargs, rfl, rfl, h0, r0⟩ := trodAll_cons hA
  obtain ⟨rfl, rfl, rfl⟩ := trodAll_nil r0
  obtain rfl : args = #[v0] := by cases args; simp_all
  obtain ⟨rfl, rfl⟩ := trodVars_none hV
  obtain ⟨a0, len0, cap0, rfl⟩ := okWide_slice Tryd.underlying22 (hval 0 22 v0 rfl rfl)
  have k0 := h0
  have lt0 : ∀ x ∈ p0, x.block < W.heap.size := by obtain ⟨m, hm⟩ := k0; exact DataW.trod_lt m _ _ _ hm
  obtain ⟨f0, hA0', hf0, hd0⟩ := argS_of h0
  clear hA0 hval0
  have hb0 : len0 ≤ 1048576 := bulk_slice hk (by simp) hd0
  obtain ⟨hT, hS, hG, hE⟩ := tabsW_of_laid hL
  have hc := lawWords_all f0 len0 _ W hT hS hG hE hf0 hb0 hA0'
  refine hc.mono fun e W' ⟨he, bel⟩ => ?_
  subst he
  exact ⟨_, rfl, _, _, _, [], _, [], hW', trodAll_mk1 (shut_bool Tryd.underlying4 _), (trodAll_cons_mk (Below.trod laidOut (by kernel_rfl) (of_decide_eq_true (by kernel_rfl)) k0 bel lt0) trodAll_mk0), rfl, bel.frame _, fun h => by cases h⟩

theorem lxwd_said : Rows.LexisWordsUptoSaid :=
  OpenClaim.holds_of_cond 3 Tryd.f3 rfl rfl rfl rfl rfl rfl rfl ⟨rfl, rfl, rfl, rfl, rfl⟩ rfl rfl rfl rfl rfl (by kernel_rfl) Tryd.func3 (by kernel_rfl)
    (of_decide_eq_true (by kernel_rfl)) (by unfold Func.isWrapper; rw [if_neg (by decide +kernel)]; exact ⟨rfl, rfl⟩)
    (fun os started H enc _ F => by rw [OpenClaim.pre_eq_preRow]; exact lxwd_lifted os started H enc F)

theorem lxwd_plain (f : FuncId) (fn : Func) (hf : Tryd.pinned.checked.prog.funcNamed "gimlet/gimletlaw10.LexisWords" = some f) (hfn : Tryd.pinned.checked.prog.funcs[f]? = some fn) :
    true = Tryd.pinned.checked.prog.looks [] ∧ ∀ (j : Nat) t, fn.params[j]? = some t → Tryd.pinned.checked.prog.wantsStandIn t = false := by
  obtain rfl : f = 3 := Option.some.inj ((show Tryd.prog.funcNamed "gimlet/gimletlaw10.LexisWords" = some 3 by kernel_rfl).symm.trans hf) |>.symm
  obtain rfl : fn = Tryd.f3 := (Option.some.inj (Tryd.func3.symm.trans hfn)).symm
  refine ⟨by kernel_rfl, fun j t ht => ?_⟩
  rw [Tryd.params3] at ht
  have hm : t ∈ [22] := by simpa using Array.mem_of_getElem? ht
  have hall : ([22].all fun u => !Tryd.prog.wantsStandIn u) = true := by kernel_rfl
  exact (show Tryd.prog.wantsStandIn t = false by simpa using List.all_eq_true.1 hall t hm)

theorem lexisWords_card : Rows.LexisWordsUptoCardSaid :=
  Claim7.holds_tied_plain_at .later [] _ _ _ _ lxwd_said (fun _ h => by cases h) (by kernel_rfl) (fun _ h => by cases h) lexisWordsUpto_row_tie rfl ⟨rfl, rfl⟩ (by kernel_rfl) rfl lxwd_plain (by kernel_rfl)
#print axioms lexisWords_card
end Go.Proofs.YtoccedbnnafjcaaDoor
