import Derived.Test.YtcmjipgigkalcaaDoorChName
import Derived.Test.YtcmjipgigkalcaaDoorRows
import Derived.ProofKit
import Derived.WalkKit
import Derived.PinnedBridge
import Derived.Lib.LaidU8T
import Derived.Lay
import Derived.LaidOnce
import Derived.Deep.DeepHandedRow
/-
  WHAT A ROW's LIST OF VARIABLES GIVES: utf8's two tables and the program's table of ranges lie in memory.
-/
namespace Go.Proofs.YtcmjipgigkalcaaDoor
open Go.RowKit Go.Shelf Go.Lib

theorem u8types : U8Types Tryd.prog Tryd.lays196_ren := U8Types.of196 Tryd.lays196
theorem u8extra : U8Extra Tryd.prog Tryd.lays196_ren := ⟨by kernel_rfl, by kernel_rfl, by kernel_rfl, by kernel_rfl, by kernel_rfl, by kernel_rfl, by kernel_rfl⟩
theorem accept_eq : Rows.laid_unicode_utf8_acceptRanges (H := Unit) = acceptData := by kernel_rfl
theorem first_eq : Rows.laid_unicode_utf8_first = firstData := Pinned.utf8First_eq
theorem own : ownKnob Tryd.prog.godebug = none := by kernel_rfl

/-- a range as a row lists it -/
def spanData (s : Ch.Sp) : DataW Unit := .agg [.lit (.int .i64 (s.1 : Nat)), .lit (.int .i32 (s.2.1 : Nat)), .lit (.int .i32 (s.2.2 : Nat))]
theorem spans_eq : Rows.laid_gimlet_chars_spans (H := Unit) = .slice (Ch.tab.map spanData) [] := by kernel_rfl

theorem at_take {cs : List Value} {k : Nat} {v : Value} (h : (cs.drop k).take 1 = [v]) : cs[k]? = some v := by
  have := congrArg (·[0]?) h
  simpa [List.getElem?_take, List.getElem?_drop] using this
set_option maxRecDepth 100000 in
/-- a span that reads as a range holds it, cell for cell -/
theorem span_cells {w : World} {fuel : Nat} {cs : List Value} {s : Ch.Sp} {p : List MemPlace} (h : DataW.trod (fun _ => ()) Tryd.prog w 0 (fun _ => true) false fuel 116 cs = some (spanData s, p)) :
    cs = [.int .i64 (s.1 : Nat), .int .i32 (s.2.1 : Nat), .int .i32 (s.2.2 : Nat)] := by
  obtain ⟨xs, n, rfl, hx, hl, hxl, hall⟩ := DataW.trod_struct Tryd.underlying116 h
  rw [show Tryd.prog.cellsOf 116 = 3 from by kernel_rfl] at hl
  have hx3 : xs.map (·.1) = [.lit (.int .i64 (s.1 : Nat)), .lit (.int .i32 (s.2.1 : Nat)), .lit (.int .i32 (s.2.2 : Nat))] := by
    have := congrArg Prod.fst hx
    simpa [spanData] using this.symm
  obtain ⟨x0, x1, x2, rfl⟩ : ∃ x0 x1 x2, xs = [x0, x1, x2] := by
    match xs, hx3 with
    | [x0, x1, x2], _ => exact ⟨x0, x1, x2, rfl⟩
  simp only [List.map_cons, List.map_nil, List.cons.injEq, and_true] at hx3
  obtain ⟨e0, e1, e2⟩ := hx3
  have f0 := hall 0 _ rfl
  have f1 := hall 1 _ rfl
  have f2 := hall 2 _ rfl
  change DataW.trod _ _ _ _ _ _ _ 104 ((cs.drop 0).take (Tryd.prog.cellsOf 104)) = some x0 at f0
  change DataW.trod _ _ _ _ _ _ _ 21 ((cs.drop 1).take (Tryd.prog.cellsOf 21)) = some x1 at f1
  change DataW.trod _ _ _ _ _ _ _ 21 ((cs.drop 2).take (Tryd.prog.cellsOf 21)) = some x2 at f2
  rw [show Tryd.prog.cellsOf 104 = 1 from by kernel_rfl] at f0
  rw [show Tryd.prog.cellsOf 21 = 1 from by kernel_rfl] at f1 f2
  have g0 : cs[0]? = some (.int .i64 (s.1 : Nat)) := by
    obtain ⟨z, hz, hx', _⟩ := DataW.trod_int Tryd.underlying104 f0
    rw [hx'] at e0
    cases e0
    exact at_take hz
  have g1 : cs[1]? = some (.int .i32 (s.2.1 : Nat)) := by
    obtain ⟨z, hz, hx', _⟩ := DataW.trod_int Tryd.underlying21 f1
    rw [hx'] at e1
    cases e1
    exact at_take hz
  have g2 : cs[2]? = some (.int .i32 (s.2.2 : Nat)) := by
    obtain ⟨z, hz, hx', _⟩ := DataW.trod_int Tryd.underlying21 f2
    rw [hx'] at e2
    cases e2
    exact at_take hz
  match cs, hl, g0, g1, g2 with
  | [c0, c1, c2], _, g0, g1, g2 =>
    simp at g0 g1 g2
    subst g0 g1 g2
    rfl

theorem spans_of_reads {w : World} (h : VarReads Tryd.prog w "gimlet/chars.spans" (.slice (Ch.tab.map spanData) [])) : Spans w := by
  obtain ⟨g, t, cs, fuel, p, hg, hty, hvar, hd⟩ := h
  obtain rfl := Option.some.inj ((show Tryd.prog.globalNamed "gimlet/chars.spans" = some 0 by kernel_rfl).symm.trans hg)
  obtain rfl := Option.some.inj ((show (Tryd.prog.globals[0]?).map (·.type) = some 114 by kernel_rfl).symm.trans hty)
  rcases DataW.trod_slice Tryd.underlying114 hd with ⟨_, hx'⟩ | ⟨a', len, cap, el, rs, m, rfl, hc0, hx', _, hlc, _, hel, helem, hsp, _⟩
  · cases hx'
  have e0 := congrArg Prod.fst hx'
  simp only [DataW.slice.injEq] at e0
  obtain ⟨eE, eR⟩ := e0
  have hlen : len = 45 := by
    have := congrArg List.length eE
    rw [List.length_map, List.length_map, Ch.tab_length] at this
    omega
  have hrow : ∀ i s, Ch.tab[i]? = some s → ∀ j, j < 3 → w.cell? ((a'.add (i * 3)).add j) = ([.int .i64 (s.1 : Nat), .int .i32 (s.2.1 : Nat), .int .i32 (s.2.2 : Nat)] : List Value)[j]? := by
    intro i s hs j hj
    have hi : i < len := by
      have := (List.getElem?_eq_some_iff.1 hs).1
      rw [Ch.tab_length] at this
      omega
    have h1 := helem i hi
    rw [show Tryd.prog.cellsOf 116 = 3 from by kernel_rfl] at h1
    obtain ⟨b, hb⟩ : ∃ b, el[i]? = some b := ⟨el[i]'(by omega), List.getElem?_eq_getElem (by omega)⟩
    rw [hb] at h1
    obtain ⟨ce, hce, hte⟩ := Option.bind_eq_some_iff.1 h1
    have hb1 : b.1 = spanData s := by
      have := congrArg (·[i]?) eE
      simp only [List.getElem?_map, hb, hs, Option.map_some, Option.some.injEq] at this
      exact this.symm
    have hcs := span_cells (p := b.2) (s := s) (by rw [← hb1]; exact hte)
    obtain ⟨_, _, hcc⟩ := World.cells?_some hce
    rw [hcc j hj, hcs]
  obtain ⟨R, oR, sR⟩ := a'
  obtain rfl : sR = none := by
    have h00 := hrow 0 (0, 9, 10) rfl 0 (by omega)
    have : (Addr.add (Addr.add ⟨R, oR, sR⟩ (0 * 3)) 0) = ⟨R, oR, sR⟩ := by simp [Addr.add]
    rw [this] at h00
    exact cell_spot h00
  refine ⟨R, oR, cap, ?_, fun i s hs => ?_⟩
  · rw [World.var?_cell hg hvar 0, ← Array.getElem?_toList, hc0, hlen]
    rfl
  · have k0 := hrow i s hs 0 (by omega)
    have k1 := hrow i s hs 1 (by omega)
    have k2 := hrow i s hs 2 (by omega)
    rw [Addr.add_lit, Addr.add_lit] at k0 k1 k2
    exact ⟨by simpa using k0, by simpa using k1, by simpa using k2⟩

/-- what each row of the seat lists -/
def theLaid : List (String × DataW Unit) := [("unicode/utf8.acceptRanges", Rows.laid_unicode_utf8_acceptRanges), ("gimlet/chars.spans", Rows.laid_gimlet_chars_spans), ("unicode/utf8.first", Rows.laid_unicode_utf8_first)]
theorem tabs_of_laid {W : World} (hL : laidMetH Tryd.prog theLaid W) : Lib.Utf8Tabs 1 2 W ∧ Spans W := by
  rw [MakeChecks.laidMetH_plain _ _ _ (by kernel_rfl)] at hL
  have h1 : VarReads Tryd.prog W "unicode/utf8.first" firstData := first_eq ▸ Lib.laidMet.reads hL (.tail _ (.tail _ (.head _)))
  have h2 : VarReads Tryd.prog W "unicode/utf8.acceptRanges" acceptData := accept_eq ▸ Lib.laidMet.reads hL (.head _)
  have h3 : VarReads Tryd.prog W "gimlet/chars.spans" (.slice (Ch.tab.map spanData) []) := spans_eq ▸ Lib.laidMet.reads hL (.tail _ (.head _))
  exact ⟨utf8Tabs_of_readsT u8types u8extra h1 h2, spans_of_reads h3⟩
set_option maxRecDepth 100000 in
theorem laid_shaped (os : Os) (args : Array Value) : ((World.laidAll Tryd.prog os theLaid).forCall (fun _ _ => 0) ⟨#[], args, []⟩).Shaped Tryd.prog := World.shaped_of_ZipB (by kernel_rfl) (by kernel_rfl)
set_option maxRecDepth 100000 in
theorem laid_holds (os : Os) (args : Array Value) : laidMetH Tryd.prog theLaid ((World.laidAll Tryd.prog os theLaid).forCall (fun _ _ => 0) ⟨#[], args, []⟩).memory := by
  rw [MakeChecks.laidMetH_plain _ _ _ (by kernel_rfl)]
  exact laidMet_laidAll _ (by kernel_rfl) (by kernel_rfl)
end Go.Proofs.YtcmjipgigkalcaaDoor
/-
  What the second form's bound gives, and its witness.
-/
namespace Go.Proofs.YtcmjipgigkalcaaDoor
open Go.RowKit Go.Shelf Go.Lib
open Go.ChangeShapes Go.WideShapes Go.ChangeAt

theorem bulk_one {H : Type} (d : DataW H) : 1 ≤ Rows.uptoBulk d := by
  cases d with
  | lit l => cases l <;> simp [Rows.uptoBulk]
  | nil => simp [Rows.uptoBulk]
  | ptr d => simp [Rows.uptoBulk]
  | slice elems spare => simp [Rows.uptoBulk]
  | agg parts => simp [Rows.uptoBulk]
  | iface t d => simp [Rows.uptoBulk]
  | map entries => simp [Rows.uptoBulk]
  | held h => simp [Rows.uptoBulk]
theorem bulk_length {H : Type} (l : List (DataW H)) : l.length ≤ Rows.uptoBulkAll l := by
  induction l with
  | nil => simp [Rows.uptoBulkAll]
  | cons x r ih => have := bulk_one x; simp only [Rows.uptoBulkAll, List.length_cons]; omega
theorem bulk_part {H : Type} {d : DataW H} {l : List (DataW H)} (h : d ∈ l) : Rows.uptoBulk d ≤ Rows.uptoBulkAll l := by
  induction l with
  | nil => cases h
  | cons x r ih =>
    simp only [Rows.uptoBulkAll]
    cases List.mem_cons.1 h with
    | inl e => subst e; omega
    | inr e => have := ih e; omega
theorem bulk_bound {H : Type} {l : List (DataW H)} (hk : Rows.uptoSmall H l = true) {d : DataW H} (h : d ∈ l) : Rows.uptoBulk d ≤ 1048576 :=
  Nat.le_trans (bulk_part h) (of_decide_eq_true hk)

theorem bulk_slice {H : Type} {l : List (DataW H)} (hk : Rows.uptoSmall H l = true) {d : DataW H} (h : d ∈ l) {len : Nat} (hd : len = 0 ∨ ∃ el sp, d = .slice el sp ∧ el.length = len) : len ≤ 1048576 := by
  rcases hd with h0 | ⟨el, sp, rfl, rfl⟩
  · omega
  · have h1 := bulk_bound hk h
    have h2 := bulk_length el
    simp only [Rows.uptoBulk] at h1
    omega

/-- 'there is an input that fits', at the world in which the tables lie -/
theorem upto_witness {H : Type} {enc : TypeId × Value → H} {os : Os} {f : FuncId} {fn : Func} {s : OpenSpec} {conds : List PathCond} (args : Array Value) (laid : List (String × DataW Unit)) (hl : laid = theLaid)
    (hok : Input.okWideB Tryd.checked.prog ((World.laidAll Tryd.prog os theLaid).forCall (fun _ _ => 0) ⟨#[], args, []⟩) f ⟨#[], args, []⟩ = true)
    (fuel : Nat) {x : List (DataW H) × List (DataW H) × List MemPlace} (hx : DataW.whole enc Tryd.checked.prog ((World.laidAll Tryd.prog os theLaid).forCall (fun _ _ => 0) ⟨#[], args, []⟩).memory fn.params.toList s.vars false args.toList fuel = some x)
    (hconds : conds.all (PathCond.test Tryd.checked.prog ⟨fn.params.toList, x.1, s.bare.plain.varTypes Tryd.checked.prog, x.2.1⟩) = true) (hkk : ∀ k, s.cond = some k → k H (x.1 ++ x.2.1) = true)
    (hsz : s.bare.sizedB enc Tryd.checked.prog fn false ((World.laidAll Tryd.prog os theLaid).forCall (fun _ _ => 0) ⟨#[], args, []⟩).memory args fuel = true) :
    ∃ (w : World) (tape : Tape) (i : Input), w.os = os ∧ (w.forCall tape i).Shaped Tryd.checked.prog ∧ i.vars = [] ∧ Input.okWide Tryd.checked.prog (w.forCall tape i) .any w.heap.size f i ∧
      s.preRow enc Tryd.checked.prog fn conds false laid (w.forCall tape i).memory i.args ∧ ({} : Assume).holds Tryd.checked.prog (lone (Frame.enter Tryd.checked.prog f i.args .normal) [] (w.forCall tape i)) := by
  subst hl
  refine ⟨World.laidAll Tryd.prog os theLaid, fun _ _ => 0, ⟨#[], args, []⟩, World.laidAll_os _ _ _, laid_shaped os args, (Input.okWide_of_okWideB (base := 0) hok).1, (Input.okWide_of_okWideB hok).2, OpenSpec.preRow_of_cond fuel hx hconds hkk hsz (laid_holds os args), ?_⟩
  simp only [Assume.holds]
  exact ⟨by simp, by simp, fun _ => Modest.zero, by simp, by simp⟩
end Go.Proofs.YtcmjipgigkalcaaDoor
