import Derived.Test.YtcnagbkdckipnaaGreatDoorChArg
import Derived.Test.YtcnagbkdckipnaaGreatDoorRows
import Derived.ProofKit
import Derived.WalkKit
import Derived.PinnedBridge
import Derived.Lib.LaidU8T
import Derived.Lay
import Derived.LaidOnce
import Derived.Test.YtcnagbkdckipnaaGreatDoorAkSLaw
/-
  WHAT A ROW's LIST OF VARIABLES GIVES: utf8's two tables and the program's table of ranges lie in memory.
-/
namespace Go.Proofs.YtcnagbkdckipnaaGreatDoor
open Go.RowKit Go.Shelf Go.Lib

theorem u8types : U8Types Tryz.prog Tryz.lays196_ren := U8Types.of196 Tryz.lays196
theorem u8extra : U8Extra Tryz.prog Tryz.lays196_ren := ⟨by kernel_rfl, by kernel_rfl, by kernel_rfl, by kernel_rfl, by kernel_rfl, by kernel_rfl, by kernel_rfl⟩
theorem accept_eq : Rows.laid_unicode_utf8_acceptRanges (H := Unit) = acceptData := by kernel_rfl
theorem first_eq : Rows.laid_unicode_utf8_first = firstData := Pinned.utf8First_eq
theorem own : ownKnob Tryz.prog.godebug = none := by kernel_rfl

/-- a range as a row lists it -/
def spanData (s : Ch.Sp) : DataW Unit := .agg [.lit (.int .i64 (s.1 : Nat)), .lit (.int .i32 (s.2.1 : Nat)), .lit (.int .i32 (s.2.2 : Nat))]
theorem spans_eq : Rows.laid_gimlet_chars_spans (H := Unit) = .slice (Ch.tab.map spanData) [] := by kernel_rfl

theorem at_take {cs : List Value} {k : Nat} {v : Value} (h : (cs.drop k).take 1 = [v]) : cs[k]? = some v := by
  have := congrArg (·[0]?) h
  simpa [List.getElem?_take, List.getElem?_drop] using this
set_option maxRecDepth 100000 in
/-- a span that reads as a range holds it, cell for cell -/
theorem span_cells {w : World} {fuel : Nat} {cs : List Value} {s : Ch.Sp} {p : List MemPlace} (h : DataW.trod (fun _ => ()) Tryz.prog w 0 (fun _ => true) false fuel 188 cs = some (spanData s, p)) :
    cs = [.int .i64 (s.1 : Nat), .int .i32 (s.2.1 : Nat), .int .i32 (s.2.2 : Nat)] := by
  obtain ⟨xs, n, rfl, hx, hl, hxl, hall⟩ := DataW.trod_struct Tryz.underlying188 h
  rw [show Tryz.prog.cellsOf 188 = 3 from by kernel_rfl] at hl
  have hx3 : xs.map (·.1) = [.lit (.int .i64 (s.1 : Nat)), .lit (.int .i32 (s.2.1 : Nat)), .lit (.int .i32 (s.2.2 : Nat))] := by
    have := congrArg Prod.fst hx
    simpa [spanData] using this.symm
  obtain ⟨x0, x1, x2, rfl⟩ : ∃ x0 x1 x2, xs = [x0, x1, x2] := by
    match xs, hx3 with
    | [x0, x1, x2], _ => exact ⟨x0, x1, x2, rfl⟩
  simp only [List.map_cons, List.map_nil, List.cons.injEq, and_true] at hx3
  obtain ⟨e0, e1, e2⟩ := hx3
  have f0 := hall 0 _ rfl
  have f1 := hall 1 _ rfl
  have f2 := hall 2 _ rfl
  change DataW.trod _ _ _ _ _ _ _ 83 ((cs.drop 0).take (Tryz.prog.cellsOf 83)) = some x0 at f0
  change DataW.trod _ _ _ _ _ _ _ 21 ((cs.drop 1).take (Tryz.prog.cellsOf 21)) = some x1 at f1
  change DataW.trod _ _ _ _ _ _ _ 21 ((cs.drop 2).take (Tryz.prog.cellsOf 21)) = some x2 at f2
  rw [show Tryz.prog.cellsOf 83 = 1 from by kernel_rfl] at f0
  rw [show Tryz.prog.cellsOf 21 = 1 from by kernel_rfl] at f1 f2
  have g0 : cs[0]? = some (.int .i64 (s.1 : Nat)) := by
    obtain ⟨z, hz, hx', _⟩ := DataW.trod_int Tryz.underlying83 f0
    rw [hx'] at e0
    cases e0
    exact at_take hz
  have g1 : cs[1]? = some (.int .i32 (s.2.1 : Nat)) := by
    obtain ⟨z, hz, hx', _⟩ := DataW.trod_int Tryz.underlying21 f1
    rw [hx'] at e1
    cases e1
    exact at_take hz
  have g2 : cs[2]? = some (.int .i32 (s.2.2 : Nat)) := by
    obtain ⟨z, hz, hx', _⟩ := DataW.trod_int Tryz.underlying21 f2
    rw [hx'] at e2
    cases e2
    exact at_take hz
  match cs, hl, g0, g1, g2 with
  | [c0, c1, c2], _, g0, g1, g2 =>
    simp at g0 g1 g2
    subst g0 g1 g2
    rfl

theorem spans_of_reads {w : World} (h : VarReads Tryz.prog w "gimlet/chars.spans" (.slice (Ch.tab.map spanData) [])) : Spans w := by
  obtain ⟨g, t, cs, fuel, p, hg, hty, hvar, hd⟩ := h
  obtain rfl := Option.some.inj ((show Tryz.prog.globalNamed "gimlet/chars.spans" = some 3 by kernel_rfl).symm.trans hg)
  obtain rfl := Option.some.inj ((show (Tryz.prog.globals[3]?).map (·.type) = some 186 by kernel_rfl).symm.trans hty)
  rcases DataW.trod_slice Tryz.underlying186 hd with ⟨_, hx'⟩ | ⟨a', len, cap, el, rs, m, rfl, hc0, hx', _, hlc, _, hel, helem, hsp, _⟩
  · cases hx'
  have e0 := congrArg Prod.fst hx'
  simp only [DataW.slice.injEq] at e0
  obtain ⟨eE, eR⟩ := e0
  have hlen : len = 45 := by
    have := congrArg List.length eE
    rw [List.length_map, List.length_map, Ch.tab_length] at this
    omega
  have hrow : ∀ i s, Ch.tab[i]? = some s → ∀ j, j < 3 → w.cell? ((a'.add (i * 3)).add j) = ([.int .i64 (s.1 : Nat), .int .i32 (s.2.1 : Nat), .int .i32 (s.2.2 : Nat)] : List Value)[j]? := by
    intro i s hs j hj
    have hi : i < len := by
      have := (List.getElem?_eq_some_iff.1 hs).1
      rw [Ch.tab_length] at this
      omega
    have h1 := helem i hi
    rw [show Tryz.prog.cellsOf 188 = 3 from by kernel_rfl] at h1
    obtain ⟨b, hb⟩ : ∃ b, el[i]? = some b := ⟨el[i]'(by omega), List.getElem?_eq_getElem (by omega)⟩
    rw [hb] at h1
    obtain ⟨ce, hce, hte⟩ := Option.bind_eq_some_iff.1 h1
    have hb1 : b.1 = spanData s := by
      have := congrArg (·[i]?) eE
      simp only [List.getElem?_map, hb, hs, Option.map_some, Option.some.injEq] at this
      exact this.symm
    have hcs := span_cells (p := b.2) (s := s) (by rw [← hb1]; exact hte)
    obtain ⟨_, _, hcc⟩ := World.cells?_some hce
    rw [hcc j hj, hcs]
  obtain ⟨R, oR, sR⟩ := a'
  obtain rfl : sR = none := by
    have h00 := hrow 0 (0, 9, 10) rfl 0 (by omega)
    have : (Addr.add (Addr.add ⟨R, oR, sR⟩ (0 * 3)) 0) = ⟨R, oR, sR⟩ := by simp [Addr.add]
    rw [this] at h00
    exact cell_spot h00
  refine ⟨R, oR, cap, ?_, fun i s hs => ?_⟩
  · rw [World.var?_cell hg hvar 0, ← Array.getElem?_toList, hc0, hlen]
    rfl
  · have k0 := hrow i s hs 0 (by omega)
    have k1 := hrow i s hs 1 (by omega)
    have k2 := hrow i s hs 2 (by omega)
    rw [Addr.add_lit, Addr.add_lit] at k0 k1 k2
    exact ⟨by simpa using k0, by simpa using k1, by simpa using k2⟩

/-- what each row of the seat lists -/
def theLaid : List (String × DataW Unit) := [("unicode/utf8.acceptRanges", Rows.laid_unicode_utf8_acceptRanges), ("gimlet/chars.spans", Rows.laid_gimlet_chars_spans), ("unicode/utf8.first", Rows.laid_unicode_utf8_first)]
theorem tabs_of_laid {W : World} (hL : laidMetH Tryz.prog theLaid W) : Lib.Utf8Tabs 1 2 W ∧ Spans W := by
  rw [MakeChecks.laidMetH_plain _ _ _ (by kernel_rfl)] at hL
  have h1 : VarReads Tryz.prog W "unicode/utf8.first" firstData := first_eq ▸ Lib.laidMet.reads hL (.tail _ (.tail _ (.head _)))
  have h2 : VarReads Tryz.prog W "unicode/utf8.acceptRanges" acceptData := accept_eq ▸ Lib.laidMet.reads hL (.head _)
  have h3 : VarReads Tryz.prog W "gimlet/chars.spans" (.slice (Ch.tab.map spanData) []) := spans_eq ▸ Lib.laidMet.reads hL (.tail _ (.head _))
  exact ⟨utf8Tabs_of_readsT u8types u8extra h1 h2, spans_of_reads h3⟩
set_option maxRecDepth 100000 in
theorem laid_shaped (os : Os) (args : Array Value) : ((World.laidAll Tryz.prog os theLaid).forCall (fun _ _ => 0) ⟨#[], args, []⟩).Shaped Tryz.prog := World.shaped_of_ZipB (by kernel_rfl) (by kernel_rfl)
set_option maxRecDepth 100000 in
theorem laid_holds (os : Os) (args : Array Value) : laidMetH Tryz.prog theLaid ((World.laidAll Tryz.prog os theLaid).forCall (fun _ _ => 0) ⟨#[], args, []⟩).memory := by
  rw [MakeChecks.laidMetH_plain _ _ _ (by kernel_rfl)]
  exact laidMet_laidAll _ (by kernel_rfl) (by kernel_rfl)
end Go.Proofs.YtcnagbkdckipnaaGreatDoor
/-
  WHAT THE ROW's LIST OF VARIABLES GIVES: utf8's two tables, the program's ranges, signs, axes, tests and comparisons (gen_aktabs.py writes this text).
-/
namespace Go.Proofs.YtcnagbkdckipnaaGreatDoor
open Go.RowKit Go.Shelf Go.Lib
def strData (s : ByteArray) : DataW Unit := .lit (.string s.data.toList)
theorem akaxes_eq : Rows.laid_gimlet_ask_axes (H := Unit) = .agg (Ak.axs.map strData) := by kernel_rfl
set_option maxRecDepth 100000 in
theorem akaxes_of_reads {w : World} (h : VarReads Tryz.prog w "gimlet/ask.axes" (.agg (Ak.axs.map strData))) : ∀ i s, (Ak.axs)[i]? = some s → w.cell? ⟨5, i, none⟩ = some (.string s) := by
  obtain ⟨g, t, cs, fuel, p, hg, hty, hvar, hd⟩ := h
  obtain rfl := Option.some.inj ((show Tryz.prog.globalNamed "gimlet/ask.axes" = some 5 by kernel_rfl).symm.trans hg)
  obtain rfl := Option.some.inj ((show (Tryz.prog.globals[5]?).map (·.type) = some 209 by kernel_rfl).symm.trans hty)
  obtain ⟨xs, m, rfl, hx, hl, hxl, hall⟩ := DataW.trod_array Tryz.underlying209 hd
  have e0 : (Ak.axs).map strData = xs.map (·.1) := by
    have := congrArg Prod.fst hx
    simpa using this
  intro i s hs
  have hi : i < 4 := (List.getElem?_eq_some_iff.1 hs).1
  have h1 := hall i hi
  rw [show Tryz.prog.cellsOf 9 = 1 from by kernel_rfl] at h1
  obtain ⟨b, hb⟩ : ∃ b, xs[i]? = some b := ⟨xs[i]'(by omega), List.getElem?_eq_getElem (by omega)⟩
  rw [hb] at h1
  obtain ⟨y, hy, hx', _⟩ := DataW.trod_string Tryz.underlying9 h1
  have hb1 : b.1 = strData s := by
    have := congrArg (·[i]?) e0
    simp only [List.getElem?_map, hb, hs, Option.map_some, Option.some.injEq] at this
    exact this.symm
  rw [hx'] at hb1
  unfold strData at hb1
  simp only [DataW.lit.injEq, Lit.string.injEq] at hb1
  have hys : y = s := ByteArray.ext (Array.ext' hb1)
  rw [World.var?_cell hg hvar i, ← Array.getElem?_toList, ← hys]
  have := at_take hy
  rwa [Nat.mul_one] at this
theorem aktests_eq : Rows.laid_gimlet_ask_tests (H := Unit) = .agg (Ak.tss.map strData) := by kernel_rfl
set_option maxRecDepth 100000 in
theorem aktests_of_reads {w : World} (h : VarReads Tryz.prog w "gimlet/ask.tests" (.agg (Ak.tss.map strData))) : ∀ i s, (Ak.tss)[i]? = some s → w.cell? ⟨6, i, none⟩ = some (.string s) := by
  obtain ⟨g, t, cs, fuel, p, hg, hty, hvar, hd⟩ := h
  obtain rfl := Option.some.inj ((show Tryz.prog.globalNamed "gimlet/ask.tests" = some 6 by kernel_rfl).symm.trans hg)
  obtain rfl := Option.some.inj ((show (Tryz.prog.globals[6]?).map (·.type) = some 209 by kernel_rfl).symm.trans hty)
  obtain ⟨xs, m, rfl, hx, hl, hxl, hall⟩ := DataW.trod_array Tryz.underlying209 hd
  have e0 : (Ak.tss).map strData = xs.map (·.1) := by
    have := congrArg Prod.fst hx
    simpa using this
  intro i s hs
  have hi : i < 4 := (List.getElem?_eq_some_iff.1 hs).1
  have h1 := hall i hi
  rw [show Tryz.prog.cellsOf 9 = 1 from by kernel_rfl] at h1
  obtain ⟨b, hb⟩ : ∃ b, xs[i]? = some b := ⟨xs[i]'(by omega), List.getElem?_eq_getElem (by omega)⟩
  rw [hb] at h1
  obtain ⟨y, hy, hx', _⟩ := DataW.trod_string Tryz.underlying9 h1
  have hb1 : b.1 = strData s := by
    have := congrArg (·[i]?) e0
    simp only [List.getElem?_map, hb, hs, Option.map_some, Option.some.injEq] at this
    exact this.symm
  rw [hx'] at hb1
  unfold strData at hb1
  simp only [DataW.lit.injEq, Lit.string.injEq] at hb1
  have hys : y = s := ByteArray.ext (Array.ext' hb1)
  rw [World.var?_cell hg hvar i, ← Array.getElem?_toList, ← hys]
  have := at_take hy
  rwa [Nat.mul_one] at this
theorem akcompares_eq : Rows.laid_gimlet_ask_compares (H := Unit) = .agg (Ak.cms.map strData) := by kernel_rfl
set_option maxRecDepth 100000 in
theorem akcompares_of_reads {w : World} (h : VarReads Tryz.prog w "gimlet/ask.compares" (.agg (Ak.cms.map strData))) : ∀ i s, (Ak.cms)[i]? = some s → w.cell? ⟨7, i, none⟩ = some (.string s) := by
  obtain ⟨g, t, cs, fuel, p, hg, hty, hvar, hd⟩ := h
  obtain rfl := Option.some.inj ((show Tryz.prog.globalNamed "gimlet/ask.compares" = some 7 by kernel_rfl).symm.trans hg)
  obtain rfl := Option.some.inj ((show (Tryz.prog.globals[7]?).map (·.type) = some 222 by kernel_rfl).symm.trans hty)
  obtain ⟨xs, m, rfl, hx, hl, hxl, hall⟩ := DataW.trod_array Tryz.underlying222 hd
  have e0 : (Ak.cms).map strData = xs.map (·.1) := by
    have := congrArg Prod.fst hx
    simpa using this
  intro i s hs
  have hi : i < 9 := (List.getElem?_eq_some_iff.1 hs).1
  have h1 := hall i hi
  rw [show Tryz.prog.cellsOf 9 = 1 from by kernel_rfl] at h1
  obtain ⟨b, hb⟩ : ∃ b, xs[i]? = some b := ⟨xs[i]'(by omega), List.getElem?_eq_getElem (by omega)⟩
  rw [hb] at h1
  obtain ⟨y, hy, hx', _⟩ := DataW.trod_string Tryz.underlying9 h1
  have hb1 : b.1 = strData s := by
    have := congrArg (·[i]?) e0
    simp only [List.getElem?_map, hb, hs, Option.map_some, Option.some.injEq] at this
    exact this.symm
  rw [hx'] at hb1
  unfold strData at hb1
  simp only [DataW.lit.injEq, Lit.string.injEq] at hb1
  have hys : y = s := ByteArray.ext (Array.ext' hb1)
  rw [World.var?_cell hg hvar i, ← Array.getElem?_toList, ← hys]
  have := at_take hy
  rwa [Nat.mul_one] at this
theorem aksigns_eq : Rows.laid_gimlet_lexis_signs (H := Unit) = .agg ((Lx.sgs.map Lx.bt).map strData) := by kernel_rfl
set_option maxRecDepth 100000 in
theorem aksigns_of_reads {w : World} (h : VarReads Tryz.prog w "gimlet/lexis.signs" (.agg ((Lx.sgs.map Lx.bt).map strData))) : ∀ i s, ((Lx.sgs.map Lx.bt))[i]? = some s → w.cell? ⟨4, i, none⟩ = some (.string s) := by
  obtain ⟨g, t, cs, fuel, p, hg, hty, hvar, hd⟩ := h
  obtain rfl := Option.some.inj ((show Tryz.prog.globalNamed "gimlet/lexis.signs" = some 4 by kernel_rfl).symm.trans hg)
  obtain rfl := Option.some.inj ((show (Tryz.prog.globals[4]?).map (·.type) = some 191 by kernel_rfl).symm.trans hty)
  obtain ⟨xs, m, rfl, hx, hl, hxl, hall⟩ := DataW.trod_array Tryz.underlying191 hd
  have e0 : ((Lx.sgs.map Lx.bt)).map strData = xs.map (·.1) := by
    have := congrArg Prod.fst hx
    simpa using this
  intro i s hs
  have hi : i < 15 := (List.getElem?_eq_some_iff.1 hs).1
  have h1 := hall i hi
  rw [show Tryz.prog.cellsOf 9 = 1 from by kernel_rfl] at h1
  obtain ⟨b, hb⟩ : ∃ b, xs[i]? = some b := ⟨xs[i]'(by omega), List.getElem?_eq_getElem (by omega)⟩
  rw [hb] at h1
  obtain ⟨y, hy, hx', _⟩ := DataW.trod_string Tryz.underlying9 h1
  have hb1 : b.1 = strData s := by
    have := congrArg (·[i]?) e0
    simp only [List.getElem?_map, hb, hs, Option.map_some, Option.some.injEq] at this
    exact this.symm
  rw [hx'] at hb1
  unfold strData at hb1
  simp only [DataW.lit.injEq, Lit.string.injEq] at hb1
  have hys : y = s := ByteArray.ext (Array.ext' hb1)
  rw [World.var?_cell hg hvar i, ← Array.getElem?_toList, ← hys]
  have := at_take hy
  rwa [Nat.mul_one] at this
theorem aksigns' {w : World} (h : ∀ i s, (Lx.sgs.map Lx.bt)[i]? = some s → w.cell? ⟨4, i, none⟩ = some (.string s)) : Signs w := fun i s hs => h i (Lx.bt s) (by rw [List.getElem?_map, hs]; rfl)
/-- what the row lists -/
def theLaidA : List (String × DataW Unit) := [("math/bits.deBruijn32tab", Rows.laid_math_bits_deBruijn32tab), ("math/bits.deBruijn64tab", Rows.laid_math_bits_deBruijn64tab), ("internal/strconv.uint64pow10", Rows.laid_internal_strconv_uint64pow10), ("unicode/utf8.acceptRanges", Rows.laid_unicode_utf8_acceptRanges), ("gimlet/chars.spans", Rows.laid_gimlet_chars_spans), ("gimlet/lexis.signs", Rows.laid_gimlet_lexis_signs), ("gimlet/ask.axes", Rows.laid_gimlet_ask_axes), ("gimlet/ask.tests", Rows.laid_gimlet_ask_tests), ("gimlet/ask.compares", Rows.laid_gimlet_ask_compares), ("unicode/utf8.first", Rows.laid_unicode_utf8_first)]
theorem tabsA_of_laid {W : World} (hL : laidMetH Tryz.prog theLaidA W) : Lib.Utf8Tabs 1 2 W ∧ Spans W ∧ Signs W ∧ Ak.Tb W ∧ Ak.TbT W := by
  rw [MakeChecks.laidMetH_plain _ _ _ (by kernel_rfl)] at hL
  have h2 : VarReads Tryz.prog W "unicode/utf8.acceptRanges" acceptData := accept_eq ▸ Lib.laidMet.reads hL (.tail _ (.tail _ (.tail _ (.head _))))
  have h3 : VarReads Tryz.prog W "gimlet/chars.spans" (.slice (Ch.tab.map spanData) []) := spans_eq ▸ Lib.laidMet.reads hL (.tail _ (.tail _ (.tail _ (.tail _ (.head _)))))
  have h4 := aksigns_eq ▸ Lib.laidMet.reads hL (.tail _ (.tail _ (.tail _ (.tail _ (.tail _ (.head _))))))
  have h5 := akaxes_eq ▸ Lib.laidMet.reads hL (.tail _ (.tail _ (.tail _ (.tail _ (.tail _ (.tail _ (.head _)))))))
  have h6 := aktests_eq ▸ Lib.laidMet.reads hL (.tail _ (.tail _ (.tail _ (.tail _ (.tail _ (.tail _ (.tail _ (.head _))))))))
  have h7 := akcompares_eq ▸ Lib.laidMet.reads hL (.tail _ (.tail _ (.tail _ (.tail _ (.tail _ (.tail _ (.tail _ (.tail _ (.head _)))))))))
  have h1 : VarReads Tryz.prog W "unicode/utf8.first" firstData := first_eq ▸ Lib.laidMet.reads hL (.tail _ (.tail _ (.tail _ (.tail _ (.tail _ (.tail _ (.tail _ (.tail _ (.tail _ (.head _))))))))))
  exact ⟨utf8Tabs_of_readsT u8types u8extra h1 h2, spans_of_reads h3, aksigns' (aksigns_of_reads h4), ⟨akcompares_of_reads h7, akaxes_of_reads h5⟩, aktests_of_reads h6⟩
set_option maxRecDepth 100000 in
theorem laidA_shaped (os : Os) (args : Array Value) : ((World.laidAll Tryz.prog os theLaidA).forCall (fun _ _ => 0) ⟨#[], args, []⟩).Shaped Tryz.prog := World.shaped_of_ZipB (by kernel_rfl) (by kernel_rfl)
set_option maxRecDepth 100000 in
theorem laidA_holds (os : Os) (args : Array Value) : laidMetH Tryz.prog theLaidA ((World.laidAll Tryz.prog os theLaidA).forCall (fun _ _ => 0) ⟨#[], args, []⟩).memory := by
  rw [MakeChecks.laidMetH_plain _ _ _ (by kernel_rfl)]
  exact laidMet_laidAll _ (by kernel_rfl) (by kernel_rfl)
end Go.Proofs.YtcnagbkdckipnaaGreatDoor
