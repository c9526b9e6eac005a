/-
  What the row of LexisPrints tells: its variables, and words that came in.
-/
import Derived.Test.YtoccedbnnafjcaaDoorLxPrZ
import Derived.Test.YtoccedbnnafjcaaDoorLxOpen
import Derived.Test.YtoccedbnnafjcaaDoorLxBulk
import Derived.Lib.LaidTab
import Derived.Deep.Slices
namespace Go.Proofs.YtoccedbnnafjcaaDoor
open Go.RowKit Go.Shelf Go.Lib
open Go.ChangeShapes Go.WideShapes Go.ChangeAt

theorem pow10_eq : Rows.laid_internal_strconv_uint64pow10 (H := Unit) = Lib.tabData .u64 Lib.pow10Tab := by kernel_rfl
theorem pow10_of_reads {w : World} (h : VarReads Tryd.prog w "internal/strconv.uint64pow10" (Lib.tabData .u64 Lib.pow10Tab)) : Lx.P10 w := by
  obtain ⟨g, t, cs, fuel, p, hg, hty, hvar, hd⟩ := h
  obtain rfl := Option.some.inj ((show Tryd.prog.globalNamed "internal/strconv.uint64pow10" = some 6 by kernel_rfl).symm.trans hg)
  obtain rfl := Option.some.inj ((show (Tryd.prog.globals[6]?).map (·.type) = some 154 by kernel_rfl).symm.trans hty)
  show World.var? _ _ _ = _
  rw [hvar]
  have := Lib.cells_of_tab Tryd.underlying154 Tryd.underlying129 (by kernel_rfl) (by kernel_rfl) hd
  rw [← this]
/-- what the row lists -/
def theLaidP : List (String × DataW Unit) := [("math/bits.deBruijn32tab", Rows.laid_math_bits_deBruijn32tab), ("math/bits.deBruijn64tab", Rows.laid_math_bits_deBruijn64tab), ("internal/strconv.uint64pow10", Rows.laid_internal_strconv_uint64pow10), ("unicode/utf8.acceptRanges", Rows.laid_unicode_utf8_acceptRanges), ("gimlet/chars.spans", Rows.laid_gimlet_chars_spans), ("gimlet/lexis.signs", Rows.laid_gimlet_lexis_signs), ("unicode/utf8.first", Rows.laid_unicode_utf8_first)]
theorem tabsP_of_laid {W : World} (hL : laidMetH Tryd.prog theLaidP W) : Lib.Utf8Tabs 1 2 W ∧ Spans W ∧ Signs W ∧ Lx.P10 W := by
  rw [MakeChecks.laidMetH_plain _ _ _ (by kernel_rfl)] at hL
  have h1 : VarReads Tryd.prog W "unicode/utf8.first" firstData := first_eq ▸ Lib.laidMet.reads hL (.tail _ (.tail _ (.tail _ (.tail _ (.tail _ (.tail _ (.head _)))))))
  have h2 : VarReads Tryd.prog W "unicode/utf8.acceptRanges" acceptData := accept_eq ▸ Lib.laidMet.reads hL (.tail _ (.tail _ (.tail _ (.head _))))
  have h3 : VarReads Tryd.prog W "gimlet/chars.spans" (.slice (Ch.tab.map spanData) []) := spans_eq ▸ Lib.laidMet.reads hL (.tail _ (.tail _ (.tail _ (.tail _ (.head _)))))
  have h4 : VarReads Tryd.prog W "gimlet/lexis.signs" (.agg (Lx.sgs.map signData)) := signs_eq ▸ Lib.laidMet.reads hL (.tail _ (.tail _ (.tail _ (.tail _ (.tail _ (.head _))))))
  have h5 : VarReads Tryd.prog W "internal/strconv.uint64pow10" (Lib.tabData .u64 Lib.pow10Tab) := pow10_eq ▸ Lib.laidMet.reads hL (.tail _ (.tail _ (.head _)))
  exact ⟨utf8Tabs_of_readsT u8types u8extra h1 h2, spans_of_reads h3, signs_of_reads h4, pow10_of_reads h5⟩
set_option maxRecDepth 100000 in
theorem laidP_shaped (os : Os) (args : Array Value) : ((World.laidAll Tryd.prog os theLaidP).forCall (fun _ _ => 0) ⟨#[], args, []⟩).Shaped Tryd.prog := World.shaped_of_ZipB (by kernel_rfl) (by kernel_rfl)
set_option maxRecDepth 100000 in
theorem laidP_holds (os : Os) (args : Array Value) : laidMetH Tryd.prog theLaidP ((World.laidAll Tryd.prog os theLaidP).forCall (fun _ _ => 0) ⟨#[], args, []⟩).memory := by
  rw [MakeChecks.laidMetH_plain _ _ _ (by kernel_rfl)]
  exact laidMet_laidAll _ (by kernel_rfl) (by kernel_rfl)
/-- 'there is an input that fits', at the world in which the tables lie -/
theorem uptoP_witness {H : Type} {enc : TypeId × Value → H} {os : Os} {f : FuncId} {fn : Func} {s : OpenSpec} {conds : List PathCond} (args : Array Value) (laid : List (String × DataW Unit)) (hl : laid = theLaidP)
    (hok : Input.okWideB Tryd.checked.prog ((World.laidAll Tryd.prog os theLaidP).forCall (fun _ _ => 0) ⟨#[], args, []⟩) f ⟨#[], args, []⟩ = true)
    (fuel : Nat) {x : List (DataW H) × List (DataW H) × List MemPlace} (hx : DataW.whole enc Tryd.checked.prog ((World.laidAll Tryd.prog os theLaidP).forCall (fun _ _ => 0) ⟨#[], args, []⟩).memory fn.params.toList s.vars false args.toList fuel = some x)
    (hconds : conds.all (PathCond.test Tryd.checked.prog ⟨fn.params.toList, x.1, s.bare.plain.varTypes Tryd.checked.prog, x.2.1⟩) = true) (hkk : ∀ k, s.cond = some k → k H (x.1 ++ x.2.1) = true)
    (hsz : s.bare.sizedB enc Tryd.checked.prog fn false ((World.laidAll Tryd.prog os theLaidP).forCall (fun _ _ => 0) ⟨#[], args, []⟩).memory args fuel = true) :
    ∃ (w : World) (tape : Tape) (i : Input), w.os = os ∧ (w.forCall tape i).Shaped Tryd.checked.prog ∧ i.vars = [] ∧ Input.okWide Tryd.checked.prog (w.forCall tape i) .any w.heap.size f i ∧
      s.preRow enc Tryd.checked.prog fn conds false laid (w.forCall tape i).memory i.args ∧ ({} : Assume).holds Tryd.checked.prog (lone (Frame.enter Tryd.checked.prog f i.args .normal) [] (w.forCall tape i)) := by
  subst hl
  refine ⟨World.laidAll Tryd.prog os theLaidP, fun _ _ => 0, ⟨#[], args, []⟩, World.laidAll_os _ _ _, laidP_shaped os args, (Input.okWide_of_okWideB (base := 0) hok).1, (Input.okWide_of_okWideB hok).2, OpenSpec.preRow_of_cond fuel hx hconds hkk hsz (laidP_holds os args), ?_⟩
  simp only [Assume.holds]
  exact ⟨by simp, by simp, fun _ => Modest.zero, by simp, by simp⟩
instance : Inhabited Lx.Wx := ⟨⟨0, ⟨#[]⟩, 0, 0, 0, 0, 0⟩⟩
set_option maxRecDepth 100000 in
/-- words that came in -/
theorem wargs_of {H : Type} {enc : TypeId × Value → H} {W : World} {a : Option Addr} {len cap : Nat} {d : DataW H} {p : List MemPlace} (h : DataW.Trod enc Tryd.prog W 0 (fun _ => true) true 24 (Value.slice a len cap) d p) :
    ∃ X, Lx.WArg W (.slice a len cap) len X ∧ (∀ i, i < len → -9223372036854775808 ≤ (X i).nm ∧ (X i).nm ≤ 9223372036854775807) ∧ (len = 0 ∨ ∃ el sp, d = .slice el sp ∧ el.length = len ∧ ∀ i, i < len → ∃ x, x ∈ el ∧ (X i).tx.size ≤ Rows.uptoBulk x) := by
  obtain ⟨fuel, hf⟩ := h
  rcases Go.Deep.open_slice Tryd.underlying24 hf with ⟨hcs, _⟩ | ⟨x, l, c, m, n, D, Pl, hcs, _, hl, hm, hmm, hx, hel⟩
  · simp [Value.cells] at hcs
    obtain ⟨rfl, rfl, rfl⟩ := hcs
    exact ⟨fun _ => ⟨0, ⟨#[]⟩, 0, 0, 0, 0, 0⟩, ⟨⟨none, 0, rfl, Nat.le_refl _, by omega, fun h => absurd h (by omega)⟩, .inl rfl⟩, fun i hi => absurd hi (by omega), .inl rfl⟩
  · simp [Value.cells] at hcs
    obtain ⟨rfl, rfl, rfl⟩ := hcs
    obtain rfl : m = cap := by simpa using hmm
    have ce : Tryd.prog.cellsOf 43 = 7 := by kernel_rfl
    have each : ∀ i, i < len → ∃ s : Lx.Wx, (∀ j u, s.cs[j]? = some u → W.cell? (x.add (i * 7 + j)) = some u) ∧ (-9223372036854775808 ≤ s.nm ∧ s.nm ≤ 9223372036854775807) ∧ s.tx.size ≤ Rows.uptoBulk (D i) := by
      intro i hi
      obtain ⟨cs', h1, h2⟩ := hel i (by omega)
      rw [ce] at h1
      obtain ⟨_, hlen, hcell⟩ := World.cells?_some h1
      obtain ⟨ys, k, hk, hxy, _, hxl, hfl⟩ := DataW.trod_struct Tryd.underlying43 h2
      match ys, hxl, cs', hlen with
      | [y0, y1, y2, y3], _, [v0, v1, v2, v3, v4, v5, v6], _ =>
        have g0 := hfl 0 _ rfl
        have g1 := hfl 1 _ rfl
        have g2 := hfl 2 _ rfl
        have g3 := hfl 3 _ rfl
        have c0 : Tryd.prog.cellsOf 3 = 1 := by kernel_rfl
        have c1 : Tryd.prog.cellsOf 9 = 1 := by kernel_rfl
        have c2 : Tryd.prog.cellsOf 41 = 1 := by kernel_rfl
        have c3 : Tryd.prog.cellsOf 30 = 4 := by kernel_rfl
        simp [c0, c1, c2, c3] at g0 g1 g2 g3
        obtain ⟨K, hK, _⟩ := DataW.trod_int Tryd.underlying41 g0
        obtain ⟨T, hT, hT2, _⟩ := DataW.trod_string Tryd.underlying9 g1
        obtain ⟨N, hN, _, wN⟩ := DataW.trod_int Tryd.underlying3 g2
        obtain ⟨zs, k2, _, _, _, zl, zf⟩ := DataW.trod_struct Tryd.underlying30 g3
        match zs, zl with
        | [z0, z1, z2, z3], _ =>
          have q0 := zf 0 _ rfl
          have q1 := zf 1 _ rfl
          have q2 := zf 2 _ rfl
          have q3 := zf 3 _ rfl
          simp [c0] at q0 q1 q2 q3
          obtain ⟨P0, hP0, _⟩ := DataW.trod_int Tryd.underlying3 q0
          obtain ⟨P1, hP1, _⟩ := DataW.trod_int Tryd.underlying3 q1
          obtain ⟨P2, hP2, _⟩ := DataW.trod_int Tryd.underlying3 q2
          obtain ⟨P3, hP3, _⟩ := DataW.trod_int Tryd.underlying3 q3
          obtain rfl : v0 = .int .i64 K := by simpa using hK
          obtain rfl : v1 = .string T := by simpa using hT
          obtain rfl : v2 = .int .i64 N := by simpa using hN
          obtain rfl : v3 = .int .i64 P0 := by simpa using hP0
          obtain rfl : v4 = .int .i64 P1 := by simpa using hP1
          obtain rfl : v5 = .int .i64 P2 := by simpa using hP2
          obtain rfl : v6 = .int .i64 P3 := by simpa using hP3
          refine ⟨⟨K, T, N, P0, P1, P2, P3⟩, fun j u hu => ?_, bounds_i64 wN, ?_⟩
          · have hj : j < 7 := (Array.getElem?_eq_some_iff.1 hu).1
            have e := hcell j (by omega)
            rw [Go.Deep.add_add] at e
            rw [e]
            rw [← hu]
            show _ = (#[.int .i64 K, .string T, .int .i64 N, .int .i64 P0, .int .i64 P1, .int .i64 P2, .int .i64 P3] : Array Value)[j]?
            simp
          · simp only [Prod.mk.injEq] at hxy
            rw [hxy.1]
            show T.size ≤ _
            simp only [List.map, Rows.uptoBulk, Rows.uptoBulkAll, hT2]
            have : T.data.toList.length = T.size := rfl
            omega
    obtain ⟨S, hS⟩ := Go.Deep.choose_lt each
    refine ⟨S, ⟨⟨_, _, rfl, hl, by unfold maxLen at hm; omega, fun h0 => ?_⟩, .inr ⟨_, _, rfl⟩⟩, fun i hi => (hS i hi).2.1, .inr ⟨_, _, congrArg Prod.fst hx, by simp, fun i hi => ⟨D i, ?_, (hS i hi).2.2⟩⟩⟩
    · obtain ⟨b, off, spot⟩ := x
      have h00 := (hS 0 h0).1 0 _ rfl
      have hspot : spot = none := by simpa [Addr.add] using World.cell?_spot h00
      subst hspot
      refine ⟨b, off, rfl, fun i j u hi hu => ?_⟩
      have := (hS i hi).1 j u hu
      rw [Lib.add_plain] at this
      rw [Nat.add_assoc]
      exact this
    · simp only [List.mem_map, List.mem_range]
      exact ⟨i, hi, rfl⟩
end Go.Proofs.YtoccedbnnafjcaaDoor
