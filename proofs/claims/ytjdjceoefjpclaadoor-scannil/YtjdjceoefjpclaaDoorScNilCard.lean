import Derived.Test.YtjdjceoefjpclaaDoorChTab
import Derived.Test.YtjdjceoefjpclaaDoorRows
import Derived.ProofKit
import Derived.WalkKit
import Derived.PinnedBridge
import Derived.Lib.LaidU8T
import Derived.Lay
import Derived.LaidOnce
import Derived.Test.YtjdjceoefjpclaaDoorScLawNil
import Derived.OpenShut
import Derived.ShutString
import Derived.ChangeOld
import Derived.Below
import Derived.SizedLaws
import Derived.Test.YtjdjceoefjpclaaDoorCards
import Derived.Test.YtjdjceoefjpclaaDoorTie
import Derived.SevenTiedAt
import Derived.ChangeMaps5
/-
  WHAT A ROW's LIST OF VARIABLES GIVES: utf8's two tables and the program's table of ranges lie in memory.
-/
namespace Go.Proofs.YtjdjceoefjpclaaDoor
open Go.RowKit Go.Shelf Go.Lib

/-- the numbers of utf8's tables and of their types in this program -/
def u8ren : Go.Shelf.Ren := ⟨fun n => n, fun | 119 => 136 | 138 => 138 | 139 => 139 | n => n, fun | 3 => 2 | 4 => 3 | n => n⟩
theorem u8types : U8Types Tryd.prog u8ren := ⟨by kernel_rfl, by kernel_rfl, by kernel_rfl, by kernel_rfl⟩
theorem u8extra : U8Extra Tryd.prog u8ren := ⟨by kernel_rfl, by kernel_rfl, by kernel_rfl, by kernel_rfl, by kernel_rfl, by kernel_rfl, by kernel_rfl⟩
theorem accept_eq : Rows.laid_unicode_utf8_acceptRanges (H := Unit) = acceptData := by kernel_rfl
theorem first_eq : Rows.laid_unicode_utf8_first = firstData := Pinned.utf8First_eq
theorem own : ownKnob Tryd.prog.godebug = none := by kernel_rfl

/-- a range as a row lists it -/
def spanData (s : Ch.Sp) : DataW Unit := .agg [.lit (.int .i64 (s.1 : Nat)), .lit (.int .i32 (s.2.1 : Nat)), .lit (.int .i32 (s.2.2 : Nat))]
theorem spans_eq : Rows.laid_gimlet_chars_spans (H := Unit) = .slice (Ch.tab.map spanData) [] := by kernel_rfl

theorem at_take {cs : List Value} {k : Nat} {v : Value} (h : (cs.drop k).take 1 = [v]) : cs[k]? = some v := by
  have := congrArg (·[0]?) h
  simpa [List.getElem?_take, List.getElem?_drop] using this
set_option maxRecDepth 100000 in
/-- a span that reads as a range holds it, cell for cell -/
theorem span_cells {w : World} {fuel : Nat} {cs : List Value} {s : Ch.Sp} {p : List MemPlace} (h : DataW.trod (fun _ => ()) Tryd.prog w 0 (fun _ => true) false fuel 108 cs = some (spanData s, p)) :
    cs = [.int .i64 (s.1 : Nat), .int .i32 (s.2.1 : Nat), .int .i32 (s.2.2 : Nat)] := by
  obtain ⟨xs, n, rfl, hx, hl, hxl, hall⟩ := DataW.trod_struct Tryd.underlying108 h
  rw [show Tryd.prog.cellsOf 108 = 3 from by kernel_rfl] at hl
  have hx3 : xs.map (·.1) = [.lit (.int .i64 (s.1 : Nat)), .lit (.int .i32 (s.2.1 : Nat)), .lit (.int .i32 (s.2.2 : Nat))] := by
    have := congrArg Prod.fst hx
    simpa [spanData] using this.symm
  obtain ⟨x0, x1, x2, rfl⟩ : ∃ x0 x1 x2, xs = [x0, x1, x2] := by
    match xs, hx3 with
    | [x0, x1, x2], _ => exact ⟨x0, x1, x2, rfl⟩
  simp only [List.map_cons, List.map_nil, List.cons.injEq, and_true] at hx3
  obtain ⟨e0, e1, e2⟩ := hx3
  have f0 := hall 0 _ rfl
  have f1 := hall 1 _ rfl
  have f2 := hall 2 _ rfl
  change DataW.trod _ _ _ _ _ _ _ 83 ((cs.drop 0).take (Tryd.prog.cellsOf 83)) = some x0 at f0
  change DataW.trod _ _ _ _ _ _ _ 21 ((cs.drop 1).take (Tryd.prog.cellsOf 21)) = some x1 at f1
  change DataW.trod _ _ _ _ _ _ _ 21 ((cs.drop 2).take (Tryd.prog.cellsOf 21)) = some x2 at f2
  rw [show Tryd.prog.cellsOf 83 = 1 from by kernel_rfl] at f0
  rw [show Tryd.prog.cellsOf 21 = 1 from by kernel_rfl] at f1 f2
  have g0 : cs[0]? = some (.int .i64 (s.1 : Nat)) := by
    obtain ⟨z, hz, hx', _⟩ := DataW.trod_int Tryd.underlying83 f0
    rw [hx'] at e0
    cases e0
    exact at_take hz
  have g1 : cs[1]? = some (.int .i32 (s.2.1 : Nat)) := by
    obtain ⟨z, hz, hx', _⟩ := DataW.trod_int Tryd.underlying21 f1
    rw [hx'] at e1
    cases e1
    exact at_take hz
  have g2 : cs[2]? = some (.int .i32 (s.2.2 : Nat)) := by
    obtain ⟨z, hz, hx', _⟩ := DataW.trod_int Tryd.underlying21 f2
    rw [hx'] at e2
    cases e2
    exact at_take hz
  match cs, hl, g0, g1, g2 with
  | [c0, c1, c2], _, g0, g1, g2 =>
    simp at g0 g1 g2
    subst g0 g1 g2
    rfl

set_option maxRecDepth 100000 in
theorem spans_of_reads {w : World} (h : VarReads Tryd.prog w "gimlet/chars.spans" (.slice (Ch.tab.map spanData) [])) : Spans w := by
  obtain ⟨g, t, cs, fuel, p, hg, hty, hvar, hd⟩ := h
  obtain rfl := Option.some.inj ((show Tryd.prog.globalNamed "gimlet/chars.spans" = some 0 by kernel_rfl).symm.trans hg)
  obtain rfl := Option.some.inj ((show (Tryd.prog.globals[0]?).map (·.type) = some 106 by kernel_rfl).symm.trans hty)
  rcases DataW.trod_slice Tryd.underlying106 hd with ⟨_, hx'⟩ | ⟨a', len, cap, el, rs, m, rfl, hc0, hx', _, hlc, _, hel, helem, hsp, _⟩
  · cases hx'
  have e0 := congrArg Prod.fst hx'
  simp only [DataW.slice.injEq] at e0
  obtain ⟨eE, eR⟩ := e0
  have hlen : len = 45 := by
    have := congrArg List.length eE
    rw [List.length_map, List.length_map, Ch.tab_length] at this
    omega
  have hrow : ∀ i s, Ch.tab[i]? = some s → ∀ j, j < 3 → w.cell? ((a'.add (i * 3)).add j) = ([.int .i64 (s.1 : Nat), .int .i32 (s.2.1 : Nat), .int .i32 (s.2.2 : Nat)] : List Value)[j]? := by
    intro i s hs j hj
    have hi : i < len := by
      have := (List.getElem?_eq_some_iff.1 hs).1
      rw [Ch.tab_length] at this
      omega
    have h1 := helem i hi
    rw [show Tryd.prog.cellsOf 108 = 3 from by kernel_rfl] at h1
    obtain ⟨b, hb⟩ : ∃ b, el[i]? = some b := ⟨el[i]'(by omega), List.getElem?_eq_getElem (by omega)⟩
    rw [hb] at h1
    obtain ⟨ce, hce, hte⟩ := Option.bind_eq_some_iff.1 h1
    have hb1 : b.1 = spanData s := by
      have := congrArg (·[i]?) eE
      simp only [List.getElem?_map, hb, hs, Option.map_some, Option.some.injEq] at this
      exact this.symm
    have hcs := span_cells (p := b.2) (s := s) (by rw [← hb1]; exact hte)
    obtain ⟨_, _, hcc⟩ := World.cells?_some hce
    rw [hcc j hj, hcs]
  obtain ⟨R, oR, sR⟩ := a'
  obtain rfl : sR = none := by
    have h00 := hrow 0 (0, 9, 10) rfl 0 (by omega)
    have : (Addr.add (Addr.add ⟨R, oR, sR⟩ (0 * 3)) 0) = ⟨R, oR, sR⟩ := by simp [Addr.add]
    rw [this] at h00
    exact cell_spot h00
  refine ⟨R, oR, cap, ?_, fun i s hs => ?_⟩
  · rw [World.var?_cell hg hvar 0, ← Array.getElem?_toList, hc0, hlen]
    rfl
  · have k0 := hrow i s hs 0 (by omega)
    have k1 := hrow i s hs 1 (by omega)
    have k2 := hrow i s hs 2 (by omega)
    rw [Addr.add_lit, Addr.add_lit] at k0 k1 k2
    exact ⟨by simpa using k0, by simpa using k1, by simpa using k2⟩

/-- what each row of the seat lists -/
def theLaid : List (String × DataW Unit) := [("unicode/utf8.acceptRanges", Rows.laid_unicode_utf8_acceptRanges), ("gimlet/chars.spans", Rows.laid_gimlet_chars_spans), ("unicode/utf8.first", Rows.laid_unicode_utf8_first)]
theorem tabs_of_laid {W : World} (hL : laidMetH Tryd.prog theLaid W) : Lib.Utf8Tabs 2 3 W ∧ Spans W := by
  rw [MakeChecks.laidMetH_plain _ _ _ (by kernel_rfl)] at hL
  have h1 : VarReads Tryd.prog W "unicode/utf8.first" firstData := first_eq ▸ Lib.laidMet.reads hL (.tail _ (.tail _ (.head _)))
  have h2 : VarReads Tryd.prog W "unicode/utf8.acceptRanges" acceptData := accept_eq ▸ Lib.laidMet.reads hL (.head _)
  have h3 : VarReads Tryd.prog W "gimlet/chars.spans" (.slice (Ch.tab.map spanData) []) := spans_eq ▸ Lib.laidMet.reads hL (.tail _ (.head _))
  exact ⟨utf8Tabs_of_readsT u8types u8extra h1 h2, spans_of_reads h3⟩
set_option maxRecDepth 100000 in
theorem laid_shaped (os : Os) (args : Array Value) : ((World.laidAll Tryd.prog os theLaid).forCall (fun _ _ => 0) ⟨#[], args, []⟩).Shaped Tryd.prog := World.shaped_of_ZipB (by kernel_rfl) (by kernel_rfl)
set_option maxRecDepth 100000 in
theorem laid_holds (os : Os) (args : Array Value) : laidMetH Tryd.prog theLaid ((World.laidAll Tryd.prog os theLaid).forCall (fun _ _ => 0) ⟨#[], args, []⟩).memory := by
  rw [MakeChecks.laidMetH_plain _ _ _ (by kernel_rfl)]
  exact laidMet_laidAll _ (by kernel_rfl) (by kernel_rfl)
end Go.Proofs.YtjdjceoefjpclaaDoor
/-
  What a row tells of a slice of bytes that came in.
-/
namespace Go.Proofs.YtjdjceoefjpclaaDoor
open Go.ChangeShapes Go.WideShapes Go.ChangeAt Go.RowKit

theorem laidOut : laidOutB Tryd.prog = true := by kernel_rfl
/-- the bytes by their place -/
def bz (zs : List Int) : Nat → Nat := fun j => (zs[j]?.getD 0).toNat
theorem argS_of {H : Type} {enc : TypeId × Value → H} {W : World} {a : Option Addr} {len cap : Nat} {d : DataW H} {p : List MemPlace} (h : DataW.Trod enc Tryd.prog W 0 (fun _ => true) true 22 (Value.slice a len cap) d p) :
    ∃ f, ArgS W f len (.slice a len cap) ∧ (∀ j, f j < 256) ∧ (len = 0 ∨ ∃ el sp, d = .slice el sp ∧ el.length = len) := by
  obtain ⟨fuel, hf⟩ := h
  rcases open_ints Tryd.underlying22 Tryd.underlying5 (by kernel_rfl) hf with ⟨hcs, _⟩ | ⟨x, l, c, zs, hcs, _, hl, hm, hz, hd, hcell, hwz⟩
  · simp [Value.cells] at hcs
    obtain ⟨rfl, rfl, rfl⟩ := hcs
    exact ⟨fun _ => 0, .nil rfl, fun _ => by show 0 < 256; omega, .inl rfl⟩
  · simp [Value.cells] at hcs
    obtain ⟨rfl, rfl, rfl⟩ := hcs
    have hz' : zs.length = cap := by simpa using hz
    have hr := fun j => range_u8 hwz j
    have hcells : ∀ j, j < len → W.cell? (x.add j) = some (.int .u8 (bz zs j : Nat)) := by
      intro j hj
      rw [hcell j (by omega)]
      have e : ((bz zs j : Nat) : Int) = zs.getD j 0 := by
        have := hr j
        unfold bz
        rw [List.getD_eq_getElem?_getD]
        omega
      rw [e]
    refine ⟨bz zs, .some x cap hl hm hcells (fun h0 => ?_), fun j => by have := hr j; unfold bz; omega, .inr ⟨_, _, congrArg Prod.fst hd, ?_⟩⟩
    · obtain ⟨b, o, e, _⟩ := ints_at hcell (by omega)
      exact ⟨b, o, e⟩
    · simp [lits]
      omega
/-- .. and how many there are at most -/
theorem len_reach {H : Type} {ts : List TypeId} {ds : List (DataW H)} (hsz : (DataW.weightsEach Tryd.prog ts ds).all (· ≤ reachBytes) = true) {j len : Nat} {d : DataW H} (ht : ts[j]? = some 22) (hd : ds[j]? = some d)
    (h : len = 0 ∨ ∃ el sp, d = .slice el sp ∧ el.length = len) : len ≤ 140737488351232 := by
  rcases h with h | ⟨el, sp, rfl, h⟩
  · omega
  · have := sized_slice hsz ht hd Tryd.underlying22
    rw [show Tryd.prog.bytesOf 5 = 1 from by kernel_rfl] at this
    unfold reachBytes at this
    omega
end Go.Proofs.YtjdjceoefjpclaaDoor
/-
  PROVED: 'gimletlaw06.ScanNil' returns true at every place, name and bytes, and its arguments stay (the card ScanNilCardSaid). The conditions: utf8's two tables and the program's table of ranges start as the program's text lays them (the card ties them).
-/
namespace Go.Proofs.YtjdjceoefjpclaaDoor
open Go.RowKit Go.Shelf Go.Lib
open Go.ChangeShapes Go.WideShapes Go.ChangeAt

set_option maxRecDepth 100000 in
theorem scnil_lifted (os : Os) (started : os.Started) (H : Type) (enc : TypeId × Value → H) :
    ReturnsInHanded {} Tryd.checked os 7 .any (fun w args => (Rows.scanNilSpec.pre enc Tryd.prog Tryd.f7 [] false w args ∧ laidMetH Tryd.prog Rows.scanNilRow.laid w) ∧ sizedMet enc Tryd.prog Tryd.f7 (OpenSpec.ofChange Rows.scanNilSpec) false w args)
      (Rows.scanNilSpec.post enc Tryd.prog Tryd.f7 false true false false) := by
  refine returnsInHanded_of_change_and (C := Tryd.checked) (X := fun w _ => laidMetH Tryd.prog Rows.scanNilRow.laid w) (fun _ _ _ hh h => h.of_heap hh) own started (by kernel_rfl) Tryd.func7
    (ChangeSpec.witness_shaped (enc := enc) (C := Tryd.checked) (os := os) (X := fun w _ => laidMetH Tryd.prog Rows.scanNilRow.laid w) false (World.laidAll Tryd.prog os theLaid) #[.int .i64 0, .string ⟨#[]⟩, .slice none 0 0] 8 (World.laidAll_os _ _ _)
      (laid_shaped os _) (by kernel_rfl) (by kernel_rfl) (by kernel_rfl) (laid_holds os _)) ?_
  intro W base args ds gs before hval0 hW _ hsz hL _
  have hval : ∀ (j : Nat) t v, Tryd.f7.params[j]? = some t → args[j]? = some v → Value.okWide Tryd.prog W .any base t v := hval0
  have hW' := hW
  obtain ⟨p, q, hA0, hV, rfl, _, _⟩ := hW
  have hA : DataW.TrodAll enc Tryd.prog W 0 (fun _ => true) true Tryd.f7.params.toList args.toList ds p := hA0
  rw [Tryd.params7] at hA hval
  obtain ⟨v0, vs0, d0, ds0, p0, q0, hargs, rfl, rfl, h0, r0⟩ := trodAll_cons hA
  obtain ⟨vm, vsm, dm, dsm, pm, qm, rfl, rfl, rfl, hm, rm⟩ := trodAll_cons r0
  obtain ⟨v1, vs1, d1, ds1, p1, q1, rfl, rfl, rfl, h1, r1⟩ := trodAll_cons rm
  obtain ⟨rfl, rfl, rfl⟩ := trodAll_nil r1
  obtain rfl : args = #[v0, vm, v1] := by cases args; simp_all
  obtain ⟨rfl, rfl⟩ := trodVars_none hV
  obtain ⟨x, rfl, rfl, rfl, wx⟩ := open_int Tryd.underlying3 (hval 0 3 v0 rfl rfl) h0
  obtain ⟨sm, rfl, rfl, rfl, wsm⟩ := ChangeMaps.open_string Tryd.underlying9 (hval 1 9 vm rfl rfl) hm
  obtain ⟨a1, len1, cap1, rfl⟩ := okWide_slice Tryd.underlying22 (hval 2 22 v1 rfl rfl)
  have k1 := h1
  have lt1 : ∀ x ∈ p1, x.block < W.heap.size := by obtain ⟨m, hm⟩ := k1; exact DataW.trod_lt m _ _ _ hm
  obtain ⟨f, hA1, hf, hd⟩ := argS_of h1
  have hlen : len1 ≤ 140737488351232 := len_reach hsz (j := 2) rfl rfl hd
  clear hA0 hval0
  obtain ⟨hT, hS⟩ := tabs_of_laid hL
  refine (Sc.lawNil_any x _ _ f len1 W hS hT hA1 (by omega)).mono fun e W' ⟨he, hb⟩ => ?_
  subst he
  exact ⟨_, rfl, _, _, _, [], _, [], hW', trodAll_mk1 (shut_bool Tryd.underlying4 _), (trodAll_cons_mk (shut_int Tryd.underlying3 wx) (trodAll_cons_mk (ChangeMaps.shut_string Tryd.underlying9 wsm) (trodAll_cons_mk (Below.trod laidOut (by kernel_rfl) (of_decide_eq_true (by kernel_rfl)) k1 hb lt1) trodAll_mk0))), rfl, hb.frame _, fun h => by cases h⟩

theorem scnil_said : Rows.ScanNilSaid :=
  OpenClaim.holds_of_wide 7 Tryd.f7 rfl rfl rfl rfl rfl rfl rfl ⟨rfl, rfl, rfl, rfl, rfl⟩ rfl rfl rfl rfl rfl (by kernel_rfl) Tryd.func7 (by kernel_rfl)
    (of_decide_eq_true (by kernel_rfl)) (by unfold Func.isWrapper; rw [if_neg (by decide +kernel)]; exact ⟨rfl, rfl⟩)
    (fun os started H enc _ => scnil_lifted os started H enc)

theorem scnil_plain (f : FuncId) (fn : Func) (hf : Tryd.pinned.checked.prog.funcNamed "gimlet/gimletlaw06.ScanNil" = some f) (hfn : Tryd.pinned.checked.prog.funcs[f]? = some fn) :
    false = Tryd.pinned.checked.prog.looks [] ∧ ∀ (j : Nat) t, fn.params[j]? = some t → Tryd.pinned.checked.prog.wantsStandIn t = false := by
  obtain rfl : f = 7 := Option.some.inj ((show Tryd.prog.funcNamed "gimlet/gimletlaw06.ScanNil" = some 7 by kernel_rfl).symm.trans hf) |>.symm
  obtain rfl : fn = Tryd.f7 := (Option.some.inj (Tryd.func7.symm.trans hfn)).symm
  refine ⟨by kernel_rfl, fun j t ht => ?_⟩
  rw [Tryd.params7] at ht
  have hm : t ∈ [3, 9, 22] := by simpa using Array.mem_of_getElem? ht
  have hall : ([3, 9, 22].all fun u => !Tryd.prog.wantsStandIn u) = true := by kernel_rfl
  exact (show Tryd.prog.wantsStandIn t = false by simpa using List.all_eq_true.1 hall t hm)

theorem scanNil_card : Rows.ScanNilCardSaid :=
  Claim7.holds_tied_plain_at .later [] _ _ _ _ scnil_said (fun _ h => by cases h) (by kernel_rfl) (fun _ h => by cases h) scanNil_row_tie rfl ⟨rfl, rfl⟩ (by kernel_rfl) rfl scnil_plain (by kernel_rfl)
#print axioms scanNil_card
end Go.Proofs.YtjdjceoefjpclaaDoor
