import Derived.Test.YtcggkbgbfgkaiaaDoorRnShelf
import Derived.Test.YtcggkbgbfgkaiaaDoorRnNext
import Derived.Test.YtcggkbgbfgkaiaaDoorRows
import Derived.ProofKit
import Derived.WalkKit
import Derived.PinnedBridge
import Derived.Lib.LaidU8T
import Derived.Lay
import Derived.LaidOnce
import Derived.OpenShut
import Derived.ShutString
import Derived.ChangeOld
import Derived.Below
import Derived.SizedLaws
import Derived.Test.YtcggkbgbfgkaiaaDoorFdPieces
import Derived.Deep.DeepHandedRow
/-
  What the row of a law of layer 4 gives: utf8's tables, and the bytes of an argument.
-/
namespace Go.Proofs.YtcggkbgbfgkaiaaDoor
open Go.RowKit Go.Shelf Go.Lib
open Go.ChangeShapes Go.WideShapes Go.ChangeAt

/-- the numbers of utf8's tables and of their types in this program -/
def u8ren : Go.Shelf.Ren := ⟨fun n => n, fun | 119 => 71 | 138 => 73 | 139 => 74 | n => n, fun | 3 => 0 | 4 => 1 | n => n⟩
theorem u8types : U8Types Tryd.prog u8ren := ⟨by kernel_rfl, by kernel_rfl, by kernel_rfl, by kernel_rfl⟩
theorem u8extra : U8Extra Tryd.prog u8ren := ⟨by kernel_rfl, by kernel_rfl, by kernel_rfl, by kernel_rfl, by kernel_rfl, by kernel_rfl, by kernel_rfl⟩
theorem accept_eq : Rows.laid_unicode_utf8_acceptRanges (H := Unit) = acceptData := by kernel_rfl
theorem first_eq : Rows.laid_unicode_utf8_first = firstData := Pinned.utf8First_eq
theorem own : ownKnob Tryd.prog.godebug = none := by kernel_rfl
/-- what each row of the seat lists -/
def theLaid : List (String × DataW Unit) := [("unicode/utf8.acceptRanges", Rows.laid_unicode_utf8_acceptRanges), ("unicode/utf8.first", Rows.laid_unicode_utf8_first)]
theorem tabs_of_laid {W : World} (hL : laidMetH Tryd.prog theLaid W) : Lib.Utf8Tabs 0 1 W := by
  rw [MakeChecks.laidMetH_plain _ _ _ (by kernel_rfl)] at hL
  have h1 : VarReads Tryd.prog W "unicode/utf8.first" firstData := first_eq ▸ Lib.laidMet.reads hL (.tail _ (.head _))
  have h2 : VarReads Tryd.prog W "unicode/utf8.acceptRanges" acceptData := accept_eq ▸ Lib.laidMet.reads hL (.head _)
  exact utf8Tabs_of_readsT u8types u8extra h1 h2
set_option maxRecDepth 100000 in
theorem laid_shaped (os : Os) (args : Array Value) : ((World.laidAll Tryd.prog os theLaid).forCall (fun _ _ => 0) ⟨#[], args, []⟩).Shaped Tryd.prog := World.shaped_of_ZipB (by kernel_rfl) (by kernel_rfl)
set_option maxRecDepth 100000 in
theorem laid_holds (os : Os) (args : Array Value) : laidMetH Tryd.prog theLaid ((World.laidAll Tryd.prog os theLaid).forCall (fun _ _ => 0) ⟨#[], args, []⟩).memory := by
  rw [MakeChecks.laidMetH_plain _ _ _ (by kernel_rfl)]
  exact laidMet_laidAll _ (by kernel_rfl) (by kernel_rfl)
theorem laidOut : laidOutB Tryd.prog = true := by kernel_rfl
/-- the bytes by their place -/
def bz (zs : List Int) : Nat → Nat := fun j => (zs[j]?.getD 0).toNat
theorem argE_of {H : Type} {enc : TypeId × Value → H} {W : World} {a : Option Addr} {len cap : Nat} {d : DataW H} {p : List MemPlace} (h : DataW.Trod enc Tryd.prog W 0 (fun _ => true) true 22 (Value.slice a len cap) d p) :
    ∃ f, (∀ j, f j < 256) ∧ len ≤ cap ∧ cap ≤ 9223372036854775807 ∧ (0 < len → ∃ b o, a = some ⟨b, o, none⟩ ∧ Bytes W b o len f ∧ b < W.heap.size) ∧ (len = 0 ∨ ∃ el sp, d = .slice el sp ∧ el.length = len) := by
  obtain ⟨fuel, hf⟩ := h
  rcases open_ints Tryd.underlying22 Tryd.underlying5 (by kernel_rfl) hf with ⟨hcs, _⟩ | ⟨x, l, c, zs, hcs, _, hl, hm, hz, hd, hcell, hwz⟩
  · simp [Value.cells] at hcs
    obtain ⟨rfl, rfl, rfl⟩ := hcs
    exact ⟨fun _ => 0, fun _ => by show 0 < 256; omega, Nat.le_refl _, by omega, fun h => absurd h (by omega), .inl rfl⟩
  · simp [Value.cells] at hcs
    obtain ⟨rfl, rfl, rfl⟩ := hcs
    have hz' : zs.length = cap := by simpa using hz
    have hr := fun j => range_u8 hwz j
    have hcells : ∀ j, j < len → W.cell? (x.add j) = some (.int .u8 (bz zs j : Nat)) := by
      intro j hj
      rw [hcell j (by omega)]
      have e : ((bz zs j : Nat) : Int) = zs.getD j 0 := by
        have := hr j
        unfold bz
        rw [List.getD_eq_getElem?_getD]
        omega
      rw [e]
    refine ⟨bz zs, fun j => by have := hr j; unfold bz; omega, hl, by unfold maxLen at hm; omega, fun h0 => ?_, .inr ⟨_, _, congrArg Prod.fst hd, ?_⟩⟩
    · obtain ⟨b, o, e, _⟩ := ints_at hcell (by omega)
      subst e
      have hby : Bytes W b o len (bz zs) := fun j hj => by
        have := hcells j hj
        rw [show Addr.add ⟨b, o, none⟩ j = ⟨b, o + j, none⟩ by simp [Addr.add]] at this
        exact this
      exact ⟨b, o, rfl, hby, by have := block_lt_of_cell (hby 0 h0); exact this⟩
    · simp [lits]
      omega
/-- .. and how many there are at most -/
theorem len_reach {H : Type} {ts : List TypeId} {ds : List (DataW H)} (hsz : (DataW.weightsEach Tryd.prog ts ds).all (· ≤ reachBytes) = true) {j len : Nat} {d : DataW H} (ht : ts[j]? = some 22) (hd : ds[j]? = some d)
    (h : len = 0 ∨ ∃ el sp, d = .slice el sp ∧ el.length = len) : len ≤ 140737488351232 := by
  rcases h with h | ⟨el, sp, rfl, h⟩
  · omega
  · have := sized_slice hsz ht hd Tryd.underlying22
    rw [show Tryd.prog.bytesOf 5 = 1 from by kernel_rfl] at this
    unfold reachBytes at this
    omega
end Go.Proofs.YtcggkbgbfgkaiaaDoor
/-
  What the row of a law of layer 4 gives: the numbers of an argument.
-/
namespace Go.Proofs.YtcggkbgbfgkaiaaDoor
open Go.RowKit Go.Shelf Go.Lib
open Go.ChangeShapes Go.WideShapes Go.ChangeAt

theorem argI_of {H : Type} {enc : TypeId × Value → H} {W : World} {a : Option Addr} {len cap : Nat} {d : DataW H} {p : List MemPlace} (h : DataW.Trod enc Tryd.prog W 0 (fun _ => true) true 25 (Value.slice a len cap) d p) :
    ∃ g, Cuts W a len g ∧ (len = 0 ∨ ∃ el sp, d = .slice el sp ∧ el.length = len) := by
  obtain ⟨fuel, hf⟩ := h
  rcases open_ints Tryd.underlying25 Tryd.underlying3 (by kernel_rfl) hf with ⟨hcs, _⟩ | ⟨x, l, c, zs, hcs, _, hl, hm, hz, hd, hcell, hwz⟩
  · simp [Value.cells] at hcs
    obtain ⟨rfl, rfl, rfl⟩ := hcs
    exact ⟨fun _ => 0, fun h => absurd h (by omega), .inl rfl⟩
  · simp [Value.cells] at hcs
    obtain ⟨rfl, rfl, rfl⟩ := hcs
    have hz' : zs.length = cap := by simpa using hz
    refine ⟨fun j => zs.getD j 0, fun h0 => ?_, .inr ⟨_, _, congrArg Prod.fst hd, ?_⟩⟩
    · obtain ⟨b, o, e, _⟩ := ints_at hcell (by omega)
      subst e
      have hb : ∀ j, j < len → W.cell? ⟨b, o + j, none⟩ = some (.int .i64 (zs.getD j 0)) := fun j hj => by
        have := hcell j (by omega)
        rw [show Addr.add ⟨b, o, none⟩ j = ⟨b, o + j, none⟩ by simp [Addr.add]] at this
        exact this
      exact ⟨b, o, rfl, block_lt_of_cell (hb 0 h0), hb⟩
    · simp [lits]
      omega
end Go.Proofs.YtcggkbgbfgkaiaaDoor
/-
  What the second form's bound gives, and its witness.
-/
namespace Go.Proofs.YtcggkbgbfgkaiaaDoor
open Go.RowKit Go.Shelf Go.Lib
open Go.ChangeShapes Go.WideShapes Go.ChangeAt

theorem bulk_one {H : Type} (d : DataW H) : 1 ≤ Rows.uptoBulk d := by
  cases d with
  | lit l => cases l <;> simp [Rows.uptoBulk]
  | nil => simp [Rows.uptoBulk]
  | ptr d => simp [Rows.uptoBulk]
  | slice elems spare => simp [Rows.uptoBulk]
  | agg parts => simp [Rows.uptoBulk]
  | iface t d => simp [Rows.uptoBulk]
  | map entries => simp [Rows.uptoBulk]
  | held h => simp [Rows.uptoBulk]
theorem bulk_length {H : Type} (l : List (DataW H)) : l.length ≤ Rows.uptoBulkAll l := by
  induction l with
  | nil => simp [Rows.uptoBulkAll]
  | cons x r ih => have := bulk_one x; simp only [Rows.uptoBulkAll, List.length_cons]; omega
theorem bulk_part {H : Type} {d : DataW H} {l : List (DataW H)} (h : d ∈ l) : Rows.uptoBulk d ≤ Rows.uptoBulkAll l := by
  induction l with
  | nil => cases h
  | cons x r ih =>
    simp only [Rows.uptoBulkAll]
    cases List.mem_cons.1 h with
    | inl e => subst e; omega
    | inr e => have := ih e; omega
theorem bulk_bound {H : Type} {l : List (DataW H)} (hk : Rows.uptoSmall H l = true) {d : DataW H} (h : d ∈ l) : Rows.uptoBulk d ≤ 1048576 :=
  Nat.le_trans (bulk_part h) (of_decide_eq_true hk)

theorem bulk_slice {H : Type} {l : List (DataW H)} (hk : Rows.uptoSmall H l = true) {d : DataW H} (h : d ∈ l) {len : Nat} (hd : len = 0 ∨ ∃ el sp, d = .slice el sp ∧ el.length = len) : len ≤ 1048576 := by
  rcases hd with h0 | ⟨el, sp, rfl, rfl⟩
  · omega
  · have h1 := bulk_bound hk h
    have h2 := bulk_length el
    simp only [Rows.uptoBulk] at h1
    omega

/-- 'there is an input that fits', at the world in which the tables lie -/
theorem upto_witness {H : Type} {enc : TypeId × Value → H} {os : Os} {f : FuncId} {fn : Func} {s : OpenSpec} {conds : List PathCond} (args : Array Value) (laid : List (String × DataW Unit)) (hl : laid = theLaid)
    (hok : Input.okWideB Tryd.checked.prog ((World.laidAll Tryd.prog os theLaid).forCall (fun _ _ => 0) ⟨#[], args, []⟩) f ⟨#[], args, []⟩ = true)
    (fuel : Nat) {x : List (DataW H) × List (DataW H) × List MemPlace} (hx : DataW.whole enc Tryd.checked.prog ((World.laidAll Tryd.prog os theLaid).forCall (fun _ _ => 0) ⟨#[], args, []⟩).memory fn.params.toList s.vars false args.toList fuel = some x)
    (hconds : conds.all (PathCond.test Tryd.checked.prog ⟨fn.params.toList, x.1, s.bare.plain.varTypes Tryd.checked.prog, x.2.1⟩) = true) (hkk : ∀ k, s.cond = some k → k H (x.1 ++ x.2.1) = true)
    (hsz : s.bare.sizedB enc Tryd.checked.prog fn false ((World.laidAll Tryd.prog os theLaid).forCall (fun _ _ => 0) ⟨#[], args, []⟩).memory args fuel = true) :
    ∃ (w : World) (tape : Tape) (i : Input), w.os = os ∧ (w.forCall tape i).Shaped Tryd.checked.prog ∧ i.vars = [] ∧ Input.okWide Tryd.checked.prog (w.forCall tape i) .any w.heap.size f i ∧
      s.preRow enc Tryd.checked.prog fn conds false laid (w.forCall tape i).memory i.args ∧ ({} : Assume).holds Tryd.checked.prog (lone (Frame.enter Tryd.checked.prog f i.args .normal) [] (w.forCall tape i)) := by
  subst hl
  refine ⟨World.laidAll Tryd.prog os theLaid, fun _ _ => 0, ⟨#[], args, []⟩, World.laidAll_os _ _ _, laid_shaped os args, (Input.okWide_of_okWideB (base := 0) hok).1, (Input.okWide_of_okWideB hok).2, OpenSpec.preRow_of_cond fuel hx hconds hkk hsz (laid_holds os args), ?_⟩
  simp only [Assume.holds]
  exact ⟨by simp, by simp, fun _ => Modest.zero, by simp, by simp⟩
end Go.Proofs.YtcggkbgbfgkaiaaDoor
