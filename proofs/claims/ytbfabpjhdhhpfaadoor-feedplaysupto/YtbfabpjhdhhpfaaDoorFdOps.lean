import Derived.Test.YtbfabpjhdhhpfaaDoorFdOpen
import Derived.Deep.DeepHandedRow
import Derived.Test.YtbfabpjhdhhpfaaDoorFdOneK
import Derived.Test.YtbfabpjhdhhpfaaDoorCards
import Derived.Deep.Slices
/-
  What the second form's bound gives, and its witness.
-/
namespace Go.Proofs.YtbfabpjhdhhpfaaDoor
open Go.RowKit Go.Shelf Go.Lib
open Go.ChangeShapes Go.WideShapes Go.ChangeAt

theorem bulk_one {H : Type} (d : DataW H) : 1 ≤ Rows.uptoBulk d := by
  cases d with
  | lit l => cases l <;> simp [Rows.uptoBulk]
  | nil => simp [Rows.uptoBulk]
  | ptr d => simp [Rows.uptoBulk]
  | slice elems spare => simp [Rows.uptoBulk]
  | agg parts => simp [Rows.uptoBulk]
  | iface t d => simp [Rows.uptoBulk]
  | map entries => simp [Rows.uptoBulk]
  | held h => simp [Rows.uptoBulk]
theorem bulk_length {H : Type} (l : List (DataW H)) : l.length ≤ Rows.uptoBulkAll l := by
  induction l with
  | nil => simp [Rows.uptoBulkAll]
  | cons x r ih => have := bulk_one x; simp only [Rows.uptoBulkAll, List.length_cons]; omega
theorem bulk_part {H : Type} {d : DataW H} {l : List (DataW H)} (h : d ∈ l) : Rows.uptoBulk d ≤ Rows.uptoBulkAll l := by
  induction l with
  | nil => cases h
  | cons x r ih =>
    simp only [Rows.uptoBulkAll]
    cases List.mem_cons.1 h with
    | inl e => subst e; omega
    | inr e => have := ih e; omega
theorem bulk_bound {H : Type} {l : List (DataW H)} (hk : Rows.uptoSmall H l = true) {d : DataW H} (h : d ∈ l) : Rows.uptoBulk d ≤ 1048576 :=
  Nat.le_trans (bulk_part h) (of_decide_eq_true hk)

theorem bulk_slice {H : Type} {l : List (DataW H)} (hk : Rows.uptoSmall H l = true) {d : DataW H} (h : d ∈ l) {len : Nat} (hd : len = 0 ∨ ∃ el sp, d = .slice el sp ∧ el.length = len) : len ≤ 1048576 := by
  rcases hd with h0 | ⟨el, sp, rfl, rfl⟩
  · omega
  · have h1 := bulk_bound hk h
    have h2 := bulk_length el
    simp only [Rows.uptoBulk] at h1
    omega

/-- 'there is an input that fits', at the world in which the tables lie -/
theorem upto_witness {H : Type} {enc : TypeId × Value → H} {os : Os} {f : FuncId} {fn : Func} {s : OpenSpec} {conds : List PathCond} (args : Array Value) (laid : List (String × DataW Unit)) (hl : laid = theLaid)
    (hok : Input.okWideB Tryd.checked.prog ((World.laidAll Tryd.prog os theLaid).forCall (fun _ _ => 0) ⟨#[], args, []⟩) f ⟨#[], args, []⟩ = true)
    (fuel : Nat) {x : List (DataW H) × List (DataW H) × List MemPlace} (hx : DataW.whole enc Tryd.checked.prog ((World.laidAll Tryd.prog os theLaid).forCall (fun _ _ => 0) ⟨#[], args, []⟩).memory fn.params.toList s.vars false args.toList fuel = some x)
    (hconds : conds.all (PathCond.test Tryd.checked.prog ⟨fn.params.toList, x.1, s.bare.plain.varTypes Tryd.checked.prog, x.2.1⟩) = true) (hkk : ∀ k, s.cond = some k → k H (x.1 ++ x.2.1) = true)
    (hsz : s.bare.sizedB enc Tryd.checked.prog fn false ((World.laidAll Tryd.prog os theLaid).forCall (fun _ _ => 0) ⟨#[], args, []⟩).memory args fuel = true) :
    ∃ (w : World) (tape : Tape) (i : Input), w.os = os ∧ (w.forCall tape i).Shaped Tryd.checked.prog ∧ i.vars = [] ∧ Input.okWide Tryd.checked.prog (w.forCall tape i) .any w.heap.size f i ∧
      s.preRow enc Tryd.checked.prog fn conds false laid (w.forCall tape i).memory i.args ∧ ({} : Assume).holds Tryd.checked.prog (lone (Frame.enter Tryd.checked.prog f i.args .normal) [] (w.forCall tape i)) := by
  subst hl
  refine ⟨World.laidAll Tryd.prog os theLaid, fun _ _ => 0, ⟨#[], args, []⟩, World.laidAll_os _ _ _, laid_shaped os args, (Input.okWide_of_okWideB (base := 0) hok).1, (Input.okWide_of_okWideB hok).2, OpenSpec.preRow_of_cond fuel hx hconds hkk hsz (laid_holds os args), ?_⟩
  simp only [Assume.holds]
  exact ⟨by simp, by simp, fun _ => Modest.zero, by simp, by simp⟩
end Go.Proofs.YtbfabpjhdhhpfaaDoor
/-
  What the row of a law of layer 4 gives: a script of calls.
-/
namespace Go.Proofs.YtbfabpjhdhhpfaaDoor
open Go.RowKit Go.Shelf Go.Lib
open Go.ChangeShapes Go.WideShapes Go.ChangeAt

theorem argC_of {H : Type} {enc : TypeId × Value → H} {W : World} {fuel : Nat} {v : Value} {y : DataW H × List MemPlace} (hf : DataW.trod enc Tryd.prog W 0 (fun _ => true) true fuel 27 [v] = some y) :
    ∃ a len cap, v = .slice a len cap ∧ ∃ f, (∀ j, f j < 256) ∧ (a = none → len = 0 ∧ cap = 0) ∧ len ≤ cap ∧ cap ≤ 9223372036854775807 ∧ (0 < len → ∃ b o, a = some ⟨b, o, none⟩ ∧ Bytes W b o len f ∧ b < W.heap.size) ∧ (len = 0 ∨ ∃ el sp, y.1 = .slice el sp ∧ el.length = len) := by
  rcases open_ints Tryd.underlying27 Tryd.underlying5 (by kernel_rfl) hf with ⟨hcs, _⟩ | ⟨x, len, cap, zs, hcs, _, hl, hm, hz, hd, hcell, hwz⟩
  · obtain rfl : v = .slice none 0 0 := by simpa using hcs
    exact ⟨none, 0, 0, rfl, fun _ => 0, fun _ => by show 0 < 256; omega, fun _ => ⟨rfl, rfl⟩, Nat.le_refl _, by omega, fun h => absurd h (by omega), .inl rfl⟩
  · obtain rfl : v = .slice (some x) len cap := by simpa using hcs
    have hz' : zs.length = cap := by simpa using hz
    have hr := fun j => range_u8 hwz j
    have hcells : ∀ j, j < len → W.cell? (x.add j) = some (.int .u8 (bz zs j : Nat)) := by
      intro j hj
      rw [hcell j (by omega)]
      have e : ((bz zs j : Nat) : Int) = zs.getD j 0 := by
        have := hr j
        unfold bz
        rw [List.getD_eq_getElem?_getD]
        omega
      rw [e]
    refine ⟨some x, len, cap, rfl, bz zs, fun j => by have := hr j; unfold bz; omega, fun e => (by cases e), hl, by unfold maxLen at hm; omega, fun h0 => ?_, .inr ⟨_, _, congrArg Prod.fst hd, ?_⟩⟩
    · obtain ⟨b, o, e, _⟩ := ints_at hcell (by omega)
      subst e
      have hby : Bytes W b o len (bz zs) := fun j hj => by
        have := hcells j hj
        rw [show Addr.add ⟨b, o, none⟩ j = ⟨b, o + j, none⟩ by simp [Addr.add]] at this
        exact this
      exact ⟨b, o, rfl, hby, by have := block_lt_of_cell (hby 0 h0); exact this⟩
    · simp [lits]
      omega
set_option maxRecDepth 100000 in
theorem ops_of {H : Type} {enc : TypeId × Value → H} {W : World} {a : Option Addr} {len cap : Nat} {d : DataW H} {p : List MemPlace} (h : DataW.Trod enc Tryd.prog W 0 (fun _ => true) true 22 (Value.slice a len cap) d p) :
    ∃ S, SOps W a len S ∧ (∀ i, i < len → (S i).Ok W) ∧ len ≤ cap ∧ cap ≤ 9223372036854775807 ∧ (len = 0 ∨ ∃ el sp, d = .slice el sp ∧ el.length = len ∧ ∀ i, i < len → ∃ x, x ∈ el ∧ (S i).lo ≤ Rows.uptoBulk x) := by
  obtain ⟨fuel, hf⟩ := h
  rcases Go.Deep.open_slice Tryd.underlying22 hf with ⟨hcs, _⟩ | ⟨x, l, c, m, n, D, Pl, hcs, _, hl, hm, hmm, hx, hel⟩
  · simp [Value.cells] at hcs
    obtain ⟨rfl, rfl, rfl⟩ := hcs
    exact ⟨fun _ => default, fun h => absurd h (by omega), fun i hi => absurd hi (by omega), Nat.le_refl _, by omega, .inl rfl⟩
  · simp [Value.cells] at hcs
    obtain ⟨rfl, rfl, rfl⟩ := hcs
    obtain rfl : m = cap := by simpa using hmm
    have ce : Tryd.prog.cellsOf 31 = 3 := by kernel_rfl
    have each : ∀ i, i < len → ∃ s : SOp, (W.cell? (x.add (i * 3)) = some (.int .i64 s.kind) ∧ W.cell? (x.add (i * 3 + 1)) = some (.bool s.oth) ∧ W.cell? (x.add (i * 3 + 2)) = some (.slice s.po s.lo s.co)) ∧ s.Ok W ∧ s.lo ≤ Rows.uptoBulk (D i) := by
      intro i hi
      obtain ⟨cs', h1, h2⟩ := hel i (by omega)
      rw [ce] at h1
      obtain ⟨_, hlen, hcell⟩ := World.cells?_some h1
      obtain ⟨ys, k, hk, hxy, _, hxl, hfl⟩ := DataW.trod_struct Tryd.underlying31 h2
      match ys, hxl, cs', hlen with
      | [y0, y1, y2], _, [v0, v1, v2], _ =>
        have g0 := hfl 0 _ rfl
        have g1 := hfl 1 _ rfl
        have g2 := hfl 2 _ rfl
        have c0 : Tryd.prog.cellsOf 3 = 1 := by kernel_rfl
        have c1 : Tryd.prog.cellsOf 4 = 1 := by kernel_rfl
        have c2 : Tryd.prog.cellsOf 27 = 1 := by kernel_rfl
        simp [c0, c1, c2] at g0 g1 g2
        obtain ⟨K, hK, _⟩ := DataW.trod_int Tryd.underlying3 g0
        obtain ⟨O, hO, _⟩ := DataW.trod_bool Tryd.underlying4 g1
        obtain rfl : v0 = .int .i64 K := by simpa using hK
        obtain rfl : v1 = .bool O := by simpa using hO
        obtain ⟨po, lo, co, rfl, f, q1, q2, q3, q4, q5, q6⟩ := argC_of g2
        have e0 := hcell 0 (by omega)
        have e1 := hcell 1 (by omega)
        have e2 := hcell 2 (by omega)
        rw [Go.Deep.add_add] at e0 e1 e2
        simp only [Prod.mk.injEq] at hxy
        refine ⟨⟨K, O, po, lo, co, f⟩, ⟨by simpa using e0, by simpa using e1, by simpa using e2⟩, ⟨q1, q2, q3, q4, q5⟩, ?_⟩
        rw [hxy.1]
        show lo ≤ _
        rcases q6 with q6 | ⟨el, sp, q6, q7⟩
        · omega
        · have := bulk_length el
          simp only [List.map, Rows.uptoBulk, Rows.uptoBulkAll, q6]
          omega
    obtain ⟨S, hS⟩ := Go.Deep.choose_lt each
    refine ⟨S, fun h0 => ?_, fun i hi => (hS i hi).2.1, hl, by unfold maxLen at hm; omega, .inr ⟨_, _, congrArg Prod.fst hx, by simp, fun i hi => ⟨D i, ?_, (hS i hi).2.2⟩⟩⟩
    · obtain ⟨b, off, spot⟩ := x
      have hspot : spot = none := by simpa [Addr.add] using World.cell?_spot (hS 0 h0).1.1
      subst hspot
      have hc : ∀ i, i < len → _ := fun i hi => (hS i hi).1
      simp only [add_plain] at hc
      exact ⟨b, off, rfl, block_lt_of_cell (hc 0 h0).1, hc⟩
    · simp only [List.mem_map, List.mem_range]
      exact ⟨i, hi, rfl⟩
end Go.Proofs.YtbfabpjhdhhpfaaDoor
