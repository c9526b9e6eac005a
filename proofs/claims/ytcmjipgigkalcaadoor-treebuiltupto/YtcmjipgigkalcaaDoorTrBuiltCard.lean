import Derived.Test.YtcmjipgigkalcaaDoorTrRefT
import Derived.Test.YtcmjipgigkalcaaDoorRfBulk
import Derived.Test.YtcmjipgigkalcaaDoorCards
import Derived.Deep.Slices
import Derived.Test.YtcmjipgigkalcaaDoorTrLawB
import Derived.Test.YtcmjipgigkalcaaDoorTie
import Derived.SevenTiedAt
import Derived.ChangeMaps5
import Derived.OpenShut
/-
  What the row of a law of layer 9 gives: a slice of events, with a bound on all that they are written as.
-/
namespace Go.Proofs.YtcmjipgigkalcaaDoor
open Go.RowKit Go.Shelf Go.Lib
open Go.ChangeShapes Go.WideShapes Go.ChangeAt
instance trInhC : Inhabited (Tr.Ev Value) := ⟨⟨0, 0, 0, ⟨#[]⟩, .slice none 0 0, [], ⟨#[]⟩, 0, 0⟩⟩
theorem trLaidOutC : laidOutB Tryd.prog = true := by kernel_rfl
theorem bulk_all_leC {H : Type} {l : List (DataW H)} {d : DataW H} (h : d ∈ l) {k : Nat} (hk : Rows.uptoBulkAll l ≤ k) : Rows.uptoBulk d ≤ k := Nat.le_trans (bulk_part h) hk
theorem sum_leC {H : Type} (S : Nat → ByteArray × ByteArray) (D : Nat → DataW H) : ∀ n, (∀ i, i < n → (S i).1.size + (S i).2.size + 3 ≤ Rows.uptoBulk (D i)) → (((List.range n).map S).map fun x => x.1.size + x.2.size + 3).sum ≤ Rows.uptoBulkAll ((List.range n).map D)
  | 0, _ => Nat.le_refl _
  | n + 1, h => by
    have ih := sum_leC S D n fun i hi => h i (by omega)
    have h1 := h n (by omega)
    have hb : ∀ (l : List (DataW H)) (d : DataW H), Rows.uptoBulkAll (l ++ [d]) = Rows.uptoBulkAll l + Rows.uptoBulk d := fun l d => by
      induction l with
      | nil => simp [Rows.uptoBulkAll]
      | cons x r ih => simp only [List.cons_append, Rows.uptoBulkAll, ih]; omega
    rw [List.range_succ, List.map_append, List.map_append, List.map_append, List.sum_append]
    simp only [List.map_cons, List.map_nil, hb, List.sum_cons, List.sum_nil]
    omega
namespace Tr
theorem ats_leC : ∀ l : List (ByteArray × ByteArray), (l.flatMap atB).length ≤ 6 * (l.map fun x => x.1.size + x.2.size + 3).sum
  | [] => Nat.zero_le _
  | x :: l => by
    have ih := ats_leC l
    have h1 : (Rf.esc Rf.inV x.2.data.toList).length ≤ 6 * x.2.size := Rf.esc_le Rf.inV Rf.inV_le _
    have h2 : x.1.data.toList.length = x.1.size := rfl
    rw [List.flatMap_cons, List.length_append, List.map_cons, List.sum_cons]
    have h3 : (atB x).length = 1 + x.1.data.toList.length + 2 + (Rf.esc Rf.inV x.2.data.toList).length + 1 := by
      unfold atB
      simp only [List.length_append, List.length_cons, List.length_nil]
    omega
end Tr
set_option maxRecDepth 100000 in
/-- attributes -/
theorem ats_ofC {H : Type} {enc : TypeId × Value → H} {W : World} {fuel : Nat} {v : Value} {y : DataW H × List MemPlace} (hf : DataW.trod enc Tryd.prog W 0 (fun _ => true) true fuel 37 [v] = some y) :
    ∃ l, Tr.AtRow W v l ∧ l.length ≤ Rows.uptoBulk y.1 ∧ (∀ x ∈ l, x.1.size ≤ Rows.uptoBulk y.1 ∧ x.2.size ≤ Rows.uptoBulk y.1) ∧ (l.map fun x => x.1.size + x.2.size + 3).sum ≤ Rows.uptoBulk y.1 := by
  rcases Go.Deep.open_slice Tryd.underlying37 hf with ⟨hcs, _⟩ | ⟨x, len, cap, m, n, D, Pl, hcs, _, hl, hm, hmm, hx, hel⟩
  · obtain rfl : v = .slice none 0 0 := by simpa using hcs
    exact ⟨[], ⟨none, 0, rfl, Nat.le_refl _, by omega, fun _ => rfl, fun h => absurd h (by simp)⟩, Nat.zero_le _, (fun x hx => by cases hx), Nat.zero_le _⟩
  · obtain rfl : v = .slice (some x) len cap := by simpa using hcs
    obtain rfl : m = cap := by simpa using hmm
    have ce : Tryd.prog.cellsOf 67 = 2 := by kernel_rfl
    have each : ∀ i, i < len → ∃ s : ByteArray × ByteArray, (W.cell? (x.add (i * 2)) = some (.string s.1) ∧ W.cell? (x.add (i * 2 + 1)) = some (.string s.2)) ∧ s.1.size + s.2.size + 3 ≤ Rows.uptoBulk (D i) := by
      intro i hi
      obtain ⟨cs', h1, h2⟩ := hel i (by omega)
      rw [ce] at h1
      obtain ⟨_, hlen, hcell⟩ := World.cells?_some h1
      obtain ⟨ys, k, hk, hxy, _, hxl, hfl⟩ := DataW.trod_struct Tryd.underlying67 h2
      match ys, hxl, cs', hlen with
      | [y0, y1], _, [v0, v1], _ =>
        have g0 := hfl 0 _ rfl
        have g1 := hfl 1 _ rfl
        have c0 : Tryd.prog.cellsOf 9 = 1 := by kernel_rfl
        simp [c0] at g0 g1
        obtain ⟨s0, hs0, e0, _⟩ := DataW.trod_string Tryd.underlying9 g0
        obtain ⟨s1, hs1, e1, _⟩ := DataW.trod_string Tryd.underlying9 g1
        obtain rfl : v0 = .string s0 := by simpa using hs0
        obtain rfl : v1 = .string s1 := by simpa using hs1
        have a0 := hcell 0 (by omega)
        have a1 := hcell 1 (by omega)
        rw [Go.Deep.add_add] at a0 a1
        simp only [Prod.mk.injEq] at hxy
        refine ⟨(s0, s1), ⟨by simpa using a0, by simpa using a1⟩, ?_⟩
        rw [hxy.1]
        have z0 : s0.data.toList.length = s0.size := rfl
        have z1 : s1.data.toList.length = s1.size := rfl
        simp only [List.map, Rows.uptoBulk, Rows.uptoBulkAll, e0, e1]
        show s0.size + s1.size + 3 ≤ _
        omega
    obtain ⟨S, hS⟩ := Go.Deep.choose_lt each
    have hsum : Rows.uptoBulkAll ((List.range len).map D) ≤ Rows.uptoBulk y.1 := by
      rw [hx]
      simp only [Rows.uptoBulk]
      omega
    have hDi : ∀ i, i < len → Rows.uptoBulk (D i) ≤ Rows.uptoBulk y.1 := fun i hi => bulk_all_leC (List.mem_map.2 ⟨i, List.mem_range.2 hi, rfl⟩) hsum
    refine ⟨(List.range len).map S, ⟨some x, m, by simp, by simpa using hl, by unfold maxLen at hm; omega, (fun e => by cases e), fun h0 => ?_⟩, ?_, (fun s hs => ?_), Nat.le_trans (sum_leC S D len fun i hi => (hS i hi).2) hsum⟩
    · have h0' : 0 < len := by simpa using h0
      obtain ⟨b, off, spot⟩ := x
      have hspot : spot = none := by simpa [Addr.add] using World.cell?_spot (hS 0 h0').1.1
      subst hspot
      refine ⟨b, off, rfl, fun i s hi => ?_⟩
      have hi2 : i < len := by have := (List.getElem?_eq_some_iff.1 hi).1; simpa using this
      rw [List.getElem?_map, List.getElem?_range hi2] at hi
      obtain rfl : S i = s := by simpa using hi
      have := (hS i hi2).1
      simp only [add_plain] at this
      exact this
    · have := bulk_length ((List.range len).map D)
      simp only [List.length_map, List.length_range] at this ⊢
      omega
    · obtain ⟨i, hi, rfl⟩ := List.mem_map.1 hs
      have hi2 := List.mem_range.1 hi
      have := hDi i hi2
      have := (hS i hi2).2
      exact ⟨by omega, by omega⟩
set_option maxRecDepth 100000 in
/-- events -/
theorem evs_ofC {H : Type} {enc : TypeId × Value → H} {W : World} {a : Option Addr} {len cap : Nat} {d : DataW H} {p : List MemPlace} (h : DataW.Trod enc Tryd.prog W 0 (fun _ => true) true 22 (Value.slice a len cap) d p) (hB : Rows.uptoBulk d ≤ 1048576) :
    ∃ E, Tr.Evs W (.slice a len cap) len E ∧ (∀ i, i < len → Tr.Tiny (E i)) ∧ len ≤ 1048576 ∧ ∀ i, i < len → (Tr.evB (E i)).length ≤ 16777216 := by
  obtain ⟨fuel, hf⟩ := h
  rcases Go.Deep.open_slice Tryd.underlying22 hf with ⟨hcs, _⟩ | ⟨x, l, c, m, n, D, Pl, hcs, _, hl, hm, hmm, hx, hel⟩
  · simp [Value.cells] at hcs
    obtain ⟨rfl, rfl, rfl⟩ := hcs
    exact ⟨fun _ => default, ⟨⟨none, 0, rfl, Nat.le_refl _, by omega, fun _ => rfl, fun h => absurd h (by omega)⟩, fun i hi => absurd hi (by omega)⟩, (fun i hi => absurd hi (by omega)), by omega, fun i hi => absurd hi (by omega)⟩
  · simp [Value.cells] at hcs
    obtain ⟨rfl, rfl, rfl⟩ := hcs
    obtain rfl : m = cap := by simpa using hmm
    have ce : Tryd.prog.cellsOf 39 = 8 := by kernel_rfl
    have hd : d = .slice ((List.range len).map D) ((List.range (m - len)).map fun j => D (len + j)) := congrArg Prod.fst hx
    have hsum : Rows.uptoBulkAll ((List.range len).map D) ≤ 1048576 := by
      rw [hd] at hB
      simp only [Rows.uptoBulk] at hB
      omega
    have hDi : ∀ i, i < len → Rows.uptoBulk (D i) ≤ 1048576 := fun i hi => bulk_all_leC (List.mem_map.2 ⟨i, List.mem_range.2 hi, rfl⟩) hsum
    have each : ∀ i, i < len → ∃ e : Tr.Ev Value, (∀ j u, e.cs[j]? = some u → W.cell? (x.add (i * 8 + j)) = some u) ∧ Tr.AtRow W e.av e.ats ∧ Tr.Tiny e ∧ (Tr.evB e).length ≤ 16777216 := by
      intro i hi
      have hDi' := hDi i hi
      obtain ⟨cs', h1, h2⟩ := hel i (by omega)
      rw [ce] at h1
      obtain ⟨_, hlen, hcell⟩ := World.cells?_some h1
      obtain ⟨ys, k, hk, hxy, _, hxl, hfl⟩ := DataW.trod_struct Tryd.underlying39 h2
      match ys, hxl, cs', hlen with
      | [y0, y1, y2, y3, y4, y5, y6, y7], _, [v0, v1, v2, v3, v4, v5, v6, v7], _ =>
        have g0 := hfl 0 _ rfl
        have g1 := hfl 1 _ rfl
        have g2 := hfl 2 _ rfl
        have g3 := hfl 3 _ rfl
        have g4 := hfl 4 _ rfl
        have g5 := hfl 5 _ rfl
        have g6 := hfl 6 _ rfl
        have g7 := hfl 7 _ rfl
        have c0 : Tryd.prog.cellsOf 3 = 1 := by kernel_rfl
        have c1 : Tryd.prog.cellsOf 9 = 1 := by kernel_rfl
        have c2 : Tryd.prog.cellsOf 37 = 1 := by kernel_rfl
        have c3 : Tryd.prog.cellsOf 36 = 1 := by kernel_rfl
        simp [c0, c1, c2, c3] at g0 g1 g2 g3 g4 g5 g6 g7
        obtain ⟨k0, hk0, _⟩ := DataW.trod_int Tryd.underlying36 g0
        obtain ⟨k1, hk1, _⟩ := DataW.trod_int Tryd.underlying3 g1
        obtain ⟨k2, hk2, _⟩ := DataW.trod_int Tryd.underlying3 g2
        obtain ⟨s3, hs3, e3, _⟩ := DataW.trod_string Tryd.underlying9 g3
        obtain ⟨l4, hl4, b4, b4', b5⟩ := ats_ofC g4
        obtain ⟨s5, hs5, e5, _⟩ := DataW.trod_string Tryd.underlying9 g5
        obtain ⟨k6, hk6, _⟩ := DataW.trod_int Tryd.underlying3 g6
        obtain ⟨k7, hk7, _⟩ := DataW.trod_int Tryd.underlying3 g7
        obtain rfl : v0 = .int .i64 k0 := by simpa using hk0
        obtain rfl : v1 = .int .i64 k1 := by simpa using hk1
        obtain rfl : v2 = .int .i64 k2 := by simpa using hk2
        obtain rfl : v3 = .string s3 := by simpa using hs3
        obtain rfl : v5 = .string s5 := by simpa using hs5
        obtain rfl : v6 = .int .i64 k6 := by simpa using hk6
        obtain rfl : v7 = .int .i64 k7 := by simpa using hk7
        simp only [Prod.mk.injEq] at hxy
        rw [hxy.1] at hDi'
        have z3 : s3.data.toList.length = s3.size := rfl
        have z5 : s5.data.toList.length = s5.size := rfl
        simp only [List.map, Rows.uptoBulk, Rows.uptoBulkAll, e3, e5] at hDi'
        refine ⟨⟨k0, k1, k2, s3, v4, l4, s5, k6, k7⟩, fun j u hj => ?_, hl4, ?_, ?_⟩
        · have h8 : j < 8 := by have := (Array.getElem?_eq_some_iff.1 hj).1; exact this
          have a0 := hcell j (by omega)
          rw [Go.Deep.add_add] at a0
          match j, h8, hj, a0 with
          | 0, _, hj, a0 | 1, _, hj, a0 | 2, _, hj, a0 | 3, _, hj, a0 | 4, _, hj, a0 | 5, _, hj, a0 | 6, _, hj, a0 | 7, _, hj, a0 => simp [Tr.Ev.cs] at hj; subst hj; simpa using a0
        · exact ⟨by show s3.size ≤ _; omega, by show s5.size ≤ _; omega, by show l4.length ≤ _; omega, fun x hx => by have := b4' x hx; exact ⟨by omega, by omega⟩⟩
        · have h1 := Tr.ats_leC l4
          have h2 : (Rf.esc Rf.inT s5.data.toList).length ≤ 6 * s5.size := Rf.esc_le Rf.inT Rf.inT_le _
          unfold Tr.evB Tr.stag Tr.stp
          dsimp only
          rw [List.take_length]
          split
          · simp only [List.length_append, List.length_cons, List.length_nil]
            omega
          · split
            · omega
            · split
              · simp only [List.length_append, List.length_cons, List.length_nil]
                omega
              · simp
    obtain ⟨E, hE⟩ := Go.Deep.choose_lt each
    refine ⟨E, ⟨⟨some x, m, rfl, hl, by unfold maxLen at hm; omega, (fun e => by cases e), fun h0 => ?_⟩, fun i hi => (hE i hi).2.1⟩, (fun i hi => (hE i hi).2.2.1), ?_, fun i hi => (hE i hi).2.2.2⟩
    · obtain ⟨b, off, spot⟩ := x
      have hspot : spot = none := by simpa [Addr.add] using World.cell?_spot ((hE 0 h0).1 0 _ rfl)
      subst hspot
      refine ⟨b, off, rfl, fun i j u hi hu => ?_⟩
      have := (hE i hi).1 j u hu
      rw [add_plain, ← Nat.add_assoc] at this
      exact this
    · have := bulk_length ((List.range len).map D)
      simp only [List.length_map, List.length_range] at this
      omega
end Go.Proofs.YtcmjipgigkalcaaDoor
/-
  PROVED: 'gimletlaw09.TreeBuilt' returns true at every input, where what it reads is of bulk at most 1048576 (the card TreeBuiltUptoCardSaid). The conditions: the program's table of ranges and utf8's tables, where it reads them, start as the program's text lays them (the card ties them).
-/
namespace Go.Proofs.YtcmjipgigkalcaaDoor
open Go.RowKit Go.Shelf Go.Lib
open Go.ChangeShapes Go.WideShapes Go.ChangeAt

theorem trbuilt_reads (os : Os) {H : Type} (enc : TypeId × Value → H) : ∃ places, DataW.whole enc Tryd.checked.prog ((World.laidAll Tryd.prog os theLaid).forCall (fun _ _ => 0) ⟨#[], #[.slice none 0 0], []⟩).memory Tryd.f3.params.toList (Rows.OpenSpec.upto Rows.treeBuiltSpec).vars false #[Value.slice none 0 0].toList 8 = some ([.nil], [], places) :=
  ⟨[], by kernel_rfl⟩

set_option maxRecDepth 100000 in
theorem trbuilt_lifted (os : Os) (started : os.Started) (H : Type) (enc : TypeId × Value → H) (F : Stop.Interp) :
    ReturnsInHanded {} Tryd.checked os 3 .any ((Rows.OpenSpec.upto Rows.treeBuiltSpec).preRow enc Tryd.prog Tryd.f3 Rows.treeBuiltUptoRow.domain false Rows.treeBuiltUptoRow.laid) (((Rows.OpenSpec.upto Rows.treeBuiltSpec).at F).post enc Tryd.prog Tryd.f3 false true false false) := by
  obtain ⟨places, hx⟩ := trbuilt_reads os enc
  refine returnsInHanded_of_row (C := Tryd.checked) (s := Rows.OpenSpec.upto Rows.treeBuiltSpec) own started (by kernel_rfl) Tryd.func3
    (upto_witness (fn := Tryd.f3) #[.slice none 0 0] _ rfl (by kernel_rfl) 8 hx (by kernel_rfl) (fun k hk => by cases hk; kernel_rfl) (by kernel_rfl)) ?_
  intro W base args ds gs before hval0 hW _ hcond _ hL _ _
  have hk := hcond _ rfl
  have hval : ∀ (j : Nat) t v, Tryd.f3.params[j]? = some t → args[j]? = some v → Value.okWide Tryd.prog W .any base t v := hval0
  have hW' := hW
  obtain ⟨p, q, hA0, hV, rfl, _, _⟩ := hW
  have hA : DataW.TrodAll enc Tryd.prog W 0 (fun _ => true) true Tryd.f3.params.toList args.toList ds p := hA0
  rw [Tryd.params3] at hA hval
  obtain ⟨v0, vs0, d0, ds0, p0, q0, hargs, rfl, rfl, h0, r0⟩ := trodAll_cons hA
  obtain ⟨rfl, rfl, rfl⟩ := trodAll_nil r0
  obtain rfl : args = #[v0] := by cases args; simp_all
  obtain ⟨rfl, rfl⟩ := trodVars_none hV
  obtain ⟨a0, len0, cap0, rfl⟩ := okWide_slice Tryd.underlying22 (hval 0 22 v0 rfl rfl)
  have k0 := h0
  have lt0 : ∀ x ∈ p0, x.block < W.heap.size := by obtain ⟨m, hm⟩ := k0; exact DataW.trod_lt m _ _ _ hm
  have hB := bulk_bound hk (d := d0) (by simp)
  obtain ⟨E, hE, hsm, hn, hev⟩ := evs_ofC h0 hB
  clear hA0 hval0
  obtain ⟨hT, hS⟩ := tabs_of_laid hL
  have hc := lawBuilt _ len0 E W hE hsm hn hev hS hT
  refine hc.mono fun e W' ⟨he, bel⟩ => ?_
  subst he
  exact ⟨_, rfl, _, _, _, [], _, [], hW', trodAll_mk1 (shut_bool Tryd.underlying4 _), (trodAll_cons_mk (Below.trod trLaidOutC (by kernel_rfl) (of_decide_eq_true (by kernel_rfl)) k0 bel lt0) trodAll_mk0), rfl, bel.frame _, fun h => by cases h⟩

theorem trbuilt_said : Rows.TreeBuiltUptoSaid :=
  OpenClaim.holds_of_cond 3 Tryd.f3 rfl rfl rfl rfl rfl rfl rfl ⟨rfl, rfl, rfl, rfl, rfl⟩ rfl rfl rfl rfl rfl (by kernel_rfl) Tryd.func3 (by kernel_rfl)
    (of_decide_eq_true (by kernel_rfl)) (by unfold Func.isWrapper; rw [if_neg (by decide +kernel)]; exact ⟨rfl, rfl⟩)
    (fun os started H enc _ F => by rw [OpenClaim.pre_eq_preRow]; exact trbuilt_lifted os started H enc F)

theorem trbuilt_plain (f : FuncId) (fn : Func) (hf : Tryd.pinned.checked.prog.funcNamed "gimlet/gimletlaw09.TreeBuilt" = some f) (hfn : Tryd.pinned.checked.prog.funcs[f]? = some fn) :
    false = Tryd.pinned.checked.prog.looks [] ∧ ∀ (j : Nat) t, fn.params[j]? = some t → Tryd.pinned.checked.prog.wantsStandIn t = false := by
  obtain rfl : f = 3 := Option.some.inj ((show Tryd.prog.funcNamed "gimlet/gimletlaw09.TreeBuilt" = some 3 by kernel_rfl).symm.trans hf) |>.symm
  obtain rfl : fn = Tryd.f3 := (Option.some.inj (Tryd.func3.symm.trans hfn)).symm
  refine ⟨by kernel_rfl, fun j t ht => ?_⟩
  rw [Tryd.params3] at ht
  have hm : t ∈ [22] := by simpa using Array.mem_of_getElem? ht
  have hall : ([22].all fun u => !Tryd.prog.wantsStandIn u) = true := by kernel_rfl
  exact (show Tryd.prog.wantsStandIn t = false by simpa using List.all_eq_true.1 hall t hm)

theorem treeBuilt_card : Rows.TreeBuiltUptoCardSaid :=
  Claim7.holds_tied_plain_at .later [] _ _ _ _ trbuilt_said (fun _ h => by cases h) (by kernel_rfl) (fun _ h => by cases h) treeBuiltUpto_row_tie rfl ⟨rfl, rfl⟩ (by kernel_rfl) rfl trbuilt_plain (by kernel_rfl)
#print axioms treeBuilt_card
end Go.Proofs.YtcmjipgigkalcaaDoor
