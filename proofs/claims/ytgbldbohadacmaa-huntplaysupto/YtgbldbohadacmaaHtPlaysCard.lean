import Derived.Test.YtgbldbohadacmaaHtOnceM
import Derived.Test.YtgbldbohadacmaaRows
import Derived.ProofKit
import Derived.OpenShut
import Derived.JoinedCond
import Derived.Lib.RowBridge
import Derived.Test.YtgbldbohadacmaaHtPlaw
import Derived.Deep.Slices
/-
  What the second form's bound gives; what a row tells of an Asked and of a row of numbers that came in.
-/
namespace Go.Proofs.Ytgbldbohadacmaa
open Go.RowKit Go.Lib
open Go.ChangeShapes Go.WideShapes Go.ChangeAt Go.Joins
theorem htBulkOne {H : Type} (d : DataW H) : 1 ≤ Rows.uptoBulk d := by
  cases d with
  | lit l => cases l <;> simp [Rows.uptoBulk]
  | nil => simp [Rows.uptoBulk]
  | ptr d => simp [Rows.uptoBulk]
  | slice elems spare => simp [Rows.uptoBulk]
  | agg parts => simp [Rows.uptoBulk]
  | iface t d => simp [Rows.uptoBulk]
  | map entries => simp [Rows.uptoBulk]
  | held h => simp [Rows.uptoBulk]
theorem htBulkLen {H : Type} (l : List (DataW H)) : l.length ≤ Rows.uptoBulkAll l := by
  induction l with
  | nil => simp [Rows.uptoBulkAll]
  | cons x r ih => have := htBulkOne x; simp only [Rows.uptoBulkAll, List.length_cons]; omega
theorem htBulkPart {H : Type} {d : DataW H} {l : List (DataW H)} (h : d ∈ l) : Rows.uptoBulk d ≤ Rows.uptoBulkAll l := by
  induction l with
  | nil => cases h
  | cons x r ih =>
    simp only [Rows.uptoBulkAll]
    cases List.mem_cons.1 h with
    | inl e => subst e; omega
    | inr e => have := ih e; omega
theorem htBulk {H : Type} {l : List (DataW H)} (hk : Rows.uptoSmall H l = true) {d : DataW H} (h : d ∈ l) : Rows.uptoBulk d ≤ 1048576 := Nat.le_trans (htBulkPart h) (of_decide_eq_true hk)
set_option maxRecDepth 100000 in
set_option maxHeartbeats 800000 in
/-- a comparison that came in -/
theorem htAskedOf {H : Type} {enc : TypeId × Value → H} {W : World} {cs : Array Value} {d : DataW H} {p : List MemPlace} (hcs : cs.size = Try.prog.cellsOf 23) (h : DataW.Trod enc Try.prog W 0 (fun _ => true) true 23 (Value.agg cs) d p) :
    ∃ (C : Int) (s : ByteArray) (N : Int), cs = #[.int .i64 C, .string s, .int .i64 N] ∧ s.data.toList.length ≤ Rows.uptoBulk d ∧ N ≤ 9223372036854775807 ∧ -9223372036854775808 ≤ C ∧ C ≤ 9223372036854775807 := by
  rw [show Try.prog.cellsOf 23 = 3 from by kernel_rfl] at hcs
  obtain ⟨L⟩ := cs
  match L, hcs with
  | [v0, v1, v2], _ =>
    obtain ⟨fuel, hf⟩ := h
    change DataW.trod enc Try.prog W 0 (fun _ => true) true fuel 23 [v0, v1, v2] = some (d, p) at hf
    obtain ⟨ys, k, hk, hxy, _, hxl, hfl⟩ := DataW.trod_struct Try.underlying23 hf
    match ys, hxl with
    | [y0, y1, y2], _ =>
      have g0 := hfl 0 _ rfl
      have g1 := hfl 1 _ rfl
      have g2 := hfl 2 _ rfl
      have c0 : Try.prog.cellsOf 3 = 1 := by kernel_rfl
      have c1 : Try.prog.cellsOf 9 = 1 := by kernel_rfl
      simp [c0, c1] at g0 g1 g2
      obtain ⟨C, hC, _, wC⟩ := DataW.trod_int Try.underlying3 g0
      obtain ⟨T, hT, hT2, _⟩ := DataW.trod_string Try.underlying9 g1
      obtain ⟨N, hN, _, wN⟩ := DataW.trod_int Try.underlying3 g2
      obtain rfl : v0 = .int .i64 C := by simpa using hC
      obtain rfl : v1 = .string T := by simpa using hT
      obtain rfl : v2 = .int .i64 N := by simpa using hN
      have b1 : -9223372036854775808 ≤ C ∧ C ≤ 9223372036854775807 := by simpa [Lit.wf, IntKind.min, IntKind.max, IntKind.signed, IntKind.bits] using wC
      have b2 : -9223372036854775808 ≤ N ∧ N ≤ 9223372036854775807 := by simpa [Lit.wf, IntKind.min, IntKind.max, IntKind.signed, IntKind.bits] using wN
      refine ⟨C, T, N, rfl, ?_, b2.2, b1.1, b1.2⟩
      simp only [Prod.mk.injEq] at hxy
      rw [hxy.1]
      have h1 : y1.1 = .lit (.string T.data.toList) := congrArg Prod.fst hT2
      simp only [List.map, Rows.uptoBulk, Rows.uptoBulkAll, h1]
      omega
set_option maxRecDepth 100000 in
/-- numbers that came in -/
theorem htRiOf {H : Type} {enc : TypeId × Value → H} {W : World} {a : Option Addr} {len cap : Nat} {d : DataW H} {p : List MemPlace} (h : DataW.Trod enc Try.prog W 0 (fun _ => true) true 44 (Value.slice a len cap) d p) :
    ∃ l : List Int, Ht.Ri W (.slice a len cap) l ∧ l.length ≤ Rows.uptoBulk d := by
  obtain ⟨fuel, hf⟩ := h
  rcases open_ints Try.underlying44 Try.underlying3 (by kernel_rfl) hf with ⟨hcs, hx⟩ | ⟨a, len', cap', zs, hcs, _, hl, hmx, hz, hx, hcell, hwz⟩
  · simp [Value.cells] at hcs
    obtain ⟨rfl, rfl, rfl⟩ := hcs
    exact ⟨[], ⟨none, 0, rfl, by simp, by simp, by simp⟩, Nat.zero_le _⟩
  · simp [Value.cells] at hcs
    obtain ⟨rfl, rfl, rfl⟩ := hcs
    simp only [if_true] at hz
    have hmx2 : cap ≤ 9223372036854775807 := by unfold maxLen at hmx; omega
    have hll : (zs.take len).length = len := by rw [List.length_take]; omega
    refine ⟨zs.take len, ⟨some a, cap, by rw [hll], by rw [hll]; omega, hmx2, fun h0 => ?_⟩, ?_⟩
    · obtain ⟨b, off, spot⟩ := a
      rw [hll] at h0
      have hspot : spot = none := by simpa [Addr.add] using World.cell?_spot (hcell 0 (by omega))
      subst hspot
      refine ⟨b, off, rfl, fun i y hy => ?_⟩
      have hi : i < len := by have := (List.getElem?_eq_some_iff.1 hy).1; omega
      have q := hcell i (by omega)
      rw [add_plain] at q
      rw [q]
      rw [List.getElem?_take_of_lt hi] at hy
      rw [List.getD_eq_getElem?_getD, hy]
      rfl
    · have hd' := congrArg Prod.fst hx
      simp only at hd'
      rw [hd', hll]
      have e : (lits (H := H) .i64 (zs.take len)).length = len := by simp [lits]; omega
      have := htBulkLen (lits (H := H) .i64 (zs.take len))
      simp only [Rows.uptoBulk]
      omega
end Go.Proofs.Ytgbldbohadacmaa
/-
  What a row tells of a script of calls that came in.
-/
namespace Go.Proofs.Ytgbldbohadacmaa
open Go.RowKit Go.Lib
open Go.ChangeShapes Go.WideShapes Go.ChangeAt Go.Joins
set_option maxRecDepth 100000 in
set_option maxHeartbeats 800000 in
theorem htSOpsOf {H : Type} {enc : TypeId × Value → H} {W : World} {a : Option Addr} {len cap : Nat} {d : DataW H} {p : List MemPlace} (h : DataW.Trod enc Try.prog W 0 (fun _ => true) true 24 (Value.slice a len cap) d p) :
    ∃ S, Ht.SOps W a len S ∧ (∀ i, i < len → (∀ j, (S i).f j < 256) ∧ (S i).n ≤ Rows.uptoBulk d) ∧ len ≤ cap ∧ len ≤ Rows.uptoBulk d := by
  obtain ⟨fuel, hf⟩ := h
  rcases Go.Deep.open_slice Try.underlying24 hf with ⟨hcs, _⟩ | ⟨x, l, c, m, n, D, Pl, hcs, _, hl, hm, hmm, hx, hel⟩
  · simp [Value.cells] at hcs
    obtain ⟨rfl, rfl, rfl⟩ := hcs
    exact ⟨fun _ => default, fun h => absurd h (by omega), fun i hi => absurd hi (by omega), Nat.le_refl _, Nat.zero_le _⟩
  · simp [Value.cells] at hcs
    obtain ⟨rfl, rfl, rfl⟩ := hcs
    obtain rfl : m = cap := by simpa using hmm
    have ce : Try.prog.cellsOf 35 = 3 := by kernel_rfl
    have each : ∀ i, i < len → ∃ s : Ht.SOp, (W.cell? (x.add (i * 3)) = some (.int .i64 s.kind) ∧ W.cell? (x.add (i * 3 + 1)) = some (.bool s.oth) ∧ W.cell? (x.add (i * 3 + 2)) = some (.string (Rn.arr s.f s.n))) ∧ (∀ j, s.f j < 256) ∧ s.n ≤ Rows.uptoBulk (D i) := by
      intro i hi
      obtain ⟨cs', h1, h2⟩ := hel i (by omega)
      rw [ce] at h1
      obtain ⟨_, hlen, hcell⟩ := World.cells?_some h1
      obtain ⟨ys, k, hk, hxy, _, hxl, hfl⟩ := DataW.trod_struct Try.underlying35 h2
      match ys, hxl, cs', hlen with
      | [y0, y1, y2], _, [v0, v1, v2], _ =>
        have g0 := hfl 0 _ rfl
        have g1 := hfl 1 _ rfl
        have g2 := hfl 2 _ rfl
        have c0 : Try.prog.cellsOf 3 = 1 := by kernel_rfl
        have c1 : Try.prog.cellsOf 4 = 1 := by kernel_rfl
        have c2 : Try.prog.cellsOf 9 = 1 := by kernel_rfl
        simp [c0, c1, c2] at g0 g1 g2
        obtain ⟨K, hK, _⟩ := DataW.trod_int Try.underlying3 g0
        obtain ⟨O, hO, _⟩ := DataW.trod_bool Try.underlying4 g1
        obtain ⟨s, hs, hs2, _⟩ := DataW.trod_string Try.underlying9 g2
        obtain rfl : v0 = .int .i64 K := by simpa using hK
        obtain rfl : v1 = .bool O := by simpa using hO
        obtain rfl : v2 = .string s := by simpa using hs
        have e0 := hcell 0 (by omega)
        have e1 := hcell 1 (by omega)
        have e2 := hcell 2 (by omega)
        rw [Go.Deep.add_add] at e0 e1 e2
        simp only [Prod.mk.injEq] at hxy
        refine ⟨⟨K, O, Rn.lf s.data.toList, s.data.toList.length⟩, ⟨by simpa using e0, by simpa using e1, ?_⟩, Rn.lf_lt _, ?_⟩
        · rw [Rn.arr_lf]
          simpa using e2
        · rw [hxy.1]
          have h1 : y2.1 = .lit (.string s.data.toList) := congrArg Prod.fst hs2
          simp only [List.map, Rows.uptoBulk, Rows.uptoBulkAll, h1]
          omega
    obtain ⟨S, hS⟩ := Go.Deep.choose_lt each
    have hd : d = .slice ((List.range len).map D) ((List.range (m - len)).map fun j => D (len + j)) := congrArg Prod.fst hx
    have hb := htBulkLen ((List.range len).map D)
    rw [List.length_map, List.length_range] at hb
    refine ⟨S, fun h0 => ?_, fun i hi => ⟨(hS i hi).2.1, ?_⟩, hl, ?_⟩
    · obtain ⟨b, off, spot⟩ := x
      have hspot : spot = none := by simpa [Addr.add] using World.cell?_spot (hS 0 h0).1.1
      subst hspot
      have hc : ∀ i, i < len → _ := fun i hi => (hS i hi).1
      simp only [add_plain] at hc
      exact ⟨b, off, rfl, block_lt_of_cell (hc 0 h0).1, hc⟩
    · have h1 := (hS i hi).2.2
      have h2 : Rows.uptoBulk (D i) ≤ Rows.uptoBulkAll ((List.range len).map D) := htBulkPart (by simp only [List.mem_map, List.mem_range]; exact ⟨i, hi, rfl⟩)
      rw [hd]
      simp only [Rows.uptoBulk]
      omega
    · rw [hd]
      simp only [Rows.uptoBulk]
      omega
end Go.Proofs.Ytgbldbohadacmaa
/-
  PROVED: 'gimletlaw16.HuntPlays' returns true at every two comparisons and script of calls that hold together at most 1048576 values and letters, and its arguments stay (the statement HuntPlaysUptoSaid). No other condition.
-/
namespace Go.Proofs.Ytgbldbohadacmaa
open Go.ChangeShapes Go.WideShapes Go.ChangeAt Go.RowKit
theorem htOwnP : ownKnob Try.prog.godebug = none := by kernel_rfl
theorem htLaidP : laidOutB Try.prog = true := by kernel_rfl
theorem lawPlays16 (W : World) (c N c' N' : Int) (f f' : Nat → Nat) (n n' : Nat) (pa : Option Addr) (len cap : Nat) (S : Nat → Ht.SOp) (hf : ∀ j, f j < 256) (hf' : ∀ j, f' j < 256) (hn : n ≤ 1048576) (hn' : n' ≤ 1048576)
    (hN : N ≤ 9223372036854775807) (hN' : N' ≤ 9223372036854775807) (hS : Ht.SOps W pa len S) (hok : ∀ i, i < len → (∀ j, (S i).f j < 256) ∧ (S i).n ≤ 1048576) (hc : len ≤ cap) (hlen : len ≤ 1048576) :
    Calls Try.prog 3 #[.agg #[.int .i64 c, .string (Rn.arr f n), .int .i64 N], .agg #[.int .i64 c', .string (Rn.arr f' n'), .int .i64 N'], .slice pa len cap] W fun e w' => e = .returned (.bool true) ∧ Below W.heap.size W w' := by
  by_cases h1 : Ht.eno c N = 0
  · by_cases h2 : Ht.eno c' N' = 0
    · exact lawPlays11 W c N c' N' f f' n n' pa len cap S h1 h2 hf hf' hn hn' hN hN' hS hok hc hlen
    · exact lawPlays10 W c N c' N' f f' n n' pa len cap S h1 h2 hf hf' hn hn' hN hN' hS hok hc hlen
  · by_cases h2 : Ht.eno c' N' = 0
    · exact lawPlays01 W c N c' N' f f' n n' pa len cap S h1 h2 hf hf' hn hn' hN hN' hS hok hc hlen
    · exact lawPlays00 W c N c' N' f f' n n' pa len cap S h1 h2 hf hf' hn hn' hN hN' hS hok hc hlen
set_option maxHeartbeats 1600000 in
set_option maxRecDepth 100000 in
theorem htplays_lifted (os : Os) (started : os.Started) (H : Type) (enc : TypeId × Value → H) (F : Stop.Interp) :
    ReturnsInHanded {} Try.checked os 3 .any ((Rows.OpenSpec.upto Rows.huntPlaysSpec).pre6 enc Try.prog Try.f3 Rows.huntPlaysUptoRow.domain false) (((Rows.OpenSpec.upto Rows.huntPlaysSpec).at F).post enc Try.prog Try.f3 false true false false) := by
  refine returnsInHanded_of_cond (C := Try.checked) (s := Rows.OpenSpec.upto Rows.huntPlaysSpec) (k := Rows.uptoSmall) rfl htOwnP started (by kernel_rfl) Try.func3
    (OpenSpec.witness (enc := enc) (C := Try.checked) (s := Rows.OpenSpec.upto Rows.huntPlaysSpec) (k := Rows.uptoSmall) rfl false ⟨#[], #[.agg #[.int .i64 0, .string .empty, .int .i64 0], .agg #[.int .i64 0, .string .empty, .int .i64 0], .slice none 0 0], []⟩ 8 (by kernel_rfl) (by kernel_rfl) (by kernel_rfl)
      (x := ([.agg [.lit (.int .i64 0), .lit (.string []), .lit (.int .i64 0)], .agg [.lit (.int .i64 0), .lit (.string []), .lit (.int .i64 0)], .nil], [], [])) (by kernel_rfl) rfl (by kernel_rfl)) ?_
  intro W base args ds gs before hval0 hW _ hk _
  have hval : ∀ (j : Nat) t v, Try.f3.params[j]? = some t → args[j]? = some v → Value.okWide Try.prog W .any base t v := hval0
  have hW' := hW
  obtain ⟨p, q, hA0, hV, rfl, _, _⟩ := hW
  have hA : DataW.TrodAll enc Try.prog W 0 (fun _ => true) true Try.f3.params.toList args.toList ds p := hA0
  rw [Try.params3] at hA hval
  obtain ⟨v0, vs0, d0, ds0, p0, q0, hargs, rfl, rfl, h0, r0⟩ := trodAll_cons hA
  obtain ⟨v1, vs1, d1, ds1, p1, q1, rfl, rfl, rfl, h1, r1⟩ := trodAll_cons r0
  obtain ⟨v2, vs2, d2, ds2, p2, q2, rfl, rfl, rfl, h2, r2⟩ := trodAll_cons r1
  obtain ⟨rfl, rfl, rfl⟩ := trodAll_nil r2
  obtain rfl : args = #[v0, v1, v2] := by cases args; simp_all
  obtain ⟨rfl, rfl⟩ := trodVars_none hV
  obtain ⟨cs, rfl, hcs⟩ := okWide_struct Try.underlying23 (hval 0 23 v0 rfl rfl)
  obtain ⟨cs2, rfl, hcs2⟩ := okWide_struct Try.underlying23 (hval 1 23 v1 rfl rfl)
  obtain ⟨a1, n1, c1, rfl⟩ := okWide_slice Try.underlying24 (hval 2 24 v2 rfl rfl)
  have k0 := h0
  have k1 := h1
  have k2 := h2
  have lt0 : ∀ x ∈ p0, x.block < W.heap.size := by obtain ⟨m, hm⟩ := k0; exact DataW.trod_lt m _ _ _ hm
  have lt1 : ∀ x ∈ p1, x.block < W.heap.size := by obtain ⟨m, hm⟩ := k1; exact DataW.trod_lt m _ _ _ hm
  have lt2 : ∀ x ∈ p2, x.block < W.heap.size := by obtain ⟨m, hm⟩ := k2; exact DataW.trod_lt m _ _ _ hm
  clear hA0 hval0 hargs r0 r1 r2 hA
  have b0 := htBulk hk (d := d0) (by simp)
  have b1 := htBulk hk (d := d1) (by simp)
  have b2 := htBulk hk (d := d2) (by simp)
  obtain ⟨C, s, N, rfl, u1, u2, _, _⟩ := htAskedOf hcs h0
  obtain ⟨C', s', N', rfl, u1', u2', _, _⟩ := htAskedOf hcs2 h1
  obtain ⟨S, hS, hok, hcc, hln⟩ := htSOpsOf h2
  have e0 : Rn.arr (Rn.lf s.data.toList) s.data.toList.length = s := by rw [Rn.arr_lf]
  have e1 : Rn.arr (Rn.lf s'.data.toList) s'.data.toList.length = s' := by rw [Rn.arr_lf]
  have hc := lawPlays16 W C N C' N' (Rn.lf s.data.toList) (Rn.lf s'.data.toList) s.data.toList.length s'.data.toList.length a1 n1 c1 S (Rn.lf_lt _) (Rn.lf_lt _) (by omega) (by omega) u2 u2' hS (fun i hi => ⟨(hok i hi).1, by have := (hok i hi).2; omega⟩) hcc (by omega)
  rw [e0, e1] at hc
  refine hc.mono fun e W' ⟨he, hb⟩ => ?_
  subst he
  exact ⟨_, rfl, _, _, _, [], _, [], hW', trodAll_mk1 (shut_bool Try.underlying4 _), (trodAll_cons_mk (Below.trod htLaidP (by kernel_rfl) (of_decide_eq_true (by kernel_rfl)) k0 hb lt0) (trodAll_cons_mk (Below.trod htLaidP (by kernel_rfl) (of_decide_eq_true (by kernel_rfl)) k1 hb lt1) (trodAll_cons_mk (Below.trod htLaidP (by kernel_rfl) (of_decide_eq_true (by kernel_rfl)) k2 hb lt2) trodAll_mk0))), rfl, hb.frame _, fun h => by cases h⟩
theorem huntPlays_said : Rows.HuntPlaysUptoSaid :=
  OpenClaim.holds_of_cond 3 Try.f3 rfl rfl rfl rfl rfl rfl rfl ⟨rfl, rfl, rfl, rfl, rfl⟩ rfl rfl rfl rfl rfl (by kernel_rfl) Try.func3 (by kernel_rfl)
    (of_decide_eq_true (by kernel_rfl)) (by unfold Func.isWrapper; first | (rw [if_pos (by decide +kernel)]; kernel_rfl) | (rw [if_neg (by decide +kernel)]; exact ⟨rfl, rfl⟩))
    (fun os started H enc _ F => htplays_lifted os started H enc F)
#print axioms huntPlays_said
end Go.Proofs.Ytgbldbohadacmaa
