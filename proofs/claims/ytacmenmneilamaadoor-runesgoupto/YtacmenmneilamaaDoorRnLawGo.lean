/-
  THE WALK over gimletlaw01.RunesGo: of any text and any list of runes.
-/
import Derived.Test.YtacmenmneilamaaDoorRnThrough
import Derived.Test.YtacmenmneilamaaDoorRnJoin
import Derived.Test.YtacmenmneilamaaDoorRnAwake
import Derived.Test.YtacmenmneilamaaDoorRnLawTexts
import Derived.Laws.AppendOwnNone
import Derived.Deep.QuietTactic
import Derived.BigQuiet
namespace Go.Proofs.YtacmenmneilamaaDoor
open Go.RowKit Go.Shelf

/-- runes, as cells -/
def rc (ys : List Int) : List Value := ys.map (.int .i32)
theorem rc_length (ys : List Int) : (rc ys).length = ys.length := by simp [rc]
theorem rc_get (ys : List Int) (j : Nat) (u : Value) (h : (rc ys)[j]? = some u) : j < ys.length ∧ u = .int .i32 (ys.getD j 0) := by
  unfold rc at h
  rw [List.getElem?_map] at h
  rcases Nat.lt_or_ge j ys.length with hj | hj
  · rw [List.getElem?_eq_getElem hj] at h
    simp at h
    exact ⟨hj, by rw [← h]; simp [hj]⟩
  · rw [List.getElem?_eq_none hj] at h
    cases h
theorem rc_at (ys : List Int) (j : Nat) (h : j < ys.length) : (rc ys)[j]? = some (.int .i32 (ys.getD j 0)) := by
  unfold rc
  rw [List.getElem?_map, List.getElem?_eq_getElem h]
  simp [h]
theorem rc_cell (ys : List Int) : ∀ u ∈ rc ys, u.oneCell' = true := by
  intro u hu
  obtain ⟨j, _, rfl⟩ := List.mem_map.1 hu
  rfl

/-- a slice of runes that came in, as the walks want it -/
inductive ArgR (w : World) (ys : List Int) : Value → Prop
  | nil (hn : ys = []) : ArgR w ys (.slice none 0 0)
  | some (ad : Addr) (cap : Nat) (h1 : ys.length ≤ cap) (h2 : cap ≤ maxLen) (hc : ∀ j, j < ys.length → w.cell? (ad.add j) = .some (.int .i32 (ys.getD j 0))) : ArgR w ys (.slice (.some ad) ys.length cap)
theorem ArgR.below {w w' : World} {ys : List Int} {v : Value} (h : ArgR w ys v) {B : Nat} (hb : Below B w w') (hB : w.heap.size ≤ B) : ArgR w' ys v := by
  cases h with
  | nil hn => exact .nil hn
  | some ad cap h1 h2 hc =>
    refine .some ad cap h1 h2 (fun j hj => ?_)
    have := hc j hj
    exact (hb.cell (p := ad.add j) (Nat.lt_of_lt_of_le (block_lt_of_cell this) hB)).trans this
theorem ArgR.conv {w : World} {ys : List Int} {v : Value} (h : ArgR w ys v) : (convert 59 9 v).run Tryd.prog w = .ok (.string (runesBytes ys)) w := by
  cases h with
  | nil hn =>
    subst hn
    rw [run_convert_runes_nil w 59 9 21 0 0 Tryd.underlying59 Tryd.underlying21 Tryd.underlying9]
    rfl
  | some ad cap h1 h2 hc =>
    have h := run_convert_runes (P := Tryd.prog) w 59 9 21 ad ys.length cap ys (Nat.le_refl _) Tryd.underlying59 Tryd.underlying21 Tryd.underlying9 hc
    rw [List.take_length] at h
    exact h
theorem ArgR.len {w : World} {ys : List Int} {v : Value} (h : ArgR w ys v) : ∃ pa cap, v = .slice pa ys.length cap := by
  cases h with
  | nil hn => subst hn; exact ⟨_, _, rfl⟩
  | some ad cap h1 h2 hc => exact ⟨_, _, rfl⟩
/-- its runes, at a plain address -/
theorem ArgR.at {w : World} {ys : List Int} {pa : Option Addr} {cap : Nat} (h : ArgR w ys (.slice pa ys.length cap)) (h0 : 0 < ys.length) : ∃ b o, pa = .some ⟨b, o, none⟩ ∧ ∀ j, j < ys.length → w.cell? ⟨b, o + j, none⟩ = .some (.int .i32 (ys.getD j 0)) := by
  generalize hv : Value.slice pa ys.length cap = v at h
  cases h with
  | nil hn => subst hn; simp at h0
  | some ad cap' h1 h2 hc =>
    cases hv
    obtain ⟨b, o, rfl, hcc⟩ := ints_at hc h0
    exact ⟨b, o, rfl, hcc⟩
theorem infoRune : (Tryd.prog.info? 21).map (fun i => (i.zero, i.size, i.bytes)) = some (some (.int .i32 0), 1, 4) := by kernel_rfl
theorem infoInt : (Tryd.prog.info? 3).map (fun i => (i.zero, i.size, i.bytes)) = some (some (.int .i64 0), 1, 8) := by kernel_rfl
theorem owns_emptyR (w : World) : (w.alloc (.cells #[] 21)).ownsRow w.heap.size 21 1 (.slice (some ⟨w.heap.size, 0, none⟩) 0 0) 0 [] :=
  ⟨rfl, .inr ⟨w.heap.size, 0, #[], rfl, Nat.le_refl _, (by show (w.heap.push _)[w.heap.size]? = _; simp), Nat.le_refl _, by decide, rfl, rfl⟩⟩
/-- such a slice put behind a row that is owned -/
theorem wpList_append_arg {w : World} {ops : Array Oper} {rest : List Oper} {o : Oper} {a : Act} {Q : Exit → Act → World → Prop} (hgd : o.guard = none) (s x : Operand)
    (ho : o.op = .call { callee := .builtin .append, args := #[s, x], argTypes := #[59, 59] }) (base : Nat) (v vx : Value) (n : Nat) (cells : List Value) (ys : List Int) (hs : a.eval s = v) (hown : w.ownsRow base 21 1 v n cells)
    (hx : a.eval x = vx) (hA : ArgR w ys vx) (hb : n + ys.length ≤ 35184372088832) (hbase : base ≤ w.heap.size)
    (h : ∀ v' w', w'.ownsRow base 21 1 v' (n + ys.length) (cells ++ rc ys) → w.grownBy w' v.ownBlock → wpList Tryd.prog ops Q rest (a.put o.dst v') w') : wpList Tryd.prog ops Q (o :: rest) a w := by
  obtain ⟨i0, hi, hz0, hz1, hz2⟩ := info_parts infoRune
  cases hA with
  | nil hn =>
    subst hn
    refine wpList_append_own_none hgd s x 59 ho base 21 i0 1 Tryd.underlying59 hi v n cells hs hown hx ?_
    exact h v w (by simpa [rc] using hown) ⟨rfl, rfl, rfl, Nat.le_refl _, fun _ _ _ => rfl⟩
  | some ad cap h1 h2 hc =>
    refine wpList_append_own w hgd s x 59 ho base 21 i0 (.int .i32 0) 1 4 Tryd.underlying59 hi hz0 hz1 hz2 rfl (by decide) v n cells hs hown ad ys.length cap (rc ys) hx (by rw [rc_length]; omega) ?_ (rc_cell ys) (by unfold maxLen; omega) (by omega) hbase (fun v' w' h3 h4 _ => h v' w' h3 h4)
    intro j u hu
    obtain ⟨hj, rfl⟩ := rc_get ys j u hu
    exact hc j hj

theorem cell_other {W : World} {a b : Addr} (h : a.block ≠ b.block) (u : Value) : (W.setCell a u).cell? b = W.cell? b := World.cell?_of_block (Below.heap_setCell W a u b.block (Ne.symm h))
theorem eql_nilFunc (b : Nat) (W : World) : (binOp BinOp.eql 63 (Value.func (.func 50) #[] #[.pointer (some ⟨b, 0, none⟩)]) .nilFunc).run Tryd.prog W = .ok (.bool false) W := by kernel_rfl
/-- places and runes, as cells -/
def plcs {n : Nat} (xs : List (Rn.Chr n)) : List Value := xs.map fun x => .int .i64 x.1.1
def rcs {n : Nat} (xs : List (Rn.Chr n)) : List Value := xs.map fun x => .int .i32 x.1.2
theorem rows_ne {w : World} {B B' : Nat} {t t' : TypeId} {v v' : Value} {n n' : Nat} {ys ys' : List Value} (h : w.ownsRow B t 1 v n ys) (h' : w.ownsRow B' t' 1 v' n' ys') (ht : t ≠ t') : v'.ownBlock = none ∨ v'.ownBlock ≠ v.ownBlock := by
  rcases h'.2 with ⟨rfl, _⟩ | ⟨g', cap', cur', rfl, _, hg', _⟩
  · exact .inl rfl
  · refine .inr fun e => ?_
    rcases h.2 with ⟨rfl, _⟩ | ⟨g, cap, cur, rfl, _, hg, _⟩
    · cases e
    · have : g' = g := Option.some.inj e
      subst this
      rw [hg] at hg'
      cases hg'
      exact ht rfl
theorem owns_slice {w : World} {B : Nat} {t : TypeId} {v : Value} {n : Nat} {ys : List Value} (h : w.ownsRow B t 1 v n ys) : ∃ p cap, v = .slice p n cap ∧ (0 < n → ∃ g, p = some ⟨g, 0, none⟩ ∧ ∀ j u, ys[j]? = some u → w.cell? ⟨g, j, none⟩ = some u) := by
  rcases h.2 with ⟨rfl, h0⟩ | ⟨g, cap, cur, rfl, _⟩
  · exact ⟨none, 0, by rw [h0], fun h => by omega⟩
  · refine ⟨_, cap, rfl, fun _ => ⟨g, rfl, fun j u hu => ?_⟩⟩
    have := h.cells (g := g) rfl j u hu
    rw [show (Addr.add ⟨g, 0, none⟩ j) = ⟨g, j, none⟩ by simp [Addr.add]; omega] at this
    exact this
theorem owns_iter {w : World} {B : Nat} {t : TypeId} {v : Value} {n : Nat} {ys : List Value} (h : w.ownsRow B t 1 v n ys) {I : Nat} (hI : I < B) (st : ByteArray) (p : Nat) : (w.iterAt I st p).ownsRow B t 1 v n ys := by
  refine h.kept (grownBy_iterAt w I st p) ?_
  cases hv : v.ownBlock with
  | none => exact .inl rfl
  | some g =>
    refine .inr fun e => ?_
    have := (h.lt g hv).1
    have := Option.some.inj e
    omega
theorem one_new (W : World) (t : TypeId) (v : Value) : ∀ j u, ([v] : List Value)[j]? = some u → (W.alloc (.cells #[v] t)).cell? (Addr.add ⟨W.heap.size, 0, none⟩ j) = some u := by
  intro j u hj
  match j, hj with
  | 0, hj => simp at hj; subst hj; simp [Addr.add]
  | (j + 1), hj => simp at hj
theorem addr_add (g o j : Nat) : Addr.add ⟨g, o, none⟩ j = ⟨g, o + j, none⟩ := by simp [Addr.add]
theorem two_news (W : World) : ∀ j u, ([.int .i32 5, .int .i32 6] : List Value)[j]? = some u → (W.alloc (.cells #[.int .i32 5, .int .i32 6] 21)).cell? (Addr.add ⟨W.heap.size, 0, none⟩ j) = some u := by
  intro j u hj
  match j, hj with
  | 0, hj => simp at hj; subst hj; simp [Addr.add]
  | 1, hj => simp at hj; subst hj; simp [Addr.add]
  | (j + 2), hj => simp at hj
theorem two_cell : ∀ u ∈ ([.int .i32 5, .int .i32 6] : List Value), u.oneCell' = true := by
  intro u hu
  simp at hu
  rcases hu with rfl | rfl <;> rfl

set_option maxRecDepth 100000 in
set_option maxHeartbeats 4000000 in
theorem lawGo_any (f : Nat → Nat) (m : Nat) (ys : List Int) (pa : Option Addr) (capl : Nat) (w : World) (hT : Lib.Utf8Tabs 0 1 w) (hf : ∀ j, f j < 256) (hm : m ≤ 1099511627776) (hy : ys.length ≤ 1099511627776) (hA : ArgR w ys (.slice pa ys.length capl)) :
    Calls Tryd.prog 6 #[.string (Rn.arr f m), .slice pa ys.length capl] w fun e w' => e = .returned (.bool true) ∧ Below w.heap.size w w' := by
  have cA := awake_any w hT
  obtain ⟨i0, hi, hz0, hz1, hz2'⟩ := info_parts infoRune
  obtain ⟨i1, hi1, hy0, hy1, hy2⟩ := info_parts infoInt
  have hsz := Rn.arr_size f m
  go_enter Tryd.func6, Tryd.ntmps6
  go_wp2_with fail
  refine cA.mono ?_
  rintro e w1 ⟨rfl, hB1⟩
  clear cA
  have hA1 := (hA.below hB1 (Nat.le_refl _)).below (below_alloc1 w1 (.cells #[] 21)) (Nat.le_refl _)
  go_wp2_with (at_builtin; refine wpList_append_arg rfl _ _ rfl w1.heap.size _ _ 0 [] ys rfl (owns_emptyR w1) rfl hA1 (by omega) (by simp) ?_)
  intro v2 w2 hown2 hgrow
  have hb2 : Below w1.heap.size w1 w2 := (below_alloc1 w1 _).grown hgrow (by simp) (fun k hk => by simp [Value.ownBlock] at hk; omega)
  have hB2 := hB1.trans (hb2.mono hB1.size)
  have hz2 := hb2.size
  clear hgrow hA1
  go_wp2_with (at_builtin; refine wpList_append_own _ rfl _ _ 59 rfl w1.heap.size 21 i0 (.int .i32 0) 1 4 Tryd.underlying59 hi hz0 hz1 hz2' rfl (by decide) _ ys.length (rc ys) rfl (hown2.alloc _) ⟨w2.heap.size, 0, none⟩ 2 2 [.int .i32 5, .int .i32 6] rfl rfl ?c1 ?c2 ?c3 ?c4 ?c5 ?_)
  case c1 => exact two_news w2
  case c2 => exact two_cell
  case c3 => unfold maxLen; omega
  case c4 => omega
  case c5 => simp; omega
  intro v3 w3 hown3 hgrow _
  have hb3 : Below w1.heap.size w1 w3 := (hb2.alloc hz2 _).grown hgrow (by simp; omega) (fun k hk => (hown2.lt k hk).1)
  have hB3 := hB1.trans (hb3.mono hB1.size)
  obtain ⟨g, cap, rfl, hg1, hg2, hc1, hc2⟩ : ∃ g cap, v3 = .slice (some ⟨g, 0, none⟩) (ys.length + 2) cap ∧ w1.heap.size ≤ g ∧ g < w3.heap.size ∧ ys.length + 2 ≤ cap ∧ cap ≤ maxLen := by
    rcases hown3.2 with ⟨_, h0⟩ | ⟨g, cap, cur, rfl, hg, hgg, h1, h2, _, _⟩
    · omega
    · exact ⟨g, cap, rfl, hg, (Array.getElem?_eq_some_iff.1 hgg).1, h1, h2⟩
  have hcl : ∀ j, j < ys.length → w3.cell? ⟨g, 0 + j, none⟩ = some (.int .i32 (ys.getD j 0)) := fun j hj => by
    have := hown3.cells (g := g) rfl j (.int .i32 (ys.getD j 0)) (by rw [List.getElem?_append_left (by rw [rc_length]; exact hj)]; exact rc_at ys j hj)
    rw [addr_add] at this
    exact this
  have hc5 : w3.cell? ⟨g, ys.length, none⟩ = some (.int .i32 5) := by
    have := hown3.cells (g := g) rfl ys.length (.int .i32 5) (by rw [List.getElem?_append_right (by rw [rc_length]; omega), rc_length]; simp)
    rw [addr_add, Nat.zero_add] at this
    exact this
  have hc6 : w3.cell? ⟨g, ys.length + 1, none⟩ = some (.int .i32 6) := by
    have := hown3.cells (g := g) rfl (ys.length + 1) (.int .i32 6) (by rw [List.getElem?_append_right (by rw [rc_length]; omega), rc_length]; simp)
    rw [addr_add, Nat.zero_add] at this
    exact this
  clear hown2 hown3 hgrow hb2 hB2
  have hm' : cap ≤ 9223372036854775807 := by unfold maxLen at hc2; omega
  have hcv : ∀ n, (convert 59 9 (.slice pa ys.length capl)).run Tryd.prog (w3.drewN n) = _ := fun n => (hA.below (below_drewN hB3 n) (Nat.le_refl _)).conv
  have cJ : ∀ n, _ := fun n => join_any ys g 0 cap (w3.drewN n) hcl
  have n1 : ((runesBytes ys).toList != (runesBytes ys).toList) = false := by simp
  have n2 : (ys.length : Int) < (ys.length : Int) + 2 := by omega
  have n3 : (ys.length : Int) + 1 < (ys.length : Int) + 2 := by omega
  go_wp2_with fail
  go_quiet (first | (go_at_call 32; refine Calls.quiet_of_same (cJ _)))
  go_wp2_with fail
  clear hcv cJ hc5 hc6 n1 n2 n3 hc2 hi hz0 hz1 hz2'
  go_loopw [6] (fun i wr => ∃ k : Nat, i = .int .i64 k ∧ k ≤ ys.length ∧ Below w3.heap.size w3 wr) (fun i _ => ys.length - (RowKit.intOf i).toNat)
  case atStart => exact ⟨0, rfl, Nat.zero_le _, below_drewN (Below.refl _ _) _⟩
  case round =>
    obtain ⟨k, rfl, hk, hBr⟩ := hrel
    have hBw := hB3.trans (hBr.mono hB3.size)
    by_cases hlt : k < ys.length
    · have gb : (k : Int) < ys.length := by omega
      have gb2 : (k : Int) < (ys.length : Int) + 2 := by omega
      obtain ⟨b, o, rfl, hcc⟩ := hA.at (by omega)
      have c1 := (hBr.cell (p := ⟨g, 0 + k, none⟩) hg2).trans (hcl k hlt)
      rw [Nat.zero_add] at c1
      have c2 := (hBw.cell (p := ⟨b, o + k, none⟩) (block_lt_of_cell (hcc k hlt))).trans (hcc k hlt)
      have n1 : (ys.getD k 0 != ys.getD k 0) = false := by simp
      clear hcc hcl
      generalize ys.getD k 0 = v at *
      go_wp2
      go_quiet (fail)
      go_wp2
      go_roundw
      case rel => exact ⟨k + 1, by go_num, by omega, below_drewN hBr _⟩
      case measure => simp [RowKit.intOf]; omega
    · have gb : ¬ (k : Int) < ys.length := by omega
      obtain ⟨w4, rfl⟩ : ∃ w4, w4 = wr := ⟨_, rfl⟩
      have cR := fun W => runes_any f m W hf (by omega)
      have cY := fun W => conv_runes f m W hf (by omega)
      have hln := Rn.chs_length f m hf
      have hle : (Rn.rl (Rn.chs f m hf)).length = (Rn.chs f m hf).length := by simp [Rn.rl]
      obtain ⟨L, hL⟩ : ∃ L, Rn.rl (Rn.chs f m hf) = L := ⟨_, rfl⟩
      simp only [hL] at cR cY
      rw [hL] at hle
      have hlm : L.length ≤ m := by omega
      have HL := hide' hL
      have HLE := hide' hle
      clear hcl hA hL hle hln
      go_wp2_with fail
      refine (cR w4).mono ?_
      rintro e w5 ⟨capx, rfl, x1, x2, hLx, hb5, hz5, cur, hcur, hcs⟩
      have hB5 := hBw.trans (hb5.mono hBw.size)
      obtain ⟨capy, W5, hcv, y1, y2, hLy, hb6, hz6, -⟩ := cY w5
      have hB6 := hB5.trans (hb6.mono hB5.size)
      have hcur6 := (hb6.block w4.heap.size (by omega)).trans hcur
      have hLx6 := hLx.below hb6 (Nat.le_refl _)
      clear hcur hLx hb5 hb6
      go_wp2_with fail
      refine (cR W5).mono ?_
      rintro e w7 ⟨capz, rfl, z1, z2, hLz, hb7, hz7, -⟩
      have hB7 := hB6.trans (hb7.mono hB6.size)
      have hcur7 := (hb7.block w4.heap.size (by omega)).trans hcur6
      have hLx7 := hLx6.below hb7 (Nat.le_refl _)
      have hLy7 := hLy.below hb7 (Nat.le_refl _)
      clear hcur6 hLx6 hLy hb7 hcv cR cY
      have hc0 : ∀ j (h : j < L.length), cur[j]? = some (.int .i32 (L[j] : Nat)) := fun j h => by
        have := hLx7 j h
        rw [Lib.cell_of_heap hcur7, Nat.zero_add] at this
        exact this
      clear hLx7
      have e6 : W5.heap.size = w4.heap.size + 1 + 1 := by omega
      have l1 : ((L.length : Int) != L.length) = false := by simp
      have m9 : capx ≤ 9223372036854775807 ∧ capy ≤ 9223372036854775807 ∧ capz ≤ 9223372036854775807 := by unfold maxLen at x2 y2 z2; omega
      go_wp2_with fail
      go_loopw [10] (fun i wr => ∃ (k : Nat) (cu : Array Value), i = .int .i64 k ∧ k ≤ L.length ∧ But w4.heap.size w7 wr ∧ wr.heap[w4.heap.size]? = some (.cells cu 21 (0, 0)) ∧ cu.size = capx ∧ ∀ j (h : j < L.length), k ≤ j → cu[j]? = some (.int .i32 (L[j] : Nat))) (fun i _ => L.length - (RowKit.intOf i).toNat)
      case atStart => exact ⟨0, cur, rfl, Nat.zero_le _, But.of_below (Below.refl _ _), hcur7, hcs, fun j h _ => hc0 j h⟩
      case round =>
        obtain ⟨k2, cu, rfl, hk2, hBu, hcu, hcz, hcc⟩ := hrel
        by_cases hlt2 : k2 < L.length
        · have gb2 : (k2 : Int) < L.length := by omega
          have c1 : wr.cell? ⟨w4.heap.size, k2, none⟩ = some (.int .i32 (L[k2] : Nat)) := by rw [Lib.cell_of_heap hcu]; exact hcc k2 hlt2 (Nat.le_refl _)
          have c2 := hLy7 k2 hlt2
          have c3 := hLz k2 hlt2
          rw [Nat.zero_add] at c2 c3
          have c2' := (World.cell?_of_block (a := ⟨w5.heap.size, k2, none⟩) (hBu.block w5.heap.size (by omega) (by omega))).trans c2
          have c3' := (World.cell?_of_block (a := ⟨W5.heap.size, k2, none⟩) (hBu.block W5.heap.size (by omega) (by omega))).trans c3
          have fx : wr.frozen? ⟨w4.heap.size, k2, none⟩ = false := Lib.frozen_of_heap hcu k2
          have hcu2 := Go.Joins.block_setCell (i := k2) hcu (.int .i32 0)
          have hBu2 := hBu.setCell (p := ⟨w4.heap.size, k2, none⟩) rfl (.int .i32 0)
          have hcc2 : ∀ j (h : j < L.length), k2 + 1 ≤ j → (cu.setIfInBounds k2 (.int .i32 0))[j]? = some (.int .i32 (L[j] : Nat)) := fun j h hj => by
            rw [Array.getElem?_setIfInBounds_ne (by omega)]
            exact hcc j h (by omega)
          have n1 : (((L[k2] : Nat) : Int) != (L[k2] : Nat)) = false := by simp
          clear c2 c3 hcc hLy7 hLz hcu hc0
          rw [hz5] at c2'
          rw [e6] at c3'
          have s2 : ∀ q, ((wr.drewN q).setCell ⟨w4.heap.size, k2, none⟩ (.int .i32 0)).cell? ⟨w4.heap.size + 1, k2, none⟩ = some (.int .i32 (L[k2] : Nat)) := fun q => (cell_other (by show w4.heap.size ≠ w4.heap.size + 1; omega) _).trans c2'
          have s3 : ∀ q, ((wr.drewN q).setCell ⟨w4.heap.size, k2, none⟩ (.int .i32 0)).cell? ⟨w4.heap.size + 1 + 1, k2, none⟩ = some (.int .i32 (L[k2] : Nat)) := fun q => (cell_other (by show w4.heap.size ≠ w4.heap.size + 1 + 1; omega) _).trans c3'
          generalize L[k2] = v at *
          go_wp2
          go_quiet (fail)
          go_wp2
          go_quiet (fail)
          go_wp2
          go_roundw
          case rel => exact ⟨k2 + 1, _, by go_num, by omega, ((hBu.drewN _).setCell (p := ⟨w4.heap.size, k2, none⟩) rfl _).drewN _, hcu2, by simp; omega, hcc2⟩
          case measure => simp [RowKit.intOf]; omega
        · have gb2 : ¬ (k2 : Int) < L.length := by omega
          have hBk : Below w.heap.size w wr := hB7.trans (hBu.below hBw.size hB7.size)
          obtain ⟨w8, rfl⟩ : ∃ w8, w8 = wr := ⟨_, rfl⟩
          have cAll : ∀ W, Calls Tryd.prog 34 #[.string (Rn.arr f m)] W fun e w' => e = .returned (.func (.func 50) #[] #[.pointer (some ⟨W.heap.size, 0, none⟩)]) ∧ w' = W.alloc (.cells #[.string (Rn.arr f m)] 9) := fun W => (callsIn_wide (n := 6)).1 (all_in Fence.wide _ trivial rfl _ W)
          clear hcc hcu hBu hLy7 hLz hc0 hcur7
          go_wp2_with fail
          refine (cAll w8).mono ?_
          rintro e w9 ⟨rfl, hw9⟩
          have hz9 : w9.heap.size = w8.heap.size + 1 := by rw [hw9]; simp
          have hB9 : Below w.heap.size w w9 := by rw [hw9]; exact hBk.alloc hBk.size _
          have hbx : w9.cell? ⟨w8.heap.size, 0, none⟩ = some (.string (Rn.arr f m)) := by rw [hw9, Lib.cell_of_heap (World.alloc_heap_new w8 _)]; rfl
          clear hw9 cAll hz9
          have hnf := eql_nilFunc w8.heap.size w9
          go_wp2_with fail
          clear hnf
          go_loopw [12, 13] (fun pl ch wr => ∃ (pos fuel : Nat) (pre : List (Rn.Chr m)), wr.heap[w9.heap.size]? = some (.stringIter (Rn.arr f m) pos) ∧ wr.ownsRow (w9.heap.size + 1) 3 1 pl pre.length (plcs pre) ∧ wr.ownsRow (w9.heap.size + 1) 21 1 ch pre.length (rcs pre) ∧ pre ++ Rn.chFrom f m hf fuel pos = Rn.chs f m hf ∧ m ≤ pos + fuel ∧ pre.length ≤ pos ∧ pos ≤ m ∧ Below w9.heap.size w9 wr) (fun _ _ wr => m - wr.iterPos w9.heap.size)
          case atStart =>
            exact ⟨0, m, [], World.alloc_heap_new w9 _, World.ownsRow_nil _ _ _ _, World.ownsRow_nil _ _ _ _, rfl, by omega, by simp, by omega, below_alloc1 w9 _⟩
          case round =>
            obtain ⟨pos, fuel, pre, hit, hop, hoc, hpre, hfu, hpl, hpm, hBr⟩ := hrel
            have hI : w9.heap.size < wr.heap.size := (Array.getElem?_eq_some_iff.1 hit).1
            by_cases hlt3 : pos < m
            · have hnx : ∀ ty, (Instr.next (.pointer (some ⟨w9.heap.size, 0, none⟩)) true ty).run Tryd.prog wr = _ := fun ty => Lib.run_next_any_at wr w9.heap.size (Rn.arr f m) pos ty hit (by rw [hsz]; exact hlt3)
              rw [Rn.arr_decode f m pos hf hlt3] at hnx
              obtain ⟨q, rfl⟩ : ∃ q, fuel = q + 1 := ⟨fuel - 1, by omega⟩
              unfold Rn.chFrom at hpre
              rw [dif_pos hlt3] at hpre
              obtain ⟨hd1, hd2, hd3⟩ := Rn.dec_pos (Rn.off f pos) (m - pos) (fun _ => hf _) (by omega)
              have hx4 := Rn.dec_lt (Rn.off f pos) (m - pos) (fun _ => hf _) (by omega)
              obtain ⟨x, hx⟩ : ∃ x : Rn.Chr m, x = ⟨(pos, (Rn.dec (Rn.off f pos) (m - pos)).1), hlt3, hx4⟩ := ⟨_, rfl⟩
              rw [← hx] at hpre
              have hx1 : x.1.1 = pos := by rw [hx]
              have hx2 : x.1.2 = (Rn.dec (Rn.off f pos) (m - pos)).1 := by rw [hx]
              clear hx
              have hit2 := Lib.iterAt_heap wr w9.heap.size (Rn.arr f m) pos (pos + (Rn.dec (Rn.off f pos) (m - pos)).2) hit
              have hop2 := owns_iter hop (I := w9.heap.size) (by omega) (Rn.arr f m) (pos + (Rn.dec (Rn.off f pos) (m - pos)).2)
              have hoc2 := owns_iter hoc (I := w9.heap.size) (by omega) (Rn.arr f m) (pos + (Rn.dec (Rn.off f pos) (m - pos)).2)
              have hB2 : Below w9.heap.size w9 (wr.iterAt w9.heap.size (Rn.arr f m) (pos + (Rn.dec (Rn.off f pos) (m - pos)).2)) := hBr.grown (grownBy_iterAt _ _ _ _) hBr.size (fun k hk => by cases hk; exact Nat.le_refl _)
              have hzn : (wr.iterAt w9.heap.size (Rn.arr f m) (pos + (Rn.dec (Rn.off f pos) (m - pos)).2)).heap.size = wr.heap.size := Lib.iterAt_size _ _ _ _
              generalize wr.iterAt w9.heap.size (Rn.arr f m) (pos + (Rn.dec (Rn.off f pos) (m - pos)).2) = Wn at *
              generalize (Rn.dec (Rn.off f pos) (m - pos)).1 = r at *
              generalize (Rn.dec (Rn.off f pos) (m - pos)).2 = d at *
              have HP := hide' hpre
              have HPOS : Hid (wr.iterPos w9.heap.size = pos) := by
                show wr.iterPos w9.heap.size = pos
                simp only [World.iterPos, hit]
              have HX1 := hide' hx1
              have HX2 := hide' hx2
              have hIn : w9.heap.size + 1 ≤ Wn.heap.size := by omega
              clear hpre hx1 hx2 hit hop hoc hBr hzn
              go_wp2_with (at_builtin; refine wpList_append_own _ rfl _ _ 65 rfl (w9.heap.size + 1) 3 i1 (.int .i64 0) 1 8 Tryd.underlying65 hi1 hy0 hy1 hy2 rfl (by decide) _ pre.length (plcs pre) rfl (hop2.alloc _) ⟨Wn.heap.size, 0, none⟩ 1 1 [.int .i64 pos] rfl rfl ?c1 ?c2 ?c3 ?c4 ?c5 ?_)
              case c1 => exact one_new Wn _ _
              case c2 => intro u hu; simp at hu; subst hu; rfl
              case c3 => unfold maxLen; omega
              case c4 => omega
              case c5 => simp; omega
              intro v3 wa hop3 hgrow _
              have hoc3 := (hoc2.alloc (.cells #[.int .i64 pos] 3)).kept hgrow (rows_ne hop2 hoc2 (by decide))
              have hba : Below w9.heap.size w9 wa := (hB2.alloc (by omega) _).grown hgrow (by simp; omega) (fun k hk => by have := (hop2.lt k hk).1; omega)
              have hit3 : wa.heap[w9.heap.size]? = some (.stringIter (Rn.arr f m) (pos + d)) := (hgrow.block w9.heap.size (by simp; omega) (fun e => by have := (hop2.lt _ e.symm).1; omega)).trans ((Below.heap_alloc Wn _ _ (by omega)).trans hit2)
              have hza : w9.heap.size + 1 ≤ wa.heap.size := by have := hgrow.size; simp at this; omega
              clear hgrow hop2 hoc2 hit2 hB2
              obtain ⟨i2, hi, hz0, hz1, hz2'⟩ := info_parts infoRune
              go_wp2_with (at_builtin; refine wpList_append_own _ rfl _ _ 59 rfl (w9.heap.size + 1) 21 i2 (.int .i32 0) 1 4 Tryd.underlying59 hi hz0 hz1 hz2' rfl (by decide) _ pre.length (rcs pre) rfl (hoc3.alloc _) ⟨wa.heap.size, 0, none⟩ 1 1 [.int .i32 r] rfl rfl ?d1 ?d2 ?d3 ?d4 ?d5 ?_)
              case d1 => exact one_new wa _ _
              case d2 => intro u hu; simp at hu; subst hu; rfl
              case d3 => unfold maxLen; omega
              case d4 => omega
              case d5 => simp; omega
              intro v4 wb hoc4 hgrow _
              have hop4 := (hop3.alloc (.cells #[.int .i32 r] 21)).kept hgrow (rows_ne hoc3 hop3 (by decide))
              have hbb : Below w9.heap.size w9 wb := (hba.alloc (by omega) _).grown hgrow (by simp; omega) (fun k hk => by have := (hoc3.lt k hk).1; omega)
              have hit4 : wb.heap[w9.heap.size]? = some (.stringIter (Rn.arr f m) (pos + d)) := (hgrow.block w9.heap.size (by simp; omega) (fun e => by have := (hoc3.lt _ e.symm).1; omega)).trans ((Below.heap_alloc wa _ _ (by omega)).trans hit3)
              have hop5 : wb.ownsRow (w9.heap.size + 1) 3 1 v3 (pre ++ [x]).length (plcs (pre ++ [x])) := by
                have e : plcs (pre ++ [x]) = plcs pre ++ [.int .i64 pos] := by simp [plcs, HX1.out]
                rw [e, List.length_append]
                exact hop4
              have hoc5 : wb.ownsRow (w9.heap.size + 1) 21 1 v4 (pre ++ [x]).length (rcs (pre ++ [x])) := by
                have e : rcs (pre ++ [x]) = rcs pre ++ [.int .i32 r] := by simp [rcs, HX2.out]
                rw [e, List.length_append]
                exact hoc4
              clear hgrow hop3 hoc3 hop4 hoc4 hit3 hba
              have hmx : m - wb.iterPos w9.heap.size < m - pos := by
                simp only [World.iterPos, hit4]
                omega
              have HMX := hide' hmx
              clear hmx
              go_wp2_with fail
              go_roundw
              case rel => exact ⟨pos + d, q, pre ++ [x], hit4, hop5, hoc5, by rw [List.append_assoc]; exact HP.out, by omega, by simp; omega, by omega, hbb⟩
              case measure =>
                rw [HPOS.out]
                exact HMX.out
            · have hnx : ∀ ty, (Instr.next (.pointer (some ⟨w9.heap.size, 0, none⟩)) true ty).run Tryd.prog wr = _ := fun ty => Lib.run_next_end_at wr w9.heap.size (Rn.arr f m) pos ty hit (by rw [hsz]; exact hlt3)
              rw [Rn.chFrom_end _ _ _ _ _ hlt3, List.append_nil] at hpre
              have hlen : pre.length = L.length := by rw [hpre]; exact HLE.out.symm
              obtain ⟨pp, capp, rfl, hpp⟩ := owns_slice hop
              obtain ⟨pc, capc, rfl, hpc⟩ := owns_slice hoc
              have hBf := hB9.trans (hBr.mono hB9.size)
              have hbxw : wr.cell? ⟨w8.heap.size, 0, none⟩ = some (.string (Rn.arr f m)) := (hBr.cell (p := ⟨w8.heap.size, 0, none⟩) (block_lt_of_cell hbx)).trans hbx
              have hrow : 0 < pre.length → ∃ gp gc, pp = some ⟨gp, 0, none⟩ ∧ pc = some ⟨gc, 0, none⟩ ∧ (∀ j (h : j < pre.length), wr.cell? ⟨gp, j, none⟩ = some (.int .i64 pre[j].1.1)) ∧ (∀ j (h : j < pre.length), wr.cell? ⟨gc, j, none⟩ = some (.int .i32 pre[j].1.2)) := fun h0 => by
                obtain ⟨gp, e1, h1⟩ := hpp h0
                obtain ⟨gc, e2, h2⟩ := hpc h0
                exact ⟨gp, gc, e1, e2, fun j hj => h1 j _ (by simp [plcs, hj]), fun j hj => h2 j _ (by simp [rcs, hj])⟩
              have cT : ∀ W M, Below wr.heap.size wr W → M ≤ pre.length → _ := fun W M hb hM => through_of f hf pre hpre w8.heap.size pre.length pp pc capp capc M W rfl hm ((hb.cell (p := ⟨w8.heap.size, 0, none⟩) (block_lt_of_cell hbxw)).trans hbxw) hM (fun h0 => by
                obtain ⟨gp, gc, e1, e2, h1, h2⟩ := hrow h0
                exact ⟨gp, gc, e1, e2, fun j hj => (hb.cell (p := ⟨gp, j, none⟩) (block_lt_of_cell (h1 j hj))).trans (h1 j hj), fun j hj => (hb.cell (p := ⟨gc, j, none⟩) (block_lt_of_cell (h2 j hj))).trans (h2 j hj)⟩)
              have cT1 := cT wr (pre.length / 2) (Below.refl _ _) (by omega)
              have cT2 := fun W hb => cT W pre.length hb (Nat.le_refl _)
              rw [show ((pre.length / 2 : Nat) : Int) = (pre.length : Int) / 2 by omega] at cT1
              clear cT hrow hpp hpc hop hoc hpre hlen
              go_wp2_with fail
              refine cT1.mono ?_
              rintro e wc ⟨rfl, hbc⟩
              have hBc := hBf.trans (hbc.mono hBf.size)
              go_wp2_with fail
              refine (cT2 wc hbc).mono ?_
              rintro e wd ⟨rfl, hbd⟩
              go_wp2_with fail
              go_ret
              exact ⟨rfl, hBc.trans (hbd.mono hBc.size)⟩
end Go.Proofs.YtacmenmneilamaaDoor
