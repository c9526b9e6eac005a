/-
  Rows of numbers: append of one to another; THE WALK over gimletlaw09.ints at two rows that say the same.
-/
import Derived.Test.YtfkmeghddobgcaaDoorTrColl
import Derived.Maps.AppendAt
import Derived.Laws.AppendOwnNone
import Derived.Deep.QuietTactic
import Derived.BigQuiet
namespace Go.Proofs.YtfkmeghddobgcaaDoor
open Go.RowKit Go.Shelf Go.Lib
namespace Tr
/-- a row of numbers of one's own -/
def IO (W : World) (B : Nat) (v : Value) (l : List Int) : Prop := W.ownsRow B 3 1 v l.length (ic l)
/-- a row of numbers, to be read -/
def IRow (W : World) (v : Value) (n : Nat) (l : List Int) : Prop := ∃ p cap, v = .slice p n cap ∧ n ≤ cap ∧ cap ≤ 9223372036854775807 ∧ l.length = n ∧ (0 < n → ∃ b o, p = some ⟨b, o, none⟩ ∧ ∀ i x, l[i]? = some x → W.cell? ⟨b, o + i, none⟩ = some (.int .i64 x))
theorem IO.row {W : World} {B : Nat} {v : Value} {l : List Int} (h : IO W B v l) : IRow W v l.length l := by
  obtain ⟨p, cap, rfl, h1, h2, h3, h4⟩ := owns_sl h
  refine ⟨p, cap, rfl, h1, h2, rfl, fun h0 => ?_⟩
  obtain ⟨g, rfl⟩ := h3 h0
  refine ⟨g, 0, rfl, fun i x hx => ?_⟩
  have := h.cells (g := g) rfl i _ (ic_get l i x hx)
  rw [Go.WideShapes.add_plain] at this
  exact this
theorem IO.below {W W' : World} {B : Nat} {v : Value} {l : List Int} (h : IO W B v l) (hb : Below W.heap.size W W') : IO W' B v l := owns_block h (fun g _ hl => hb.block g hl)
theorem IRow.below {W W' : World} {v : Value} {n : Nat} {l : List Int} (h : IRow W v n l) (hb : Below W.heap.size W W') : IRow W' v n l := by
  obtain ⟨p, cap, rfl, h1, h2, h3, h4⟩ := h
  refine ⟨p, cap, rfl, h1, h2, h3, fun h0 => ?_⟩
  obtain ⟨b, o, rfl, hc⟩ := h4 h0
  exact ⟨b, o, rfl, fun i x hx => (hb.cell (p := ⟨b, o + i, none⟩) (block_lt_of_cell (hc i x hx))).trans (hc i x hx)⟩
/-- append of a row of numbers to one of one's own, where the guard says yes -/
theorem append_ints {w : World} {ops : Array Oper} {rest : List Oper} {o : Oper} {a : Act} {Q : Exit → Act → World → Prop} (hw : Region.wanted o (yielded ops a.tmps) = true) (s x : Operand)
    (ho : o.op = .call { callee := .builtin .append, args := #[s, x], argTypes := #[52, 52] }) (base base2 : Nat) (v u : Value) (l m : List Int) (hs : a.eval s = v) (hown : IO w base v l) (hx : a.eval x = u) (hu : IO w base2 u m) (hb : l.length + m.length ≤ 1000000) (hbase : base ≤ w.heap.size)
    (h : ∀ v' w', IO w' base v' (l ++ m) → w.grownBy w' v.ownBlock → wpList Tryd.prog ops Q rest (a.put o.dst v') w') : wpList Tryd.prog ops Q (o :: rest) a w := by
  obtain ⟨i0, hi, hz0, hz1, hz2⟩ := info_parts intInfo
  refine wpList_step fun K hK => ?_
  rw [if_pos hw]
  have hR : ∃ v' w', (Builtin.append_ #[52, 52] o.type #[v, u]).run Tryd.prog w = .ok v' w' ∧ IO w' base v' (l ++ m) ∧ w.grownBy w' v.ownBlock := by
    rcases hu.2 with ⟨rfl, e⟩ | ⟨g, cap, cur, rfl, _⟩
    · have hn : m = [] := List.eq_nil_of_length_eq_zero e
      subst hn
      rw [List.append_nil]
      exact ⟨v, w, run_append_owned_none w base 52 o.type 3 i0 1 Tryd.underlying52 hi v _ _ hown, hown, ⟨rfl, rfl, rfl, Nat.le_refl _, fun _ _ _ => rfl⟩⟩
    · obtain ⟨v', w', hr, h2, h3, _⟩ := run_append_own (P := Tryd.prog) w base 52 o.type 3 i0 (.int .i64 0) 1 8 Tryd.underlying52 hi hz0 hz1 hz2 rfl (by decide) v _ _ hown ⟨g, 0, none⟩ m.length cap (ic m) (by rw [ic_length]; omega) (hu.cells (g := g) rfl) (ic_one m) (by unfold maxLen; omega) (by omega) hbase
      refine ⟨v', w', hr, ?_, h3⟩
      unfold IO
      rw [List.length_append, ic_app]
      exact h2
  obtain ⟨v', w', hr, h2, h3⟩ := hR
  unfold Oper.wp execOp
  simp only [ho, resolve, invoke, builtin, Sem.run_bind, Sem.run_pure, Result.andThen_ok, List.map_toArray, List.map_cons, List.map_nil, hs, hx, hr]
  exact hK _ _ (h v' w' h2 h3)
end Tr
set_option maxHeartbeats 1000000 in
theorem trInts (W : World) (va vb : Value) (n : Nat) (l : List Int) (ha : Tr.IRow W va n l) (hb : Tr.IRow W vb n l) (hn : n ≤ 1000000) :
    Calls Tryd.prog 22 #[va, vb] W fun e w' => e = .returned (.bool true) ∧ Below W.heap.size W w' := by
  obtain ⟨p, cap, rfl, ha1, ha2, hl, hac⟩ := ha
  obtain ⟨p', cap', rfl, hb1, hb2, -, hbc⟩ := hb
  have HA := hide' hac
  have HB := hide' hbc
  have HL := hide' hl
  clear hac hbc hl ha1 ha2 hb1 hb2
  go_enter Tryd.func22, Tryd.ntmps22
  go_wp2
  go_loopw [5] (fun v wr => ∃ i : Nat, v = .int .i64 i ∧ i ≤ n ∧ Hid (Below W.heap.size W wr)) (fun v _ => n - (RowKit.intOf v).toNat)
  case atStart => exact ⟨0, rfl, Nat.zero_le _, Below.refl _ _⟩
  case round =>
    obtain ⟨i, rfl, hi, HW⟩ := hrel
    by_cases hlt : i < n
    · obtain ⟨b1, o1, rfl, hc1⟩ := HA.out (by omega)
      obtain ⟨b2, o2, rfl, hc2⟩ := HB.out (by omega)
      obtain ⟨x, hx⟩ : ∃ x, l[i]? = some x := ⟨_, List.getElem?_eq_getElem (by have := HL.out; omega)⟩
      have k1 : wr.cell? ⟨b1, o1 + i, none⟩ = some (.int .i64 x) := (HW.out.cell (p := ⟨b1, o1 + i, none⟩) (block_lt_of_cell (hc1 i x hx))).trans (hc1 i x hx)
      have k2 : wr.cell? ⟨b2, o2 + i, none⟩ = some (.int .i64 x) := (HW.out.cell (p := ⟨b2, o2 + i, none⟩) (block_lt_of_cell (hc2 i x hx))).trans (hc2 i x hx)
      have t1 : (i : Int) < (n : Int) := by omega
      have t0 : (0 : Int) ≤ i := by omega
      have tw : IntKind.i64.wrap ((i : Int) + 1) = (i : Int) + 1 := by rw [IntKind.wrap_i64]; omega
      clear hc1 hc2 hx HA HB HL
      go_wp2
      go_quiet (fail)
      go_wp2
      go_roundw
      case rel => exact ⟨i + 1, rfl, by omega, below_drewN HW.out _⟩
      case measure => simp [RowKit.intOf]; omega
    · have t1 : ¬ (i : Int) < (n : Int) := by omega
      go_wp2
      go_ret
      exact ⟨rfl, HW.out⟩
end Go.Proofs.YtfkmeghddobgcaaDoor
