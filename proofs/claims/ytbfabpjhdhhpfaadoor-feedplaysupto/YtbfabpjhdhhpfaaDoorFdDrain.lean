/-
  THE WALK over gimletlaw04.drain: the characters that a Feed gives, and how it stops.
-/
import Derived.Test.YtbfabpjhdhhpfaaDoorFdPush
namespace Go.Proofs.YtbfabpjhdhhpfaaDoor
open Go.RowKit Go.Lib

namespace Fd
open Rn
/-- the characters that are taken one behind the other: rune, place, width -/
def tk (F : Nat → Nat) (N : Nat) (E : Bool) : Nat → Nat → (Nat × Nat × Nat) → List (Nat × Nat × (Nat × Nat × Nat) × Nat)
  | 0, _, _ => []
  | m + 1, T, p => if (pk F N T E).2.2.2 = 0 then ((pk F N T E).1, T, p, (pk F N T E).2.2.1) :: tk F N E m (T + (pk F N T E).2.2.1) (adv (pk F N T E) p) else []
/-- and where it stands then -/
def tkE (F : Nat → Nat) (N : Nat) (E : Bool) : Nat → Nat → (Nat × Nat × Nat) → Nat × (Nat × Nat × Nat)
  | 0, T, p => (T, p)
  | m + 1, T, p => if (pk F N T E).2.2.2 = 0 then tkE F N E m (T + (pk F N T E).2.2.1) (adv (pk F N T E) p) else (T, p)
theorem pk_end (F : Nat → Nat) (N T : Nat) (E : Bool) (h : N ≤ T) : (pk F N T E).2.2.2 ≠ 0 := by
  unfold pk
  rw [if_neg (by simp [whole, fs, show N - T = 0 by omega]), if_pos h]
  cases E <;> simp
theorem pk_pos {F : Nat → Nat} {N T : Nat} {E : Bool} (h : (pk F N T E).2.2.2 = 0) : 0 < (pk F N T E).2.2.1 ∧ T + (pk F N T E).2.2.1 ≤ N ∧ T < N := by
  have hx : pk F N T E = ((pk F N T E).1, (pk F N T E).2.1, (pk F N T E).2.2.1, 0) := by rw [← h]
  obtain ⟨_, h1, h2, _, _, h3⟩ := pk_have hx
  have hl := whole_lt h3
  have hb := (pk_bound F N T E).2 (by omega)
  exact ⟨h1, hb, by omega⟩
theorem tk_fuel (F : Nat → Nat) (N : Nat) (E : Bool) : ∀ (a b T : Nat) (p : Nat × Nat × Nat), N ≤ T + a → N ≤ T + b → tk F N E a T p = tk F N E b T p ∧ tkE F N E a T p = tkE F N E b T p
  | 0, 0, T, p, _, _ => ⟨rfl, rfl⟩
  | 0, b + 1, T, p, h, _ => by
    have := pk_end F N T E (by omega)
    unfold tk tkE
    rw [if_neg this, if_neg this]
    exact ⟨rfl, rfl⟩
  | a + 1, 0, T, p, _, h => by
    have := pk_end F N T E (by omega)
    unfold tk tkE
    rw [if_neg this, if_neg this]
    exact ⟨rfl, rfl⟩
  | a + 1, b + 1, T, p, ha, hb => by
    unfold tk tkE
    by_cases h0 : (pk F N T E).2.2.2 = 0
    · have hp := pk_pos h0
      obtain ⟨e1, e2⟩ := tk_fuel F N E a b (T + (pk F N T E).2.2.1) (adv (pk F N T E) p) (by omega) (by omega)
      rw [if_pos h0, if_pos h0, if_pos h0, if_pos h0, e1, e2]
      exact ⟨rfl, rfl⟩
    · rw [if_neg h0, if_neg h0, if_neg h0, if_neg h0]
      exact ⟨rfl, rfl⟩
theorem tk_step {F : Nat → Nat} {N T : Nat} {E : Bool} (p : Nat × Nat × Nat) (h0 : (pk F N T E).2.2.2 = 0) :
    tk F N E (N - T) T p = ((pk F N T E).1, T, p, (pk F N T E).2.2.1) :: tk F N E (N - (T + (pk F N T E).2.2.1)) (T + (pk F N T E).2.2.1) (adv (pk F N T E) p) ∧
    tkE F N E (N - T) T p = tkE F N E (N - (T + (pk F N T E).2.2.1)) (T + (pk F N T E).2.2.1) (adv (pk F N T E) p) := by
  have hp := pk_pos h0
  obtain ⟨m, hm⟩ : ∃ m, N - T = m + 1 := ⟨N - T - 1, by omega⟩
  obtain ⟨e1, e2⟩ := tk_fuel F N E m (N - (T + (pk F N T E).2.2.1)) (T + (pk F N T E).2.2.1) (adv (pk F N T E) p) (by omega) (by omega)
  rw [← e1, ← e2, hm]
  constructor
  · show (if _ then _ else _) = _
    rw [if_pos h0]
  · show (if _ then _ else _) = _
    rw [if_pos h0]
theorem tk_stop {F : Nat → Nat} {N T : Nat} {E : Bool} (p : Nat × Nat × Nat) (h0 : (pk F N T E).2.2.2 ≠ 0) : tk F N E (N - T) T p = [] ∧ tkE F N E (N - T) T p = (T, p) := by
  cases N - T with
  | zero => exact ⟨rfl, rfl⟩
  | succ m =>
    constructor
    · show (if _ then _ else _) = _
      rw [if_neg h0]
    · show (if _ then _ else _) = _
      rw [if_neg h0]
/-- what Peek answers beside a character -/
def pkY (x : Nat × Nat × Nat × Nat) (T : Nat) (p : Nat × Nat × Nat) : Nat × Nat × Nat × Nat :=
  if x.2.2.2 = 2 then (T + x.2.1, p.1 + x.2.1, p.2.1, p.2.2 + x.2.1) else (0, 0, 0, 0)
theorem pkV_no {x : Nat × Nat × Nat × Nat} (T : Nat) (p : Nat × Nat × Nat) (h : x.2.2.2 ≠ 0) : pkV x T p.1 p.2.1 p.2.2 = .tuple #[.agg #[.int .i32 (0 : Nat), .int .i64 (pkY x T p).1, .int .i64 (pkY x T p).2.1, .int .i64 (pkY x T p).2.2.1, .int .i64 (pkY x T p).2.2.2, .int .i64 (0 : Nat)], .int .i64 x.2.2.2] := by
  unfold pkV pkY
  rw [if_neg h]
  by_cases h2 : x.2.2.2 = 2
  · rw [if_pos h2, if_pos h2, h2]; rfl
  · rw [if_neg h2, if_neg h2]; rfl
theorem pkV_have {x : Nat × Nat × Nat × Nat} (T : Nat) (p : Nat × Nat × Nat) (h : x.2.2.2 = 0) : pkV x T p.1 p.2.1 p.2.2 = .tuple #[.agg #[.int .i32 x.1, .int .i64 T, .int .i64 p.1, .int .i64 p.2.1, .int .i64 p.2.2, .int .i64 x.2.2.1], .int .i64 (0 : Nat)] := by
  unfold pkV
  rw [if_pos h]
  rfl
end Fd
/-- a character's cells -/
def fcOne (x : Nat × Nat × (Nat × Nat × Nat) × Nat) : List Value := [.int .i32 x.1, .int .i64 x.2.1, .int .i64 x.2.2.1.1, .int .i64 x.2.2.1.2.1, .int .i64 x.2.2.1.2.2, .int .i64 x.2.2.2]
def fcCells (l : List (Nat × Nat × (Nat × Nat × Nat) × Nat)) : List Value := l.flatMap fcOne
theorem fcCells_append (l m : List (Nat × Nat × (Nat × Nat × Nat) × Nat)) : fcCells (l ++ m) = fcCells l ++ fcCells m := by simp [fcCells]
theorem fcCells_length (l : List (Nat × Nat × (Nat × Nat × Nat) × Nat)) : (fcCells l).length = l.length * 6 := by
  induction l with
  | nil => rfl
  | cons a l ih =>
    have : fcCells (a :: l) = fcOne a ++ fcCells l := by simp [fcCells]
    rw [this, List.length_append, ih]
    simp [fcOne]
    omega
theorem infoFc : (Tryd.prog.info? 36).map (fun i => (i.zero, i.size, i.bytes)) = some (some (.agg #[.int .i32 0, .int .i64 0, .int .i64 0, .int .i64 0, .int .i64 0, .int .i64 0]), 6, 48) := by kernel_rfl
theorem fc_news (W : World) (a0 a1 a2 a3 a4 a5 : Nat) (K : Nat) (hK : K = W.heap.size) : ∀ j u, ([.int .i32 a0, .int .i64 a1, .int .i64 a2, .int .i64 a3, .int .i64 a4, .int .i64 a5] : List Value)[j]? = some u → (W.alloc (.cells #[.int .i32 a0, .int .i64 a1, .int .i64 a2, .int .i64 a3, .int .i64 a4, .int .i64 a5] 36)).cell? (Addr.add ⟨K, 0, none⟩ j) = some u := by
  intro j u hj
  subst hK
  match j, hj with
  | 0, hj => simp at hj; subst hj; simp [Addr.add]
  | 1, hj => simp at hj; subst hj; simp [Addr.add]
  | 2, hj => simp at hj; subst hj; simp [Addr.add]
  | 3, hj => simp at hj; subst hj; simp [Addr.add]
  | 4, hj => simp at hj; subst hj; simp [Addr.add]
  | 5, hj => simp at hj; subst hj; simp [Addr.add]
  | (j + 6), hj => simp at hj
theorem fc_cell (a0 a1 a2 a3 a4 a5 : Nat) : ∀ u ∈ ([.int .i32 a0, .int .i64 a1, .int .i64 a2, .int .i64 a3, .int .i64 a4, .int .i64 a5] : List Value), u.oneCell' = true := by
  intro u hu
  simp at hu
  rcases hu with rfl | rfl | rfl | rfl | rfl | rfl <;> rfl
theorem But.row {D B : Nat} {w w' : World} (h : But D w w') {e : TypeId} {k : Nat} {u : Value} {n : Nat} {ys : List Value} (ho : w.ownsRow B e k u n ys) (hD : D < B) : w'.ownsRow B e k u n ys :=
  kept_grown ho fun q hq => h.block q (ho.lt q hq).2 (by have := (ho.lt q hq).1; omega)

theorem tabs_keep {w w' : World} (hT : Lib.Utf8Tabs 0 1 w) (hb : ∀ k, k = 0 ∨ k = 1 → w'.heap[k]? = w.heap[k]?) : Lib.Utf8Tabs 0 1 w' := by
  constructor
  · intro c hc
    exact (World.cell?_of_block (a := ⟨0, c, none⟩) (hb _ (.inl rfl))).trans (hT.1 c hc)
  · intro i hi
    obtain ⟨e1, e2⟩ := hT.2 i hi
    exact ⟨(World.cell?_of_block (a := ⟨1, 2 * i, none⟩) (hb _ (.inr rfl))).trans e1, (World.cell?_of_block (a := ⟨1, 2 * i + 1, none⟩) (hb _ (.inr rfl))).trans e2⟩

/-- what drain answers -/
def drainV (F : Nat → Nat) (N : Nat) (E : Bool) (out : Value) (S : Nat × (Nat × Nat × Nat)) : Value :=
  .tuple #[out, .agg #[.int .i32 (0 : Nat), .int .i64 (Fd.pkY (Fd.pk F N S.1 E) S.1 S.2).1, .int .i64 (Fd.pkY (Fd.pk F N S.1 E) S.1 S.2).2.1, .int .i64 (Fd.pkY (Fd.pk F N S.1 E) S.1 S.2).2.2.1, .int .i64 (Fd.pkY (Fd.pk F N S.1 E) S.1 S.2).2.2.2, .int .i64 (0 : Nat)], .int .i64 (Fd.pk F N S.1 E).2.2.2]

set_option maxRecDepth 100000 in
set_option maxHeartbeats 2000000 in
theorem drain_any {w : World} {D B : Nat} {F : Nat → Nat} {N T : Nat} {E : Bool} {v : Value} {p : Nat × Nat × Nat} (hT : Lib.Utf8Tabs 0 1 w) (hBB : 0 < D ∧ 1 < D) (hF : ∀ j, F j < 256) (h : Feed w D B F N T E v p) (most : Nat) (hmost : N - T < most) (hm2 : most ≤ 9223372036854775807) (hbig : (N - T) * 48 ≤ 140737488355328) :
    Calls Tryd.prog 19 #[.pointer (some ⟨D, 0, none⟩), .int .i64 most] w fun e w' => ∃ out, e = .returned (drainV F N E out (Fd.tkE F N E (N - T) T p)) ∧ w'.ownsRow (w.heap.size + 1) 36 6 out (Fd.tk F N E (N - T) T p).length (fcCells (Fd.tk F N E (N - T) T p)) ∧ Feed w' D B F N (Fd.tkE F N E (N - T) T p).1 E v (Fd.tkE F N E (N - T) T p).2 ∧ (Fd.pk F N (Fd.tkE F N E (N - T) T p).1 E).2.2.2 ≠ 0 ∧ But D w w' := by
  obtain ⟨i0, hi, hz0, hz1, hz2⟩ := info_parts infoFc
  have hDlt := h.lt
  have hrow := hide' h.row
  have HX := hide' (⟨h, hT⟩ : Feed w D B F N T E v p ∧ Lib.Utf8Tabs 0 1 w)
  clear h hT
  go_enter Tryd.func19, Tryd.ntmps19
  go_wp2
  go_loopw [7, 8] (fun out i wr => ∃ (T' : Nat) (p' : Nat × Nat × Nat) (pre : List (Nat × Nat × (Nat × Nat × Nat) × Nat)), i = .int .i64 pre.length ∧ wr.ownsRow (w.heap.size + 1) 36 6 out pre.length (fcCells pre) ∧ Feed wr D B F N T' E v p' ∧ pre ++ Fd.tk F N E (N - T') T' p' = Fd.tk F N E (N - T) T p ∧ Fd.tkE F N E (N - T') T' p' = Fd.tkE F N E (N - T) T p ∧ T + pre.length ≤ T' ∧ T' ≤ N ∧ But D w wr ∧ wr.heap[w.heap.size]? = some (.cells #[.int .i32 0, .int .i64 0, .int .i64 0, .int .i64 0, .int .i64 0, .int .i64 0] 36 (0, 0)) ∧ Lib.Utf8Tabs 0 1 wr) (fun _ i _ => most - (RowKit.intOf i).toNat)
  case atStart =>
    have hb : Below w.heap.size w (w.alloc (.cells #[.int .i32 0, .int .i64 0, .int .i64 0, .int .i64 0, .int .i64 0, .int .i64 0] 36)) := (Below.refl _ _).alloc (Nat.le_refl _) _
    exact ⟨T, p, [], rfl, World.ownsRow_nil _ _ _ _, HX.out.1.below hb, rfl, rfl, Nat.le_refl _, HX.out.1.taken, .of_below hb, (by show (w.heap.push _)[w.heap.size]? = _; simp), tabs_below HX.out.2 hb (Nat.le_refl _)⟩
  case round =>
    obtain ⟨T', p', pre, rfl, hown, hFe, hpre, hpe, hle, hTN, hBu, hR, hT1⟩ := hrel
    have hlt : pre.length < most := by omega
    have g1 : (pre.length : Int) < most := by omega
    have hs : w.heap.size < wr.heap.size := (Array.getElem?_eq_some_iff.1 hR).1
    have cN := feedNext_abs hT1 hF hFe
    by_cases h0 : (Fd.pk F N T' E).2.2.2 = 0
    · obtain ⟨q1, q2, q3⟩ := Fd.pk_pos h0
      obtain ⟨e1, e2⟩ := Fd.tk_step p' h0
      rw [Fd.pkV_have T' p' h0] at cN
      rw [e1] at hpre
      rw [e2] at hpe
      generalize Fd.adv (Fd.pk F N T' E) p' = p2 at *
      generalize (Fd.pk F N T' E).2.2.1 = z at *
      generalize (Fd.pk F N T' E).1 = r at *
      have HP := hide' (And.intro hpre hpe)
      have HBu := hide' hBu
      have HR := hide' hR
      have HO := hide' hown
      have HT1 := hide' hT1
      clear hpre hpe hBu hR hT1 hFe e1 e2 h0 hown hlt
      go_wp2_with fail
      refine cN.mono ?_
      rintro e w1 ⟨rfl, hF1, hb1⟩
      have ho1 := hb1.row HO.out (by omega)
      have hs1 := hb1.size
      have hBu1 := HBu.out.trans hb1
      have hR1 := (hb1.block w.heap.size hs (by omega)).trans HR.out
      have HF1 := hide' hF1
      have HT2 := hide' (tabs_but (v := .slice none 0 0) HT1.out (.of_but hb1) hBB (fun q e => by cases e))
      have HB1 := hide' (And.intro hBu1 hR1)
      clear cN hF1 hBu1 hR1 HBu HR HO HT1 hb1
      go_wp2_with (at_builtin; refine wpList_append_own _ rfl _ _ 47 rfl (w.heap.size + 1) 36 i0 (.agg #[.int .i32 0, .int .i64 0, .int .i64 0, .int .i64 0, .int .i64 0, .int .i64 0]) 6 48 Tryd.underlying47 hi hz0 hz1 hz2 rfl (by decide) _ pre.length (fcCells pre) rfl ((ho1.alloc _).alloc _) ⟨w1.heap.size + 1, 0, none⟩ 1 1 [.int .i32 (r : Nat), .int .i64 (T' : Nat), .int .i64 (p'.1 : Nat), .int .i64 (p'.2.1 : Nat), .int .i64 (p'.2.2 : Nat), .int .i64 (z : Nat)] rfl rfl ?c1 ?c2 ?c3 ?c4 ?c5 ?_)
      case c1 => exact fc_news _ r T' p'.1 p'.2.1 p'.2.2 z _ (by simp)
      case c2 => exact fc_cell r T' p'.1 p'.2.1 p'.2.2 z
      case c3 => unfold maxLen; omega
      case c4 => omega
      case c5 => simp; omega
      intro v' w3 hown' hgrow _
      have hx3 : ∀ k, k ≤ w.heap.size → w3.heap[k]? = w1.heap[k]? := fun k hk => (hgrow.block k (by simp; omega) (fun e => by have := (ho1.lt k e.symm).1; omega)).trans ((Below.heap_alloc _ _ k (by simp; omega)).trans (Below.heap_alloc _ _ k (by omega)))
      have hsz3 : w1.heap.size ≤ w3.heap.size := by have := hgrow.size; simp at this; omega
      have hB3 : But D w w3 := ⟨hgrow.os.trans HB1.out.1.os, hgrow.tape.trans HB1.out.1.tape, hgrow.output.trans HB1.out.1.output, Nat.le_trans HB1.out.1.size hsz3, fun k hk hn => (hx3 k (by omega)).trans (HB1.out.1.block k hk hn)⟩
      have hR3 := (hx3 w.heap.size (Nat.le_refl _)).trans HB1.out.2
      have hF3 := HF1.out.keep (hx3 D (by omega)) (fun q hq => hx3 q (by have := (hrow.out q hq).2; omega))
      have hT3 := tabs_keep HT2.out (fun k hk => hx3 k (by omega))
      have hown3 : w3.ownsRow (w.heap.size + 1) 36 6 v' (pre ++ [(r, T', p', z)]).length (fcCells (pre ++ [(r, T', p', z)])) := by
        rw [fcCells_append, List.length_append]; exact hown'
      clear ho1 hown' hgrow hx3 HF1 HT2 HB1
      go_wp2_with fail
      go_roundw
      case rel => exact ⟨T' + z, p2, pre ++ [(r, T', p', z)], (by rw [List.length_append]; rfl), hown3, hF3, (by rw [List.append_assoc]; exact HP.out.1), HP.out.2, (by simp; omega), (by omega), hB3, hR3, hT3⟩
      case measure => simp [RowKit.intOf]; omega
    · obtain ⟨e1, e2⟩ := Fd.tk_stop p' h0
      rw [Fd.pkV_no T' p' h0] at cN
      rw [Fd.pk_no h0] at cN
      rw [e1, List.append_nil] at hpre
      rw [e2] at hpe
      have HP := hide' hpre
      have HPE := hide' hpe
      have eA : Fd.adv (Fd.pk F N T' E) p' = p' := by unfold Fd.adv; rw [if_neg h0]
      rw [eA] at cN
      have hnz : (((Fd.pk F N T' E).2.2.2 : Int) != 0) = true := by simp; omega
      have HN0 := hide' h0
      have HBu := hide' hBu
      have HR := hide' hR
      have HO := hide' hown
      clear hBu hR hT1 hFe e1 e2 h0 hown hlt eA hpre hpe
      go_wp2_with fail
      refine cN.mono ?_
      rintro e w1 ⟨rfl, hF1, hb1⟩
      have ho1 := hb1.row HO.out (by omega)
      have hs1 := hb1.size
      have hBu1 := HBu.out.trans hb1
      have hR1 := (hb1.block w.heap.size hs (by omega)).trans HR.out
      have HF1 := hide' hF1
      have HB1 := hide' hBu1
      have HO1 := hide' ho1
      have hne : ¬ w1.heap.size = w.heap.size := by omega
      have hsx : w.heap.size < w1.heap.size := by omega
      have r0 : w1.cell? ⟨w.heap.size, 0, none⟩ = some (.int .i32 0) := by rw [Lib.cell_of_heap hR1]; rfl
      have r1 : w1.cell? ⟨w.heap.size, 1, none⟩ = some (.int .i64 0) := by rw [Lib.cell_of_heap hR1]; rfl
      have r2 : w1.cell? ⟨w.heap.size, 2, none⟩ = some (.int .i64 0) := by rw [Lib.cell_of_heap hR1]; rfl
      have r3 : w1.cell? ⟨w.heap.size, 3, none⟩ = some (.int .i64 0) := by rw [Lib.cell_of_heap hR1]; rfl
      have r4 : w1.cell? ⟨w.heap.size, 4, none⟩ = some (.int .i64 0) := by rw [Lib.cell_of_heap hR1]; rfl
      have r5 : w1.cell? ⟨w.heap.size, 5, none⟩ = some (.int .i64 0) := by rw [Lib.cell_of_heap hR1]; rfl
      have rz0 : w1.frozen? ⟨w.heap.size, 0, none⟩ = false := Lib.frozen_of_heap hR1 0
      have rz1 : w1.frozen? ⟨w.heap.size, 1, none⟩ = false := Lib.frozen_of_heap hR1 1
      have rz2 : w1.frozen? ⟨w.heap.size, 2, none⟩ = false := Lib.frozen_of_heap hR1 2
      have rz3 : w1.frozen? ⟨w.heap.size, 3, none⟩ = false := Lib.frozen_of_heap hR1 3
      have rz4 : w1.frozen? ⟨w.heap.size, 4, none⟩ = false := Lib.frozen_of_heap hR1 4
      have rz5 : w1.frozen? ⟨w.heap.size, 5, none⟩ = false := Lib.frozen_of_heap hR1 5
      clear cN hF1 hBu1 hR1 HBu HR HO hb1 ho1
      go_wp2
      go_region
      go_wp2
      refine bodyPost_ret (v := drainV F N E u7 (T', p')) (by simp [drainV, results, Tryd.results19, go_sem, World.cell?_alloc_lt, hsx, r0, r1, r2, r3, r4, r5]) rfl ?_
      have key : ∀ W', But w.heap.size w1 W' → ∃ out, Ending.returned (drainV F N E u7 (T', p')) = .returned (drainV F N E out (Fd.tkE F N E (N - T) T p)) ∧ W'.ownsRow (w.heap.size + 1) 36 6 out (Fd.tk F N E (N - T) T p).length (fcCells (Fd.tk F N E (N - T) T p)) ∧ Feed W' D B F N (Fd.tkE F N E (N - T) T p).1 E v (Fd.tkE F N E (N - T) T p).2 ∧ (Fd.pk F N (Fd.tkE F N E (N - T) T p).1 E).2.2.2 ≠ 0 ∧ But D w W' := by
        intro W' hX
        rw [← HPE.out, ← HP.out]
        refine ⟨u7, rfl, hX.row HO1.out (by omega), HF1.out.keep (hX.block D (by omega) (by omega)) (fun q hq => hX.block q (by have := (hrow.out q hq).2; omega) (by have := (hrow.out q hq).2; omega)), HN0.out, ?_⟩
        exact ⟨hX.os.trans HB1.out.os, hX.tape.trans HB1.out.tape, hX.output.trans HB1.out.output, Nat.le_trans HB1.out.size hX.size, fun k hk hn => (hX.block k (by omega) (by omega)).trans (HB1.out.block k hk hn)⟩
      exact key _ (((((((But.of_below (Below.refl _ _)).setCell (p := ⟨w.heap.size, 0, none⟩) rfl _).setCell (p := ⟨w.heap.size, 1, none⟩) rfl _).setCell (p := ⟨w.heap.size, 2, none⟩) rfl _).setCell (p := ⟨w.heap.size, 3, none⟩) rfl _).setCell (p := ⟨w.heap.size, 4, none⟩) rfl _).setCell (p := ⟨w.heap.size, 5, none⟩) rfl _ |>.then (((Below.refl _ _).alloc (by simp) _).drew))
end Go.Proofs.YtbfabpjhdhhpfaaDoor
