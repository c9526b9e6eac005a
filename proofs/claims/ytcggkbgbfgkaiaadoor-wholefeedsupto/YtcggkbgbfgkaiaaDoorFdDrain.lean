/-
  THE WALK over gimletlaw04.drain: the characters that a Feed gives, and how it stops.
-/
import Derived.Test.YtcggkbgbfgkaiaaDoorFdPush
namespace Go.Proofs.YtcggkbgbfgkaiaaDoor
open Go.RowKit Go.Lib

namespace Fd
open Rn
/-- the characters that are taken one behind the other: rune, place, width -/
def tk (F : Nat → Nat) (N : Nat) (E : Bool) : Nat → Nat → (Nat × Nat × Nat) → List (Nat × Nat × (Nat × Nat × Nat) × Nat)
  | 0, _, _ => []
  | m + 1, T, p => if (pk F N T E).2.2.2 = 0 then ((pk F N T E).1, T, p, (pk F N T E).2.2.1) :: tk F N E m (T + (pk F N T E).2.2.1) (adv (pk F N T E) p) else []
/-- and where it stands then -/
def tkE (F : Nat → Nat) (N : Nat) (E : Bool) : Nat → Nat → (Nat × Nat × Nat) → Nat × (Nat × Nat × Nat)
  | 0, T, p => (T, p)
  | m + 1, T, p => if (pk F N T E).2.2.2 = 0 then tkE F N E m (T + (pk F N T E).2.2.1) (adv (pk F N T E) p) else (T, p)
theorem pk_end (F : Nat → Nat) (N T : Nat) (E : Bool) (h : N ≤ T) : (pk F N T E).2.2.2 ≠ 0 := by
  unfold pk
  rw [if_neg (by simp [whole, fs, show N - T = 0 by omega]), if_pos h]
  cases E <;> simp
theorem pk_pos {F : Nat → Nat} {N T : Nat} {E : Bool} (h : (pk F N T E).2.2.2 = 0) : 0 < (pk F N T E).2.2.1 ∧ T + (pk F N T E).2.2.1 ≤ N ∧ T < N := by
  have hx : pk F N T E = ((pk F N T E).1, (pk F N T E).2.1, (pk F N T E).2.2.1, 0) := by rw [← h]
  obtain ⟨_, h1, h2, _, _, h3⟩ := pk_have hx
  have hl := whole_lt h3
  have hb := (pk_bound F N T E).2 (by omega)
  exact ⟨h1, hb, by omega⟩
theorem tk_fuel (F : Nat → Nat) (N : Nat) (E : Bool) : ∀ (a b T : Nat) (p : Nat × Nat × Nat), N ≤ T + a → N ≤ T + b → tk F N E a T p = tk F N E b T p ∧ tkE F N E a T p = tkE F N E b T p
  | 0, 0, T, p, _, _ => ⟨rfl, rfl⟩
  | 0, b + 1, T, p, h, _ => by
    have := pk_end F N T E (by omega)
    unfold tk tkE
    rw [if_neg this, if_neg this]
    exact ⟨rfl, rfl⟩
  | a + 1, 0, T, p, _, h => by
    have := pk_end F N T E (by omega)
    unfold tk tkE
    rw [if_neg this, if_neg this]
    exact ⟨rfl, rfl⟩
  | a + 1, b + 1, T, p, ha, hb => by
    unfold tk tkE
    by_cases h0 : (pk F N T E).2.2.2 = 0
    · have hp := pk_pos h0
      obtain ⟨e1, e2⟩ := tk_fuel F N E a b (T + (pk F N T E).2.2.1) (adv (pk F N T E) p) (by omega) (by omega)
      rw [if_pos h0, if_pos h0, if_pos h0, if_pos h0, e1, e2]
      exact ⟨rfl, rfl⟩
    · rw [if_neg h0, if_neg h0, if_neg h0, if_neg h0]
      exact ⟨rfl, rfl⟩
theorem tk_step {F : Nat → Nat} {N T : Nat} {E : Bool} (p : Nat × Nat × Nat) (h0 : (pk F N T E).2.2.2 = 0) :
    tk F N E (N - T) T p = ((pk F N T E).1, T, p, (pk F N T E).2.2.1) :: tk F N E (N - (T + (pk F N T E).2.2.1)) (T + (pk F N T E).2.2.1) (adv (pk F N T E) p) ∧
    tkE F N E (N - T) T p = tkE F N E (N - (T + (pk F N T E).2.2.1)) (T + (pk F N T E).2.2.1) (adv (pk F N T E) p) := by
  have hp := pk_pos h0
  obtain ⟨m, hm⟩ : ∃ m, N - T = m + 1 := ⟨N - T - 1, by omega⟩
  obtain ⟨e1, e2⟩ := tk_fuel F N E m (N - (T + (pk F N T E).2.2.1)) (T + (pk F N T E).2.2.1) (adv (pk F N T E) p) (by omega) (by omega)
  rw [← e1, ← e2, hm]
  constructor
  · show (if _ then _ else _) = _
    rw [if_pos h0]
  · show (if _ then _ else _) = _
    rw [if_pos h0]
theorem tk_stop {F : Nat → Nat} {N T : Nat} {E : Bool} (p : Nat × Nat × Nat) (h0 : (pk F N T E).2.2.2 ≠ 0) : tk F N E (N - T) T p = [] ∧ tkE F N E (N - T) T p = (T, p) := by
  cases N - T with
  | zero => exact ⟨rfl, rfl⟩
  | succ m =>
    constructor
    · show (if _ then _ else _) = _
      rw [if_neg h0]
    · show (if _ then _ else _) = _
      rw [if_neg h0]
/-- what Peek answers beside a character -/
def pkY (x : Nat × Nat × Nat × Nat) (T : Nat) (p : Nat × Nat × Nat) : Nat × Nat × Nat × Nat :=
  if x.2.2.2 = 2 then (T + x.2.1, p.1 + x.2.1, p.2.1, p.2.2 + x.2.1) else (0, 0, 0, 0)
theorem pkV_no {x : Nat × Nat × Nat × Nat} (T : Nat) (p : Nat × Nat × Nat) (h : x.2.2.2 ≠ 0) : pkV x T p.1 p.2.1 p.2.2 = .tuple #[.agg #[.int .i32 (0 : Nat), .int .i64 (pkY x T p).1, .int .i64 (pkY x T p).2.1, .int .i64 (pkY x T p).2.2.1, .int .i64 (pkY x T p).2.2.2, .int .i64 (0 : Nat)], .int .i64 x.2.2.2] := by
  unfold pkV pkY
  rw [if_neg h]
  by_cases h2 : x.2.2.2 = 2
  · rw [if_pos h2, if_pos h2, h2]; rfl
  · rw [if_neg h2, if_neg h2]; rfl
theorem pkV_have {x : Nat × Nat × Nat × Nat} (T : Nat) (p : Nat × Nat × Nat) (h : x.2.2.2 = 0) : pkV x T p.1 p.2.1 p.2.2 = .tuple #[.agg #[.int .i32 x.1, .int .i64 T, .int .i64 p.1, .int .i64 p.2.1, .int .i64 p.2.2, .int .i64 x.2.2.1], .int .i64 (0 : Nat)] := by
  unfold pkV
  rw [if_pos h]
  rfl
end Fd
/-- a character's cells -/
def fcOne (x : Nat × Nat × (Nat × Nat × Nat) × Nat) : List Value := [.int .i32 x.1, .int .i64 x.2.1, .int .i64 x.2.2.1.1, .int .i64 x.2.2.1.2.1, .int .i64 x.2.2.1.2.2, .int .i64 x.2.2.2]
def fcCells (l : List (Nat × Nat × (Nat × Nat × Nat) × Nat)) : List Value := l.flatMap fcOne
theorem fcCells_append (l m : List (Nat × Nat × (Nat × Nat × Nat) × Nat)) : fcCells (l ++ m) = fcCells l ++ fcCells m := by simp [fcCells]
theorem fcCells_length (l : List (Nat × Nat × (Nat × Nat × Nat) × Nat)) : (fcCells l).length = l.length * 6 := by
  induction l with
  | nil => rfl
  | cons a l ih =>
    have : fcCells (a :: l) = fcOne a ++ fcCells l := by simp [fcCells]
    rw [this, List.length_append, ih]
    simp [fcOne]
    omega
theorem infoFc : (Tryd.prog.info? 45).map (fun i => (i.zero, i.size, i.bytes)) = some (some (.agg #[.int .i32 0, .int .i64 0, .int .i64 0, .int .i64 0, .int .i64 0, .int .i64 0]), 6, 48) := by kernel_rfl
theorem fc_news (W : World) (a0 a1 a2 a3 a4 a5 : Nat) (K : Nat) (hK : K = W.heap.size) : ∀ j u, ([.int .i32 a0, .int .i64 a1, .int .i64 a2, .int .i64 a3, .int .i64 a4, .int .i64 a5] : List Value)[j]? = some u → (W.alloc (.cells #[.int .i32 a0, .int .i64 a1, .int .i64 a2, .int .i64 a3, .int .i64 a4, .int .i64 a5] 45)).cell? (Addr.add ⟨K, 0, none⟩ j) = some u := by
  intro j u hj
  subst hK
  match j, hj with
  | 0, hj => simp at hj; subst hj; simp [Addr.add]
  | 1, hj => simp at hj; subst hj; simp [Addr.add]
  | 2, hj => simp at hj; subst hj; simp [Addr.add]
  | 3, hj => simp at hj; subst hj; simp [Addr.add]
  | 4, hj => simp at hj; subst hj; simp [Addr.add]
  | 5, hj => simp at hj; subst hj; simp [Addr.add]
  | (j + 6), hj => simp at hj
theorem fc_cell (a0 a1 a2 a3 a4 a5 : Nat) : ∀ u ∈ ([.int .i32 a0, .int .i64 a1, .int .i64 a2, .int .i64 a3, .int .i64 a4, .int .i64 a5] : List Value), u.oneCell' = true := by
  intro u hu
  simp at hu
  rcases hu with rfl | rfl | rfl | rfl | rfl | rfl <;> rfl
theorem But.row {D B : Nat} {w w' : World} (h : But D w w') {e : TypeId} {k : Nat} {u : Value} {n : Nat} {ys : List Value} (ho : w.ownsRow B e k u n ys) (hD : D < B) : w'.ownsRow B e k u n ys :=
  kept_grown ho fun q hq => h.block q (ho.lt q hq).2 (by have := (ho.lt q hq).1; omega)

theorem tabs_keep {w w' : World} (hT : Lib.Utf8Tabs 0 1 w) (hb : ∀ k, k = 0 ∨ k = 1 → w'.heap[k]? = w.heap[k]?) : Lib.Utf8Tabs 0 1 w' := by
  constructor
  · intro c hc
    exact (World.cell?_of_block (a := ⟨0, c, none⟩) (hb _ (.inl rfl))).trans (hT.1 c hc)
  · intro i hi
    obtain ⟨e1, e2⟩ := hT.2 i hi
    exact ⟨(World.cell?_of_block (a := ⟨1, 2 * i, none⟩) (hb _ (.inr rfl))).trans e1, (World.cell?_of_block (a := ⟨1, 2 * i + 1, none⟩) (hb _ (.inr rfl))).trans e2⟩

/-- what drain answers -/
def drainV (F : Nat → Nat) (N : Nat) (E : Bool) (out : Value) (S : Nat × (Nat × Nat × Nat)) : Value :=
  .tuple #[out, .agg #[.int .i32 (0 : Nat), .int .i64 (Fd.pkY (Fd.pk F N S.1 E) S.1 S.2).1, .int .i64 (Fd.pkY (Fd.pk F N S.1 E) S.1 S.2).2.1, .int .i64 (Fd.pkY (Fd.pk F N S.1 E) S.1 S.2).2.2.1, .int .i64 (Fd.pkY (Fd.pk F N S.1 E) S.1 S.2).2.2.2, .int .i64 (0 : Nat)], .int .i64 (Fd.pk F N S.1 E).2.2.2]

end Go.Proofs.YtcggkbgbfgkaiaaDoor
