/-
  WALKS over the document's hunt: New, Close.
-/
import Derived.Test.YtgbldbohadacmaaHtRefE
namespace Go.Proofs.Ytgbldbohadacmaa
open Go.RowKit Go.Lib
namespace Ht
/-- the document's Hunt: its block -/
def RC (w : World) (b : Nat) (c N : Int) (va vc : Value) (wh : Bool) : Prop :=
  w.heap[b]? = some (.cells #[.int .i64 c, .int .i64 N, va, vc, .bool wh] 51 (0, 0))
theorem RC.lt {w : World} {b : Nat} {c N : Int} {va vc : Value} {wh : Bool} (h : RC w b c N va vc wh) : b < w.heap.size := (Array.getElem?_eq_some_iff.1 h).1
theorem RC.cells {w : World} {b : Nat} {c N : Int} {va vc : Value} {wh : Bool} (h : RC w b c N va vc wh) :
    w.cell? ⟨b, 0, none⟩ = some (.int .i64 c) ∧ w.cell? ⟨b, 1, none⟩ = some (.int .i64 N) ∧ w.cell? ⟨b, 2, none⟩ = some va ∧ w.cell? ⟨b, 3, none⟩ = some vc ∧ w.cell? ⟨b, 4, none⟩ = some (.bool wh) ∧ ∀ i, w.frozen? ⟨b, i, none⟩ = false := by
  refine ⟨?_, ?_, ?_, ?_, ?_, fun i => Lib.frozen_of_heap h i⟩ <;> exact (Lib.cell_of_heap h _).trans rfl
theorem RC.set3 {w : World} {b : Nat} {c N : Int} {va vc : Value} {wh : Bool} (h : RC w b c N va vc wh) (v : Value) : RC (w.setCell ⟨b, 3, none⟩ v) b c N va v wh := (Go.Joins.block_setCell (i := 3) h _).trans rfl
theorem RC.set4 {w : World} {b : Nat} {c N : Int} {va vc : Value} {wh : Bool} (h : RC w b c N va vc wh) (u : Bool) : RC (w.setCell ⟨b, 4, none⟩ (.bool u)) b c N va vc u := (Go.Joins.block_setCell (i := 4) h _).trans rfl
theorem RC.of_block {w w' : World} {b : Nat} {c N : Int} {va vc : Value} {wh : Bool} (h : RC w b c N va vc wh) (e : w'.heap[b]? = w.heap[b]?) : RC w' b c N va vc wh := Eq.trans e h
theorem RC.below {w w' : World} {b : Nat} {c N : Int} {va vc : Value} {wh : Bool} (h : RC w b c N va vc wh) (e : Below w.heap.size w w') : RC w' b c N va vc wh := h.of_block (e.block b h.lt)
theorem own_below {w w' : World} {B : Nat} {e : TypeId} {k : Nat} {v : Value} {n : Nat} {ys : List Value} (h : w.ownsRow B e k v n ys) (hb : Below w.heap.size w w') : w'.ownsRow B e k v n ys := by
  refine h.kept (row := none) ⟨hb.os, hb.tape, hb.output, hb.size, fun j hj _ => hb.block j hj⟩ ?_
  cases v.ownBlock with
  | none => exact .inl rfl
  | some g => exact .inr (by simp)
/-- what New answers: which error, by its number -/
def eno (c N : Int) : Int := if c < 0 ∨ 8 < c then 4 else if N < 0 then 2 else 0
end Ht
set_option maxRecDepth 100000 in
set_option maxHeartbeats 2000000 in
theorem htRefNew (c N : Int) (f : Nat → Nat) (n : Nat) (w : World) (hf : ∀ j, f j < 256) (hn : n ≤ 1099511627776) :
    Calls Try.prog 6 #[.int .i64 c, .string (Rn.arr f n), .int .i64 N] w fun e w' => Below w.heap.size w w' ∧
      ((Ht.eno c N ≠ 0 ∧ e = .returned (.tuple #[.pointer none, .int .i64 (Ht.eno c N)])) ∨
       (Ht.eno c N = 0 ∧ ∃ b va, e = .returned (.tuple #[.pointer (some ⟨b, 0, none⟩), .int .i64 0]) ∧ w.heap.size ≤ b ∧ Ht.RC w' b c N va (.slice none 0 0) false ∧ w'.ownsRow w.heap.size 3 1 va (Wd.R f n 0).length (Ht.ic (Wd.R f n 0)))) := by
  have CR := hide' (fun w1 => htRefRunes f n w1 hf hn)
  obtain ⟨T, hT⟩ : ∃ T, Wd.R f n 0 = T := ⟨_, rfl⟩
  rw [hT] at CR ⊢
  clear hT hf hn
  by_cases h1 : c < 0
  · have HE : Hid (Ht.eno c N = 4) := by show _ = _; unfold Ht.eno; rw [if_pos (.inl h1)]
    clear CR
    go_enter Try.func6, Try.ntmps6
    go_wp2_with fail
    refine bodyPost_ret (v := .tuple #[.pointer none, .int .i64 4]) (by simp [results, Try.results6, go_sem]) rfl ?_
    exact ⟨Below.refl _ _, .inl ⟨by rw [HE.out]; decide, by rw [HE.out]⟩⟩
  by_cases h2 : 8 < c
  · have HE : Hid (Ht.eno c N = 4) := by show _ = _; unfold Ht.eno; rw [if_pos (.inr h2)]
    have h1' : decide (c < 0) = false := decide_eq_false h1
    clear CR h1
    go_enter Try.func6, Try.ntmps6
    go_wp2_with fail
    refine bodyPost_ret (v := .tuple #[.pointer none, .int .i64 4]) (by simp [results, Try.results6, go_sem]) rfl ?_
    exact ⟨Below.refl _ _, .inl ⟨by rw [HE.out]; decide, by rw [HE.out]⟩⟩
  have h1' : decide (c < 0) = false := decide_eq_false h1
  have h2' : decide (8 < c) = false := decide_eq_false h2
  have HH : Hid (¬ (c < 0 ∨ 8 < c)) := fun h => by rcases h with h | h <;> contradiction
  clear h1 h2
  by_cases h3 : N < 0
  · have HE : Hid (Ht.eno c N = 2) := by show _ = _; unfold Ht.eno; rw [if_neg HH.out, if_pos h3]
    clear CR
    go_enter Try.func6, Try.ntmps6
    go_wp2_with fail
    refine bodyPost_ret (v := .tuple #[.pointer none, .int .i64 2]) (by simp [results, Try.results6, go_sem]) rfl ?_
    exact ⟨Below.refl _ _, .inl ⟨by rw [HE.out]; decide, by rw [HE.out]⟩⟩
  · have HE : Hid (Ht.eno c N = 0) := by show _ = _; unfold Ht.eno; rw [if_neg HH.out, if_neg h3]
    have h3' : decide (N < 0) = false := decide_eq_false h3
    clear h3
    go_enter Try.func6, Try.ntmps6
    go_wp2_with fail
    refine (CR.out w).mono ?_
    rintro r w1 ⟨va, rfl, ho, hb⟩
    have HO := hide' ho
    have HB := hide' hb
    obtain ⟨pp, cp, rfl, -⟩ := Ht.ni_of ho
    clear ho hb CR
    go_wp2_with fail
    refine bodyPost_ret (v := .tuple #[.pointer (some ⟨w1.heap.size, 0, none⟩), .int .i64 0]) (by simp [results, Try.results6, go_sem]) rfl ?_
    refine ⟨HB.out.alloc HB.out.size _, .inr ⟨HE.out, w1.heap.size, .slice pp T.length cp, rfl, HB.out.size, ?_, ?_⟩⟩
    · exact World.alloc_heap_new w1 _
    · exact Ht.own_below HO.out ((Below.refl _ _).alloc (Nat.le_refl _) _)
set_option maxHeartbeats 2000000 in
theorem htRefClose {w : World} {b : Nat} {c N : Int} {va vc : Value} {wh : Bool} (h : Ht.RC w b c N va vc wh) :
    Calls Try.prog 17 #[.pointer (some ⟨b, 0, none⟩)] w fun e w' => e = .returned (.int .i64 (if wh then 5 else 0)) ∧ Ht.RC w' b c N va vc true ∧ Ht.Hb b w w' := by
  obtain ⟨c0, c1, c2, c3, c4, fz⟩ := h.cells
  have f4 := fz 4
  have HC := hide' h
  clear c0 c1 c2 c3 fz h
  cases wh
  · go_enter Try.func17, Try.ntmps17
    go_wp2_with fail
    go_ret
    exact ⟨rfl, HC.out.set4 true, Ht.Hb.set _ _ _ _⟩
  · go_enter Try.func17, Try.ntmps17
    go_wp2_with fail
    go_ret
    exact ⟨rfl, HC.out, Ht.Hb.refl _ _⟩
end Go.Proofs.Ytgbldbohadacmaa
