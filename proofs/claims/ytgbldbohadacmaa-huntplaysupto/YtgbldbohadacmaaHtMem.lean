/-
  A HUNT in memory.
-/
import Derived.Test.YtgbldbohadacmaaHtMath
import Derived.Test.YtgbldbohadacmaaWdBorder
import Derived.Lib.SmallJoins
import Derived.WalkKit
namespace Go.Proofs.Ytgbldbohadacmaa
open Go.RowKit Go.Lib
namespace Ht
theorem lg_eq (L : List Nat) : Wd.lg L = lg L := rfl
theorem hid {p : Prop} (h : p) : Hid p := h
/-- nothing but one block has changed -/
structure Hb (b : Nat) (w w' : World) : Prop where
  os : w'.os = w.os
  tape : w'.tape = w.tape
  output : w'.output = w.output
  size : w.heap.size ≤ w'.heap.size
  block : ∀ k, k < w.heap.size → k ≠ b → w'.heap[k]? = w.heap[k]?
theorem Hb.of_below {b : Nat} {w w' : World} (h : Below w.heap.size w w') : Hb b w w' := ⟨h.os, h.tape, h.output, h.size, fun k hk _ => h.block k hk⟩
theorem Hb.refl (b : Nat) (w : World) : Hb b w w := .of_below (Below.refl _ _)
theorem Hb.trans {b : Nat} {x y z : World} (h : Hb b x y) (k : Hb b y z) : Hb b x z :=
  ⟨k.os.trans h.os, k.tape.trans h.tape, k.output.trans h.output, Nat.le_trans h.size k.size, fun i hi hn => (k.block i (Nat.lt_of_lt_of_le hi h.size) hn).trans (h.block i hi hn)⟩
theorem Hb.set (w : World) (b i : Nat) (v : Value) : Hb b w (w.setCell ⟨b, i, none⟩ v) :=
  ⟨rfl, rfl, rfl, by simp, fun k _ hk => Below.heap_setCell w ⟨b, i, none⟩ v k hk⟩
theorem Hb.setCell {b : Nat} {w w' : World} (h : Hb b w w') (i : Nat) (v : Value) : Hb b w (w'.setCell ⟨b, i, none⟩ v) := h.trans (.set _ _ _ _)
theorem Hb.alloc {b : Nat} {w w' : World} (h : Hb b w w') (o : Obj) : Hb b w (w'.alloc o) := h.trans (.of_below ((Below.refl _ _).alloc (Nat.le_refl _) o))
theorem Hb.drewN {b : Nat} {w w' : World} (h : Hb b w w') (n : Nat) : Hb b w (w'.drewN n) := ⟨h.os, h.tape, h.output, h.size, h.block⟩
theorem Hb.drew {b : Nat} {w w' : World} (h : Hb b w w') : Hb b w w'.drew := ⟨h.os, h.tape, h.output, h.size, h.block⟩
/-- what was there ahead of B stays, where the block is newer -/
theorem Hb.below {b B : Nat} {w w' : World} (h : Hb b w w') (hb : B ≤ b) (hB : B ≤ w.heap.size) : Below B w w' := ⟨h.os, h.tape, h.output, h.size, fun k hk => h.block k (by omega) (by omega)⟩
/-- the cells of a Hunt -/
def HC (w : World) (b : Nat) (c : Int) (td : Bool) (N : Int) (xt xb : Value) (wh : Bool) (q : Nat) (t : Int) : Prop :=
  w.heap[b]? = some (.cells #[.int .i64 c, .bool td, .int .i64 N, xt, xb, .bool wh, .int .i64 (q : Int), .int .i64 t] 48 (0, 0))
theorem HC.lt {w : World} {b : Nat} {c : Int} {td : Bool} {N : Int} {xt xb : Value} {wh : Bool} {q : Nat} {t : Int} (h : HC w b c td N xt xb wh q t) : b < w.heap.size := (Array.getElem?_eq_some_iff.1 h).1
theorem HC.cells {w : World} {b : Nat} {c : Int} {td : Bool} {N : Int} {xt xb : Value} {wh : Bool} {q : Nat} {t : Int} (h : HC w b c td N xt xb wh q t) :
    w.cell? ⟨b, 0, none⟩ = some (.int .i64 c) ∧ w.cell? ⟨b, 1, none⟩ = some (.bool td) ∧ w.cell? ⟨b, 2, none⟩ = some (.int .i64 N) ∧ w.cell? ⟨b, 3, none⟩ = some xt ∧ w.cell? ⟨b, 4, none⟩ = some xb ∧ w.cell? ⟨b, 5, none⟩ = some (.bool wh) ∧ w.cell? ⟨b, 6, none⟩ = some (.int .i64 (q : Int)) ∧ w.cell? ⟨b, 7, none⟩ = some (.int .i64 t) ∧ ∀ i, w.frozen? ⟨b, i, none⟩ = false := by
  refine ⟨?_, ?_, ?_, ?_, ?_, ?_, ?_, ?_, fun i => Lib.frozen_of_heap h i⟩ <;> exact (Lib.cell_of_heap h _).trans rfl
theorem HC.set5 {w : World} {b : Nat} {c : Int} {td : Bool} {N : Int} {xt xb : Value} {wh : Bool} {q : Nat} {t : Int} (h : HC w b c td N xt xb wh q t) (u : Bool) : HC (w.setCell ⟨b, 5, none⟩ (.bool u)) b c td N xt xb u q t := (Go.Joins.block_setCell (i := 5) h _).trans rfl
theorem HC.set6 {w : World} {b : Nat} {c : Int} {td : Bool} {N : Int} {xt xb : Value} {wh : Bool} {q : Nat} {t : Int} (h : HC w b c td N xt xb wh q t) (k : Nat) : HC (w.setCell ⟨b, 6, none⟩ (.int .i64 (k : Int))) b c td N xt xb wh k t := (Go.Joins.block_setCell (i := 6) h _).trans rfl
theorem HC.set7 {w : World} {b : Nat} {c : Int} {td : Bool} {N : Int} {xt xb : Value} {wh : Bool} {q : Nat} {t : Int} (h : HC w b c td N xt xb wh q t) (u : Int) : HC (w.setCell ⟨b, 7, none⟩ (.int .i64 u)) b c td N xt xb wh q u := (Go.Joins.block_setCell (i := 7) h _).trans rfl
theorem HC.of_block {w w' : World} {b : Nat} {c : Int} {td : Bool} {N : Int} {xt xb : Value} {wh : Bool} {q : Nat} {t : Int} (h : HC w b c td N xt xb wh q t) (e : w'.heap[b]? = w.heap[b]?) : HC w' b c td N xt xb wh q t := Eq.trans e h
theorem HC.below {w w' : World} {b : Nat} {c : Int} {td : Bool} {N : Int} {xt xb : Value} {wh : Bool} {q : Nat} {t : Int} (h : HC w b c td N xt xb wh q t) (e : Below w.heap.size w w') : HC w' b c td N xt xb wh q t := h.of_block (e.block b h.lt)
theorem HC.drewN {w : World} {b : Nat} {c : Int} {td : Bool} {N : Int} {xt xb : Value} {wh : Bool} {q : Nat} {t : Int} (h : HC w b c td N xt xb wh q t) (n : Nat) : HC (w.drewN n) b c td N xt xb wh q t := h
/-- the text asked for, in a row -/
def TR (w : World) (T : List Nat) (xt : Value) : Prop := ∃ g cap cur, xt = .slice (some ⟨g, 0, none⟩) T.length cap ∧ T.length ≤ cap ∧ cap ≤ maxLen ∧ Lie w g T ∧ w.heap[g]? = some (.cells cur 21 (0, 0))
/-- its borders -/
def BR (w : World) (T : List Nat) (xb : Value) : Prop := ∃ g bf cur, xb = .slice (some ⟨g, 0, none⟩) T.length T.length ∧ IB w g T.length bf cur ∧ ∀ j, j < T.length → Wd.Bd (lg T) (bf j) j
def Rws (w : World) (c : Int) (T : List Nat) (xt xb : Value) : Prop :=
  (∃ p m cap, xt = .slice p m cap ∧ m ≤ cap ∧ cap ≤ maxLen) ∧ (c = 1 ∨ c = 3 ∨ c = 4 ∨ c = 5 → TR w T xt) ∧ (c = 4 ∨ c = 5 → BR w T xb)
theorem TR.hb {w w' : World} {T : List Nat} {xt : Value} (h : TR w T xt) {b : Nat} (e : Hb b w w') {cs : Array Value} (hb : w.heap[b]? = some (.cells cs 48 (0, 0))) : TR w' T xt := by
  obtain ⟨g, cap, cur, h1, h2, h3, h4, h5⟩ := h
  have hlt := (Array.getElem?_eq_some_iff.1 h5).1
  have e1 : w'.heap[g]? = w.heap[g]? := e.block g hlt fun c => by
    subst c
    rw [hb] at h5
    simp at h5
  exact ⟨g, cap, cur, h1, h2, h3, fun j hj => (World.cell?_of_block (a := ⟨g, 0 + j, none⟩) e1).trans (h4 j hj), e1.trans h5⟩
theorem BR.hb {w w' : World} {T : List Nat} {xb : Value} (h : BR w T xb) {b : Nat} (e : Hb b w w') {cs : Array Value} (hb : w.heap[b]? = some (.cells cs 48 (0, 0))) : BR w' T xb := by
  obtain ⟨g, bf, cur, h1, h2, h3⟩ := h
  have hlt := (Array.getElem?_eq_some_iff.1 h2.blk).1
  have e1 : w'.heap[g]? = w.heap[g]? := e.block g hlt fun c => by
    have h5 := h2.blk
    subst c
    rw [hb] at h5
    simp at h5
  exact ⟨g, bf, cur, h1, ⟨e1.trans h2.blk, h2.size, h2.get⟩, h3⟩
theorem TR.below {w w' : World} {T : List Nat} {xt : Value} (h : TR w T xt) (e : Below w.heap.size w w') : TR w' T xt := by
  obtain ⟨g, cap, cur, h1, h2, h3, h4, h5⟩ := h
  have e1 := e.block g (Array.getElem?_eq_some_iff.1 h5).1
  exact ⟨g, cap, cur, h1, h2, h3, fun j hj => (World.cell?_of_block (a := ⟨g, 0 + j, none⟩) e1).trans (h4 j hj), e1.trans h5⟩
theorem BR.below {w w' : World} {T : List Nat} {xb : Value} (h : BR w T xb) (e : Below w.heap.size w w') : BR w' T xb := by
  obtain ⟨g, bf, cur, h1, h2, h3⟩ := h
  exact ⟨g, bf, cur, h1, h2.below e (Nat.le_refl _), h3⟩
theorem Rws.hb {w w' : World} {c : Int} {T : List Nat} {xt xb : Value} (h : Rws w c T xt xb) {b : Nat} (e : Hb b w w') {cs : Array Value} (hb : w.heap[b]? = some (.cells cs 48 (0, 0))) : Rws w' c T xt xb :=
  ⟨h.1, fun k => (h.2.1 k).hb e hb, fun k => (h.2.2 k).hb e hb⟩
theorem Rws.below {w w' : World} {c : Int} {T : List Nat} {xt xb : Value} (h : Rws w c T xt xb) (e : Below w.heap.size w w') : Rws w' c T xt xb := ⟨h.1, fun k => (h.2.1 k).below e, fun k => (h.2.2 k).below e⟩
/-- what a Hunt keeps: the characters L came -/
def Hu (w : World) (b : Nat) (c : Int) (td : Bool) (N : Int) (T L : List Nat) (wh : Bool) : Prop :=
  cok c ∧ ∃ xt xb q t, HC w b c td N xt xb wh q t ∧ Rws w c T xt xb ∧ t = (if wh then fin c T N L else opn c T N L) ∧ (opn c T N L = 1 → qat c T L q) ∧ q ≤ L.length
theorem Hu.lt {w : World} {b : Nat} {c : Int} {td : Bool} {N : Int} {T L : List Nat} {wh : Bool} (h : Hu w b c td N T L wh) : b < w.heap.size := by
  obtain ⟨_, _, _, _, _, h, _⟩ := h
  exact h.lt
theorem Hu.below {w w' : World} {b : Nat} {c : Int} {td : Bool} {N : Int} {T L : List Nat} {wh : Bool} (h : Hu w b c td N T L wh) (e : Below w.heap.size w w') : Hu w' b c td N T L wh := by
  obtain ⟨h0, xt, xb, q, t, h1, h2, h3⟩ := h
  exact ⟨h0, xt, xb, q, t, h1.below e, h2.below e, h3⟩
theorem Hu.other {w w' : World} {b b' : Nat} {c c' : Int} {td td' : Bool} {N N' : Int} {T T' L L' : List Nat} {wh wh' : Bool} (h : Hu w b c td N T L wh) (k : Hu w b' c' td' N' T' L' wh') (e : Hb b' w w') (hn : b ≠ b') : Hu w' b c td N T L wh := by
  obtain ⟨h0, xt, xb, q, t, h1, h2, h3⟩ := h
  obtain ⟨_, _, _, _, _, k1, _⟩ := k
  exact ⟨h0, xt, xb, q, t, h1.of_block (e.block b h1.lt hn), h2.hb e k1, h3⟩
end Ht
end Go.Proofs.Ytgbldbohadacmaa
