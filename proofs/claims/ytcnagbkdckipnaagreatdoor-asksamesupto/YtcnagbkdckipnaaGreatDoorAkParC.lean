import Derived.Test.YtcnagbkdckipnaaGreatDoorAkMem
import Derived.BigGuard
import Derived.Lib.SmallJoins
import Derived.BigQuiet
import Derived.Deep.QuietTactic
import Derived.Deep.MidRow
/-
  THE PARSER in memory; WALKS over what only looks at words: isSign, is, isName, calls.
-/
namespace Go.Proofs.YtcnagbkdckipnaaGreatDoor
open Go.RowKit Go.Lib
namespace Ak
/-- a word -/
structure Wo where
  k : Int
  tx : ByteArray
  nu : Int
  p0 : Int
  p1 : Int
  p2 : Int
  p3 : Int
def Wo.cs (x : Wo) : Array Value := #[.int .i64 x.k, .string x.tx, .int .i64 x.nu, .int .i64 x.p0, .int .i64 x.p1, .int .i64 x.p2, .int .i64 x.p3]
/-- nothing but the parser's own block has changed -/
structure Pb (b : Nat) (w w' : World) : Prop where
  os : w'.os = w.os
  tape : w'.tape = w.tape
  output : w'.output = w.output
  size : w.heap.size ≤ w'.heap.size
  block : ∀ k, k < w.heap.size → k ≠ b → w'.heap[k]? = w.heap[k]?
theorem Pb.of_below {b : Nat} {w w' : World} (h : Below w.heap.size w w') : Pb b w w' := ⟨h.os, h.tape, h.output, h.size, fun k hk _ => h.block k hk⟩
theorem Pb.refl (b : Nat) (w : World) : Pb b w w := .of_below (Below.refl _ _)
theorem Pb.trans {b : Nat} {x y z : World} (h : Pb b x y) (k : Pb b y z) : Pb b x z :=
  ⟨k.os.trans h.os, k.tape.trans h.tape, k.output.trans h.output, Nat.le_trans h.size k.size, fun i hi hn => (k.block i (Nat.lt_of_lt_of_le hi h.size) hn).trans (h.block i hi hn)⟩
theorem Pb.set (w : World) (b i : Nat) (v : Value) : Pb b w (w.setCell ⟨b, i, none⟩ v) :=
  ⟨rfl, rfl, rfl, by simp, fun k _ hk => Below.heap_setCell w ⟨b, i, none⟩ v k hk⟩
theorem Pb.setCell {b : Nat} {w w' : World} (h : Pb b w w') (i : Nat) (v : Value) : Pb b w (w'.setCell ⟨b, i, none⟩ v) := h.trans (.set _ _ _ _)
theorem Pb.alloc {b : Nat} {w w' : World} (h : Pb b w w') (o : Obj) : Pb b w (w'.alloc o) := h.trans (.of_below ((Below.refl _ _).alloc (Nat.le_refl _) o))
theorem Pb.drewN {b : Nat} {w w' : World} (h : Pb b w w') (n : Nat) : Pb b w (w'.drewN n) := ⟨h.os, h.tape, h.output, h.size, h.block⟩
theorem Pb.drew {b : Nat} {w w' : World} (h : Pb b w w') : Pb b w w'.drew := ⟨h.os, h.tape, h.output, h.size, h.block⟩
theorem Pb.cell {b : Nat} {w w' : World} (h : Pb b w w') {a : Addr} {v : Value} (hv : w.cell? a = some v) (hn : a.block ≠ b) : w'.cell? a = some v := (World.cell?_of_block (h.block a.block (block_lt_of_cell hv) hn)).trans hv
/-- words one behind the other -/
def WRow (W : World) (v : Value) (n : Nat) (ws : Nat → Wo) : Prop :=
  ∃ p cap, v = .slice p n cap ∧ n ≤ cap ∧ cap ≤ 9223372036854775807 ∧ (0 < n → ∃ b o cur, p = some ⟨b, o, none⟩ ∧ W.heap[b]? = some (.cells cur 86 (0, 0)) ∧ ∀ i j u, i < n → (ws i).cs[j]? = some u → W.cell? ⟨b, o + i * 7 + j, none⟩ = some u)
/-- the parser's cells -/
def PC (W : World) (P : Nat) (qv wv : Value) (at_ op mo : Nat) : Prop := W.heap[P]? = some (.cells #[qv, wv, .int .i64 (at_ : Nat), .int .i64 (op : Nat), .int .i64 (mo : Nat)] 48 (0, 0))
theorem PC.lt {W : World} {P : Nat} {qv wv : Value} {at_ op mo : Nat} (h : PC W P qv wv at_ op mo) : P < W.heap.size := (Array.getElem?_eq_some_iff.1 h).1
theorem PC.cells {W : World} {P : Nat} {qv wv : Value} {at_ op mo : Nat} (h : PC W P qv wv at_ op mo) :
    W.cell? ⟨P, 0, none⟩ = some qv ∧ W.cell? ⟨P, 1, none⟩ = some wv ∧ W.cell? ⟨P, 2, none⟩ = some (.int .i64 (at_ : Nat)) ∧ W.cell? ⟨P, 3, none⟩ = some (.int .i64 (op : Nat)) ∧ W.cell? ⟨P, 4, none⟩ = some (.int .i64 (mo : Nat)) ∧ ∀ i, W.frozen? ⟨P, i, none⟩ = false :=
  ⟨by rw [Lib.cell_of_heap h]; rfl, by rw [Lib.cell_of_heap h]; rfl, by rw [Lib.cell_of_heap h]; rfl, by rw [Lib.cell_of_heap h]; rfl, by rw [Lib.cell_of_heap h]; rfl, fun i => Lib.frozen_of_heap h i⟩
/-- the query's end has that place, whatever else the parser has changed meanwhile -/
def Qy (P : Nat) (W : World) (qv : Value) (x : Wo) : Prop :=
  ∃ (p : Option Addr) (l c : Nat), qv = .slice p l c ∧ ∀ W', Pb P W W' → ∀ why : Int, Calls Tryz.prog 14 #[qv, .int .i64 (l : Nat), .int .i64 why] W' fun r w' => ∃ d, r = .returned (.pointer (some ⟨d, 0, none⟩)) ∧ W'.heap.size ≤ d ∧
    w'.heap[d]? = some (.cells #[.int .i64 x.p0, .int .i64 x.p1, .int .i64 x.p2, .int .i64 x.p3, .int .i64 why] 72 (0, 0)) ∧ Below W'.heap.size W' w'
theorem Qy.pb {P : Nat} {W W' : World} {qv : Value} {x : Wo} (h : Qy P W qv x) (hp : Pb P W W') : Qy P W' qv x := by
  obtain ⟨p, l, c, e, h1⟩ := h
  exact ⟨p, l, c, e, fun W2 h2 => h1 W2 (hp.trans h2)⟩
/-- the parser: at word at_, with op brackets open; the end's place is that of ws n -/
structure Ps (W : World) (P : Nat) (qv wv : Value) (n : Nat) (ws : Nat → Wo) (at_ op mo : Nat) : Prop where
  c : PC W P qv wv at_ op mo
  w : WRow W wv n ws
  atn : at_ ≤ n
  nn : n ≤ 65536
  opm : op ≤ mo
  mom : mo ≤ 200
  q : Qy P W qv (ws n)
theorem WRow.pb {W W' : World} {v : Value} {n P : Nat} {ws : Nat → Wo} (h : WRow W v n ws) (hp : Pb P W W') {cs : Array Value} (hc : W.heap[P]? = some (.cells cs 48 (0, 0))) : WRow W' v n ws := by
  obtain ⟨p, cap, e, h1, h2, h3⟩ := h
  refine ⟨p, cap, e, h1, h2, fun h0 => ?_⟩
  obtain ⟨b, o, cur, e2, hb, h4⟩ := h3 h0
  have hn : b ≠ P := by
    rintro rfl
    rw [hb] at hc
    injection hc with hc
    injection hc with _ hc
    exact absurd hc (by decide)
  have hlt := (Array.getElem?_eq_some_iff.1 hb).1
  exact ⟨b, o, cur, e2, (hp.block b hlt hn).trans hb, fun i j u hi hu => (World.cell?_of_block (a := ⟨b, o + i * 7 + j, none⟩) (hp.block b hlt hn)).trans (h4 i j u hi hu)⟩
theorem Ps.go {W W' : World} {P : Nat} {qv wv : Value} {n : Nat} {ws : Nat → Wo} {at_ op mo at' op' : Nat} (h : Ps W P qv wv n ws at_ op mo) (hp : Pb P W W') (hc : PC W' P qv wv at' op' mo) (h1 : at' ≤ n) (h2 : op' ≤ mo) : Ps W' P qv wv n ws at' op' mo :=
  ⟨hc, h.w.pb hp h.c, h1, h.nn, h2, h.mom, h.q.pb hp⟩
theorem Ps.below {W W' : World} {P : Nat} {qv wv : Value} {n : Nat} {ws : Nat → Wo} {at_ op mo : Nat} (h : Ps W P qv wv n ws at_ op mo) (hb : Below W.heap.size W W') : Ps W' P qv wv n ws at_ op mo :=
  h.go (.of_below hb) ((hb.block P h.c.lt).trans h.c) h.atn h.opm
/-- a store into one of its cells -/
theorem PC.set2 {W : World} {P : Nat} {qv wv : Value} {at_ op mo : Nat} (h : PC W P qv wv at_ op mo) (a : Nat) : PC (W.setCell ⟨P, 2, none⟩ (.int .i64 (a : Nat))) P qv wv a op mo := Go.Joins.block_setCell (i := 2) h _
theorem PC.set3 {W : World} {P : Nat} {qv wv : Value} {at_ op mo : Nat} (h : PC W P qv wv at_ op mo) (a : Nat) : PC (W.setCell ⟨P, 3, none⟩ (.int .i64 (a : Nat))) P qv wv at_ a mo := Go.Joins.block_setCell (i := 3) h _
/-- is the word of that number that sign, that name? -/
def sgB (n : Nat) (ws : Nat → Wo) (i : Nat) (s : ByteArray) : Bool := decide (i < n) && (decide ((ws i).k = 3) && decide ((ws i).tx.toList = s.toList))
def nmB (n : Nat) (ws : Nat → Wo) (i : Nat) (s : ByteArray) : Bool := decide (i < n) && (decide ((ws i).k = 0) && decide ((ws i).tx.toList = s.toList))
/-- the cells of a word -/
theorem Ps.word {W : World} {P : Nat} {qv : Value} {n cap : Nat} {p : Option Addr} {ws : Nat → Wo} {at_ op mo : Nat} (h : Ps W P qv (.slice p n cap) n ws at_ op mo) {i : Nat} (hi : i < n) : ∃ b o, p = some ⟨b, o, none⟩ ∧ W.cell? ⟨b, o + i * 7, none⟩ = some (.int .i64 (ws i).k) ∧ W.cell? ⟨b, o + i * 7 + 1, none⟩ = some (.string (ws i).tx) ∧ W.cell? ⟨b, o + i * 7 + 2, none⟩ = some (.int .i64 (ws i).nu) ∧
    W.cell? ⟨b, o + i * 7 + 3, none⟩ = some (.int .i64 (ws i).p0) ∧ W.cell? ⟨b, o + i * 7 + 4, none⟩ = some (.int .i64 (ws i).p1) ∧ W.cell? ⟨b, o + i * 7 + 5, none⟩ = some (.int .i64 (ws i).p2) ∧ W.cell? ⟨b, o + i * 7 + 6, none⟩ = some (.int .i64 (ws i).p3) := by
  obtain ⟨p', cap', e, _, _, h3⟩ := h.w
  cases e
  obtain ⟨b, o, cur, rfl, _, h4⟩ := h3 (by omega)
  exact ⟨b, o, rfl, h4 i 0 _ hi rfl, h4 i 1 _ hi rfl, h4 i 2 _ hi rfl, h4 i 3 _ hi rfl, h4 i 4 _ hi rfl, h4 i 5 _ hi rfl, h4 i 6 _ hi rfl⟩
theorem Ps.sl {W : World} {P : Nat} {qv wv : Value} {n : Nat} {ws : Nat → Wo} {at_ op mo : Nat} (h : Ps W P qv wv n ws at_ op mo) : ∃ p cap, wv = .slice p n cap := by
  obtain ⟨p', cap', e, _⟩ := h.w
  exact ⟨p', cap', e⟩
end Ak
set_option maxHeartbeats 2000000 in
theorem akIsSign (W : World) (P : Nat) (qv wv : Value) (n : Nat) (ws : Nat → Ak.Wo) (at_ op mo : Nat) (h : Ak.Ps W P qv wv n ws at_ op mo) (i : Nat) (s : ByteArray) :
    Calls Tryz.prog 96 #[.pointer (some ⟨P, 0, none⟩), .int .i64 (i : Nat), .string s] W fun r w' => r = .returned (.bool (Ak.sgB n ws i s)) ∧ Below W.heap.size W w' := by
  obtain ⟨p, cap, rfl⟩ := h.sl
  obtain ⟨_, c1, _, _, _, _⟩ := h.c.cells
  unfold Ak.sgB
  by_cases hi : i < n
  · obtain ⟨b, o, rfl, w0, w1, _⟩ := h.word hi
    have t1 : (i : Int) < (n : Int) := by omega
    have t0 : (0 : Int) ≤ (i : Int) := by omega
    obtain ⟨x, hx⟩ : ∃ x, ws i = x := ⟨_, rfl⟩
    rw [hx] at w0 w1 ⊢
    obtain ⟨k, tx, nu, p0, p1, p2, p3⟩ := x
    dsimp only at w0 w1 ⊢
    rw [decide_eq_true hi, Bool.true_and]
    clear h hx hi
    by_cases hk : k = 3
    · subst hk
      by_cases ht : tx.toList = s.toList
      · have g : (tx.toList == s.toList) = true := by simpa using ht
        go_enter Tryz.func96, Tryz.ntmps96
        go_wp2_with fail
        go_ret
        exact ⟨by simp [ht], Below.refl _ _⟩
      · have g : (tx.toList == s.toList) = false := by simpa using ht
        go_enter Tryz.func96, Tryz.ntmps96
        go_wp2_with fail
        go_ret
        exact ⟨by simp [ht], Below.refl _ _⟩
    · have g : (k == 3) = false := by simpa using hk
      go_enter Tryz.func96, Tryz.ntmps96
      go_wp2_with fail
      go_ret
      exact ⟨by simp [hk], Below.refl _ _⟩
  · have t1 : ¬ (i : Int) < (n : Int) := by omega
    have t2 : decide ((i : Int) < (n : Int)) = false := by simp; omega
    rw [decide_eq_false hi, Bool.false_and]
    clear h hi
    go_enter Tryz.func96, Tryz.ntmps96
    go_wp2_with fail
    go_ret
    exact ⟨rfl, Below.refl _ _⟩
set_option maxHeartbeats 2000000 in
theorem akIs (W : World) (P : Nat) (qv wv : Value) (n : Nat) (ws : Nat → Ak.Wo) (at_ op mo : Nat) (h : Ak.Ps W P qv wv n ws at_ op mo) (s : ByteArray) :
    Calls Tryz.prog 73 #[.pointer (some ⟨P, 0, none⟩), .string s] W fun r w' => r = .returned (.bool (Ak.sgB n ws at_ s)) ∧ Below W.heap.size W w' := by
  have c := akIsSign W P qv wv n ws at_ op mo h at_ s
  obtain ⟨_, _, c2, _, _, _⟩ := h.c.cells
  obtain ⟨t, ht⟩ : ∃ t, Ak.sgB n ws at_ s = t := ⟨_, rfl⟩
  rw [ht] at c ⊢
  clear h ht
  go_enter Tryz.func73, Tryz.ntmps73
  go_wp2_with fail
  refine c.mono ?_
  rintro e w1 ⟨rfl, hb⟩
  go_wp2_with fail
  go_ret
  exact ⟨rfl, hb⟩
set_option maxRecDepth 100000 in
set_option maxHeartbeats 4000000 in
theorem akIsName (W : World) (P : Nat) (qv wv : Value) (n : Nat) (ws : Nat → Ak.Wo) (at_ op mo : Nat) (h : Ak.Ps W P qv wv n ws at_ op mo) (s : ByteArray) :
    Calls Tryz.prog 121 #[.pointer (some ⟨P, 0, none⟩), .string s] W fun r w' => r = .returned (.bool (Ak.nmB n ws at_ s)) ∧ Below W.heap.size W w' := by
  obtain ⟨p, cap, rfl⟩ := h.sl
  obtain ⟨_, c1, c2, _, _, _⟩ := h.c.cells
  unfold Ak.nmB
  by_cases hi : at_ < n
  · obtain ⟨b, o, rfl, w0, w1, _⟩ := h.word hi
    have t1 : (at_ : Int) < (n : Int) := by omega
    have t0 : (0 : Int) ≤ (at_ : Int) := by omega
    obtain ⟨x, hx⟩ : ∃ x, ws at_ = x := ⟨_, rfl⟩
    rw [hx] at w0 w1 ⊢
    obtain ⟨k, tx, nu, p0, p1, p2, p3⟩ := x
    dsimp only at w0 w1 ⊢
    rw [decide_eq_true hi, Bool.true_and]
    have d1 : decide ((at_ : Int) < (n : Int)) = true := decide_eq_true t1
    clear h hx hi
    by_cases hk : k = 0
    · subst hk
      by_cases ht : tx.toList = s.toList
      · have g : (tx.toList == s.toList) = true := by simpa using ht
        go_enter Tryz.func121, Tryz.ntmps121
        go_wp2_with fail
        go_quiet (fail)
        go_wp2_with fail
        go_ret
        exact ⟨by simp [ht], below_drewN (Below.refl _ _) nq⟩
      · have g : (tx.toList == s.toList) = false := by simpa using ht
        go_enter Tryz.func121, Tryz.ntmps121
        go_wp2_with fail
        go_quiet (fail)
        go_wp2_with fail
        go_ret
        exact ⟨by simp [ht], below_drewN (Below.refl _ _) nq⟩
    · have g : (k == 0) = false := by simpa using hk
      go_enter Tryz.func121, Tryz.ntmps121
      go_wp2_with fail
      go_quiet (fail)
      go_wp2_with fail
      go_ret
      exact ⟨by simp [hk], below_drewN (Below.refl _ _) nq⟩
  · have t2 : decide (at_ < n) = false := decide_eq_false hi
    rw [decide_eq_false hi, Bool.false_and]
    clear h hi
    go_enter Tryz.func121, Tryz.ntmps121
    go_wp2_with fail
    go_quiet (fail)
    go_wp2_with fail
    go_ret
    exact ⟨rfl, below_drewN (Below.refl _ _) nq⟩
namespace Ak
/-- is it a call of that name? -/
def clB (n : Nat) (ws : Nat → Wo) (i : Nat) (s : ByteArray) : Bool := nmB n ws i s && sgB n ws (i + 1) ⟨#[40]⟩
end Ak
set_option maxHeartbeats 2000000 in
theorem akCalls (W : World) (P : Nat) (qv wv : Value) (n : Nat) (ws : Nat → Ak.Wo) (at_ op mo : Nat) (h : Ak.Ps W P qv wv n ws at_ op mo) (s : ByteArray) :
    Calls Tryz.prog 122 #[.pointer (some ⟨P, 0, none⟩), .string s] W fun r w' => r = .returned (.bool (Ak.clB n ws at_ s)) ∧ Below W.heap.size W w' := by
  have c := akIsName W P qv wv n ws at_ op mo h s
  have d : ∀ W', Below W.heap.size W W' → _ := fun W' hb => akIsSign W' P qv wv n ws at_ op mo (h.below hb) (at_ + 1) ⟨#[40]⟩
  obtain ⟨_, _, c2, _, _, _⟩ := h.c.cells
  have HC2 : Hid (∀ W', Below W.heap.size W W' → W'.cell? ⟨P, 2, none⟩ = some (.int .i64 (at_ : Nat))) := fun W' hb => (hb.cell (p := ⟨P, 2, none⟩) h.c.lt).trans c2
  have tw : IntKind.i64.wrap ((at_ : Int) + 1) = ((at_ + 1 : Nat) : Int) := by have := h.atn; have := h.nn; rw [IntKind.wrap_i64]; omega
  unfold Ak.clB
  obtain ⟨t, ht⟩ : ∃ t, Ak.nmB n ws at_ s = t := ⟨_, rfl⟩
  obtain ⟨u, hu⟩ : ∃ u, Ak.sgB n ws (at_ + 1) ⟨#[40]⟩ = u := ⟨_, rfl⟩
  rw [ht] at c ⊢
  rw [hu] at d ⊢
  have D := hide' d
  clear h ht hu c2 d
  cases t
  · go_enter Tryz.func122, Tryz.ntmps122
    go_wp2_with fail
    refine c.mono ?_
    rintro e w1 ⟨rfl, hb⟩
    go_wp2_with fail
    go_ret
    exact ⟨rfl, hb⟩
  · go_enter Tryz.func122, Tryz.ntmps122
    go_wp2_with fail
    refine c.mono ?_
    rintro e w1 ⟨rfl, hb⟩
    have c2 := HC2.out w1 hb
    have HB := hide' hb
    have E := hide' (D.out w1 hb)
    clear hb c D
    go_wp2_with fail
    refine E.out.mono ?_
    rintro e w2 ⟨rfl, hb2⟩
    have HB2 := hide' (HB.out.trans (hb2.mono HB.out.size))
    clear hb2 E
    go_wp2_with fail
    go_ret
    exact ⟨by simp, HB2.out⟩
end Go.Proofs.YtcnagbkdckipnaaGreatDoor
/-
  WALKS over the parser's skip, need: it may give up.
-/
namespace Go.Proofs.YtcnagbkdckipnaaGreatDoor
open Go.RowKit Go.Lib
namespace Ak
/-- the place of a word, or of the end -/
def plC (n : Nat) (ws : Nat → Wo) (en : Wo) (i : Nat) : Wo := if i < n then ws i else en
/-- it gave up: where, why -/
def GvE (P : Nat) (W : World) (pl : Wo) (why : Int) (r : Ending) (w' : World) : Prop :=
  ∃ d, r = .panicked [{ v := .iface 41 (.pointer (some ⟨d, 0, none⟩)), recovered := false }] ∧ W.heap.size ≤ d ∧ w'.heap[d]? = some (.cells #[.int .i64 pl.p0, .int .i64 pl.p1, .int .i64 pl.p2, .int .i64 pl.p3, .int .i64 why] 72 (0, 0)) ∧ Pb P W w'
theorem GvE.pre {P : Nat} {W W1 : World} {pl : Wo} {why : Int} {r : Ending} {w' : World} (h : GvE P W1 pl why r w') (hp : Pb P W W1) : GvE P W pl why r w' := by
  obtain ⟨d, e, h1, h2, h3⟩ := h
  exact ⟨d, e, Nat.le_trans hp.size h1, h2, hp.trans h3⟩
/-- what a part of the parser comes to: what it has read, up to where; or where it gave up, and why -/
inductive Res (α : Type) where
  | ok (x : α) (a : Nat)
  | bad (a : Nat) (why : Int)
/-- what a call of it answers -/
def PrE {α : Type} (P : Nat) (qv wv : Value) (n : Nat) (ws : Nat → Wo) (en : Wo) (op mo : Nat) (W : World) (V : α → Value → World → Prop) : Res α → Ending → World → Prop
  | .ok x a, r, w' => ∃ v, r = .returned v ∧ V x v w' ∧ Pb P W w' ∧ Ps w' P qv wv n ws a op mo
  | .bad a why, r, w' => GvE P W (plC n ws en a) why r w'
theorem PrE.of_ok {α : Type} {P : Nat} {qv wv : Value} {n : Nat} {ws : Nat → Wo} {en : Wo} {op mo : Nat} {W : World} {V : α → Value → World → Prop} {x : α} {a : Nat} {v : Value} {w' : World} (h : V x v w') (h1 : Pb P W w') (h2 : Ps w' P qv wv n ws a op mo) : PrE P qv wv n ws en op mo W V (.ok x a) (.returned v) w' := ⟨v, rfl, h, h1, h2⟩
theorem PrE.of_bad {α : Type} {P : Nat} {qv wv : Value} {n : Nat} {ws : Nat → Wo} {en : Wo} {op mo : Nat} {W : World} {V : α → Value → World → Prop} {a : Nat} {why : Int} {r : Ending} {w' : World} (h : GvE P W (plC n ws en a) why r w') : PrE P qv wv n ws en op mo W V (.bad a why) r w' := h
/-- what giveUp is to do -/
def GU (P : Nat) (qv wv : Value) (n : Nat) (ws : Nat → Wo) (en : Wo) : Prop := ∀ (W : World) (at_ op mo : Nat) (why : Int), Ps W P qv wv n ws at_ op mo → Calls Tryz.prog 42 #[.pointer (some ⟨P, 0, none⟩), .int .i64 why] W fun r w' => GvE P W (plC n ws en at_) why r w'
end Ak
set_option maxHeartbeats 2000000 in
theorem akSkip (W : World) (P : Nat) (qv wv : Value) (n : Nat) (ws : Nat → Ak.Wo) (at_ op mo : Nat) (h : Ak.Ps W P qv wv n ws at_ op mo) (s : ByteArray) :
    Calls Tryz.prog 39 #[.pointer (some ⟨P, 0, none⟩), .string s] W fun r w' => r = .returned (.bool (Ak.sgB n ws at_ s)) ∧ Ak.Pb P W w' ∧ Ak.Ps w' P qv wv n ws (at_ + (Ak.sgB n ws at_ s).toNat) op mo := by
  have c := akIs W P qv wv n ws at_ op mo h s
  have hlt : Ak.sgB n ws at_ s = true → at_ < n := fun e => by unfold Ak.sgB at e; simp at e; exact e.1
  have H := hide' h
  have tw : IntKind.i64.wrap ((at_ : Int) + 1) = ((at_ + 1 : Nat) : Int) := by have := h.atn; have := h.nn; rw [IntKind.wrap_i64]; omega
  obtain ⟨t, ht⟩ : ∃ t, Ak.sgB n ws at_ s = t := ⟨_, rfl⟩
  rw [ht] at c hlt ⊢
  have HL := hide' hlt
  clear h ht hlt
  cases t
  · go_enter Tryz.func39, Tryz.ntmps39
    go_wp2_with fail
    refine c.mono ?_
    rintro e w1 ⟨rfl, hb⟩
    have HB := hide' hb
    clear hb c
    go_wp2_with fail
    go_ret
    exact ⟨rfl, .of_below HB.out, H.out.below HB.out⟩
  · go_enter Tryz.func39, Tryz.ntmps39
    go_wp2_with fail
    refine c.mono ?_
    rintro e w1 ⟨rfl, hb⟩
    have HB := hide' hb
    have hp1 := H.out.below hb
    obtain ⟨_, _, c2, _, _, c5⟩ := hp1.c.cells
    have f2 := c5 2
    have HP := hide' (hp1.go (Ak.Pb.set w1 P 2 (.int .i64 ((at_ + 1 : Nat) : Int))) (hp1.c.set2 (at_ + 1)) (HL.out trivial) hp1.opm)
    have HQ := hide' ((Ak.Pb.of_below (b := P) hb).setCell 2 (.int .i64 ((at_ + 1 : Nat) : Int)))
    clear hb c hp1 c5
    go_wp2_with fail
    go_ret
    exact ⟨rfl, HQ.out, HP.out⟩
namespace Ak
def needR (n : Nat) (ws : Nat → Wo) (i : Nat) (s : ByteArray) : Res Unit := if sgB n ws i s = true then .ok () (i + 1) else .bad i 105
def noV {α : Type} (_ : α) (v : Value) (_ : World) : Prop := v = .tuple #[]
end Ak
set_option maxHeartbeats 2000000 in
theorem akNeed (W : World) (P : Nat) (qv wv : Value) (n : Nat) (ws : Nat → Ak.Wo) (en : Ak.Wo) (at_ op mo : Nat) (h : Ak.Ps W P qv wv n ws at_ op mo) (hg : Ak.GU P qv wv n ws en) (s : ByteArray) :
    Calls Tryz.prog 102 #[.pointer (some ⟨P, 0, none⟩), .string s] W (Ak.PrE P qv wv n ws en op mo W Ak.noV (Ak.needR n ws at_ s)) := by
  have c := akSkip W P qv wv n ws at_ op mo h s
  have HG := hide' hg
  unfold Ak.needR
  obtain ⟨t, ht⟩ : ∃ t, Ak.sgB n ws at_ s = t := ⟨_, rfl⟩
  rw [ht] at c ⊢
  clear h ht hg
  cases t
  · rw [if_neg (by decide)]
    go_enter Tryz.func102, Tryz.ntmps102
    go_wp2_with fail
    refine c.mono ?_
    rintro e w1 ⟨rfl, hb, hp⟩
    have C := hide' (HG.out w1 _ op mo 105 hp)
    have HB := hide' hb
    clear c hb hp HG
    go_wp2_with fail
    refine C.out.mono ?_
    rintro e w2 hv
    obtain ⟨d, rfl, h1, h2, h3⟩ := hv
    have HV := hide' (Ak.PrE.of_bad (qv := qv) (wv := wv) (op := op) (mo := mo) (V := Ak.noV (α := Unit)) (Ak.GvE.pre ⟨d, rfl, h1, h2, h3⟩ HB.out))
    clear C h1 h2 h3
    go_wp2_with fail
    exact ⟨rfl, HV.out⟩
  · rw [if_pos rfl]
    go_enter Tryz.func102, Tryz.ntmps102
    go_wp2_with fail
    refine c.mono ?_
    rintro e w1 ⟨rfl, hb, hp⟩
    have HV := hide' (Ak.PrE.of_ok (en := en) (V := Ak.noV) (x := ()) (v := .tuple #[]) rfl hb hp)
    clear c hb hp HG
    go_wp2_with fail
    go_end0
    exact HV.out
namespace Ak
/-- a word of a kind -/
def takeR (n : Nat) (ws : Nat → Wo) (i : Nat) (k : Int) : Res Wo := if i < n ∧ (ws i).k = k then .ok (ws i) (i + 1) else .bad i 105
def woV (x : Wo) (v : Value) (_ : World) : Prop := v = .agg x.cs
end Ak
end Go.Proofs.YtcnagbkdckipnaaGreatDoor
/-
  WALKS over the parser's take, attr, emptyCall.
-/
namespace Go.Proofs.YtcnagbkdckipnaaGreatDoor
open Go.RowKit Go.Lib
namespace Ak
theorem PrE.pre {α : Type} {P : Nat} {qv wv : Value} {n : Nat} {ws : Nat → Wo} {en : Wo} {op mo : Nat} {W W1 : World} {V : α → Value → World → Prop} {R : Res α} {r : Ending} {w' : World} (h : PrE P qv wv n ws en op mo W1 V R r w') (hp : Pb P W W1) : PrE P qv wv n ws en op mo W V R r w' := by
  cases R with
  | ok x a =>
    obtain ⟨v, e, h1, h2, h3⟩ := h
    exact ⟨v, e, h1, hp.trans h2, h3⟩
  | bad a why => exact GvE.pre h hp
theorem heap_new (w : World) (o : Obj) : (w.alloc o).heap[w.heap.size]? = some o := by
  show (w.heap.push o)[w.heap.size]? = _
  exact Array.getElem?_push_size
theorem Pb.far {b : Nat} {w w' : World} (h : Pb b w w') {N : Nat} (hN : w.heap.size ≤ N) (i : Nat) (v : Value) : Pb b w (w'.setCell ⟨N, i, none⟩ v) :=
  ⟨h.os, h.tape, h.output, by have := h.size; simp; omega, fun k hk hn => (Below.heap_setCell w' ⟨N, i, none⟩ v k (by show k ≠ N; omega)).trans (h.block k hk hn)⟩
theorem PC.far {w : World} {P : Nat} {qv wv : Value} {at_ op mo : Nat} (h : PC w P qv wv at_ op mo) {N : Nat} (hN : P ≠ N) (i : Nat) (v : Value) : PC (w.setCell ⟨N, i, none⟩ v) P qv wv at_ op mo := (Below.heap_setCell w ⟨N, i, none⟩ v P hN).trans h
theorem PC.drew {w : World} {P : Nat} {qv wv : Value} {at_ op mo : Nat} (h : PC w P qv wv at_ op mo) : PC w.drew P qv wv at_ op mo := h
theorem range_of {w : World} {b : Nat} {cur : Array Value} {t : TypeId} (h : w.heap[b]? = some (.cells cur t (0, 0))) : w.rangeAt b 0 cur.toList := by
  intro j v hj
  rw [Nat.zero_add, Lib.cell_of_heap h]
  simpa using hj
theorem results_cell {P : Program} {fn : Func} {a : Nat} {t : TypeId} (hr : fn.results = #[.cell a t]) (tmps : Array Value) (p : Addr) (hp : tmps[a]?.getD undef = .pointer (some p)) (v : Value) (w : World) (h : (loadVar t p).run P w = .ok v w) : (results fn tmps).run P w = .ok v w := by
  unfold results
  rw [hr]
  simp [asAddr, hp, h]
theorem woSize : (Tryz.prog.info? 86).map (·.size) = some 7 := by kernel_rfl
theorem load_wo {w : World} {b : Nat} {cur : Array Value} (h : w.heap[b]? = some (.cells cur 86 (0, 0))) (h8 : cur.size = 7) : (loadVar 86 ⟨b, 0, none⟩).run Tryz.prog w = .ok (.agg cur) w := by
  have := run_loadVar_mid (P := Tryz.prog) w b 0 86 cur.toList _ (range_of h) Tryz.underlying86 rfl (by rw [woSize]; simp [h8])
  simpa using this
theorem set7 {w : World} {N : Nat} {a0 a1 a2 a3 a4 a5 a6 : Value} {t : TypeId} {f : Nat × Nat} (h : w.heap[N]? = some (.cells #[a0, a1, a2, a3, a4, a5, a6] t f)) (b0 b1 b2 b3 b4 b5 b6 : Value) :
    (((((((w.setCell ⟨N, 0, none⟩ b0).setCell ⟨N, 1, none⟩ b1).setCell ⟨N, 2, none⟩ b2).setCell ⟨N, 3, none⟩ b3).setCell ⟨N, 4, none⟩ b4).setCell ⟨N, 5, none⟩ b5).setCell ⟨N, 6, none⟩ b6).heap[N]? = some (.cells #[b0, b1, b2, b3, b4, b5, b6] t f) := by
  have h0 := Go.Joins.block_setCell (i := 0) h b0
  simp only [List.setIfInBounds_toArray, List.set_cons_zero] at h0
  have h1 := Go.Joins.block_setCell (i := 1) h0 b1
  simp only [List.setIfInBounds_toArray, List.set_cons_succ, List.set_cons_zero] at h1
  have h2 := Go.Joins.block_setCell (i := 2) h1 b2
  simp only [List.setIfInBounds_toArray, List.set_cons_succ, List.set_cons_zero] at h2
  have h3 := Go.Joins.block_setCell (i := 3) h2 b3
  simp only [List.setIfInBounds_toArray, List.set_cons_succ, List.set_cons_zero] at h3
  have h4 := Go.Joins.block_setCell (i := 4) h3 b4
  simp only [List.setIfInBounds_toArray, List.set_cons_succ, List.set_cons_zero] at h4
  have h5 := Go.Joins.block_setCell (i := 5) h4 b5
  simp only [List.setIfInBounds_toArray, List.set_cons_succ, List.set_cons_zero] at h5
  have h6 := Go.Joins.block_setCell (i := 6) h5 b6
  simp only [List.setIfInBounds_toArray, List.set_cons_succ, List.set_cons_zero] at h6
  exact h6
theorem load7 {w : World} {N : Nat} {a0 a1 a2 a3 a4 a5 a6 : Value} (h : w.heap[N]? = some (.cells #[a0, a1, a2, a3, a4, a5, a6] 86 (0, 0))) (b0 b1 b2 b3 b4 b5 b6 : Value) :
    (loadVar 86 ⟨N, 0, none⟩).run Tryz.prog (((((((w.setCell ⟨N, 0, none⟩ b0).setCell ⟨N, 1, none⟩ b1).setCell ⟨N, 2, none⟩ b2).setCell ⟨N, 3, none⟩ b3).setCell ⟨N, 4, none⟩ b4).setCell ⟨N, 5, none⟩ b5).setCell ⟨N, 6, none⟩ b6).drew = .ok (.agg #[b0, b1, b2, b3, b4, b5, b6]) (((((((w.setCell ⟨N, 0, none⟩ b0).setCell ⟨N, 1, none⟩ b1).setCell ⟨N, 2, none⟩ b2).setCell ⟨N, 3, none⟩ b3).setCell ⟨N, 4, none⟩ b4).setCell ⟨N, 5, none⟩ b5).setCell ⟨N, 6, none⟩ b6).drew := by
  have s := set7 h b0 b1 b2 b3 b4 b5 b6
  generalize (((((((w.setCell ⟨N, 0, none⟩ b0).setCell ⟨N, 1, none⟩ b1).setCell ⟨N, 2, none⟩ b2).setCell ⟨N, 3, none⟩ b3).setCell ⟨N, 4, none⟩ b4).setCell ⟨N, 5, none⟩ b5).setCell ⟨N, 6, none⟩ b6) = W at s ⊢
  exact load_wo (w := W.drew) s rfl
theorem far7 {w w0 : World} {P N : Nat} (h : Pb P w0 w) (hN : w0.heap.size ≤ N) {qv wv : Value} {at_ op mo : Nat} (hc : PC w P qv wv at_ op mo) (hP : P ≠ N) (b0 b1 b2 b3 b4 b5 b6 : Value) :
    Pb P w0 (((((((w.setCell ⟨N, 0, none⟩ b0).setCell ⟨N, 1, none⟩ b1).setCell ⟨N, 2, none⟩ b2).setCell ⟨N, 3, none⟩ b3).setCell ⟨N, 4, none⟩ b4).setCell ⟨N, 5, none⟩ b5).setCell ⟨N, 6, none⟩ b6).drew ∧ PC (((((((w.setCell ⟨N, 0, none⟩ b0).setCell ⟨N, 1, none⟩ b1).setCell ⟨N, 2, none⟩ b2).setCell ⟨N, 3, none⟩ b3).setCell ⟨N, 4, none⟩ b4).setCell ⟨N, 5, none⟩ b5).setCell ⟨N, 6, none⟩ b6).drew P qv wv at_ op mo :=
  ⟨(((((((h.far hN 0 b0).far hN 1 b1).far hN 2 b2).far hN 3 b3).far hN 4 b4).far hN 5 b5).far hN 6 b6).drew, PC.drew (PC.far (PC.far (PC.far (PC.far (PC.far (PC.far (PC.far hc hP 0 b0) hP 1 b1) hP 2 b2) hP 3 b3) hP 4 b4) hP 5 b5) hP 6 b6)⟩
end Ak
set_option maxRecDepth 100000 in
set_option maxHeartbeats 2000000 in
theorem akTake (W : World) (P : Nat) (qv wv : Value) (n : Nat) (ws : Nat → Ak.Wo) (en : Ak.Wo) (at_ op mo : Nat) (h0 : Ak.Ps W P qv wv n ws at_ op mo) (hg : Ak.GU P qv wv n ws en) (k : Int) :
    Calls Tryz.prog 103 #[.pointer (some ⟨P, 0, none⟩), .int .i64 k] W (Ak.PrE P qv wv n ws en op mo W Ak.woV (Ak.takeR n ws at_ k)) := by
  unfold Ak.takeR
  obtain ⟨p, cap, rfl⟩ := h0.sl
  obtain ⟨W1, hW1⟩ : ∃ X, X = W.alloc (.cells #[.int .i64 0, .string ⟨#[]⟩, .int .i64 0, .int .i64 0, .int .i64 0, .int .i64 0, .int .i64 0] 86) := ⟨_, rfl⟩
  have hb : Below W.heap.size W W1 := by rw [hW1]; exact (Below.refl _ _).alloc (Nat.le_refl _) _
  have hs : W1.heap.size = W.heap.size + 1 := by rw [hW1]; simp
  have hn : W1.heap[W.heap.size]? = some (.cells #[.int .i64 0, .string ⟨#[]⟩, .int .i64 0, .int .i64 0, .int .i64 0, .int .i64 0, .int .i64 0] 86 (0, 0)) := by rw [hW1]; exact Ak.heap_new _ _
  have h := h0.below hb
  have H0 := hide' h0
  have HW1 := hide' hW1
  have HB := hide' hb
  have hPl : P < W.heap.size := h0.c.lt
  obtain ⟨N, hN⟩ : ∃ N, W.heap.size = N := ⟨_, rfl⟩
  rw [hN] at hn
  have HN := hide' hn
  have HG := hide' hg
  obtain ⟨_, c1, c2, _, _, c5⟩ := h.c.cells
  have f2 := c5 2
  have tw : IntKind.i64.wrap ((at_ : Int) + 1) = ((at_ + 1 : Nat) : Int) := by have := h.atn; have := h.nn; rw [IntKind.wrap_i64]; omega
  have tv : IntKind.i64.wrap (at_ : Int) = (at_ : Int) := by have := h.atn; have := h.nn; rw [IntKind.wrap_i64]; omega
  have H := hide' h
  clear hW1 hb hn hg h0
  by_cases hi : at_ < n
  · obtain ⟨b, o, rfl, w0, w1, w2, w3, w4, w5, w6⟩ := h.word hi
    have t1 : (at_ : Int) < (n : Int) := by omega
    have t0 : (0 : Int) ≤ (at_ : Int) := by omega
    have t2 : ((at_ : Int) == (n : Int)) = false := by simp; omega
    obtain ⟨x, hx⟩ : ∃ x, ws at_ = x := ⟨_, rfl⟩
    have HX := hide' hx
    rw [hx] at w0 w1 w2 w3 w4 w5 w6 ⊢
    obtain ⟨k', tx, nu, p0, p1, p2, p3⟩ := x
    dsimp only at w0 w1 w2 w3 w4 w5 w6 ⊢
    have HI := hide' hi
    by_cases hk : k' = k
    · rw [if_pos ⟨hi, hk⟩]
      subst hk
      have hbN : b ≠ N := by
        obtain ⟨p', cap', e, _, _, h3⟩ := H0.out.w
        cases e
        obtain ⟨b', o', cur, e2, hb, _⟩ := h3 (by omega)
        cases e2
        have := (Array.getElem?_eq_some_iff.1 hb).1
        omega
      clear h hi
      go_enter Tryz.func103, Tryz.ntmps103
      go_wp2_with fail
      change Code.wp _ _ _ _ (W.alloc (.cells #[.int .i64 0, .string ⟨#[]⟩, .int .i64 0, .int .i64 0, .int .i64 0, .int .i64 0, .int .i64 0] 86))
      rw [← HW1.out]
      go_quiet (fail)
      obtain ⟨W2, hW2⟩ : ∃ X, X = W1.drewN nq := ⟨_, rfl⟩
      rw [← hW2]
      have hb2 : Below W1.heap.size W1 W2 := by rw [hW2]; exact below_drewN (Below.refl _ _) _
      have h2 := H.out.below hb2
      have hn2 := (hb2.block N (by omega)).trans HN.out
      have q2 := (Ak.Pb.of_below (b := P) HB.out).trans (.of_below (b := P) hb2)
      have l2 := h2.c.lt
      clear hW2 hb2
      obtain ⟨_, d1, d2, _, _, d5⟩ := h2.c.cells
      have g2 := d5 2
      have hPN : P ≠ N := by omega
      obtain ⟨W3, hW3⟩ : ∃ X, X = W2.setCell ⟨P, 2, none⟩ (.int .i64 ((at_ + 1 : Nat) : Int)) := ⟨_, rfl⟩
      have h3 := h2.go (W' := W3) (by rw [hW3]; exact Ak.Pb.set _ _ _ _) (by rw [hW3]; exact h2.c.set2 (at_ + 1)) HI.out h2.opm
      have q3 : Ak.Pb P W W3 := by rw [hW3]; exact q2.setCell _ _
      have hn3 : W3.heap[N]? = some (.cells #[.int .i64 0, .string ⟨#[]⟩, .int .i64 0, .int .i64 0, .int .i64 0, .int .i64 0, .int .i64 0] 86 (0, 0)) := by
        rw [hW3]
        exact (Below.heap_setCell W2 ⟨P, 2, none⟩ _ N (Ne.symm hPN)).trans hn2
      have HQ := hide' q3
      have H3 := hide' h3
      have HN3 := hide' hn3
      have z0 : W3.cell? ⟨N, 0, none⟩ = some (.int .i64 0) := by rw [Lib.cell_of_heap hn3]; rfl
      have zf0 : W3.frozen? ⟨N, 0, none⟩ = false := Lib.frozen_of_heap hn3 0
      have z1 : W3.cell? ⟨N, 1, none⟩ = some (.string ⟨#[]⟩) := by rw [Lib.cell_of_heap hn3]; rfl
      have zf1 : W3.frozen? ⟨N, 1, none⟩ = false := Lib.frozen_of_heap hn3 1
      have z2 : W3.cell? ⟨N, 2, none⟩ = some (.int .i64 0) := by rw [Lib.cell_of_heap hn3]; rfl
      have zf2 : W3.frozen? ⟨N, 2, none⟩ = false := Lib.frozen_of_heap hn3 2
      have z3 : W3.cell? ⟨N, 3, none⟩ = some (.int .i64 0) := by rw [Lib.cell_of_heap hn3]; rfl
      have zf3 : W3.frozen? ⟨N, 3, none⟩ = false := Lib.frozen_of_heap hn3 3
      have z4 : W3.cell? ⟨N, 4, none⟩ = some (.int .i64 0) := by rw [Lib.cell_of_heap hn3]; rfl
      have zf4 : W3.frozen? ⟨N, 4, none⟩ = false := Lib.frozen_of_heap hn3 4
      have z5 : W3.cell? ⟨N, 5, none⟩ = some (.int .i64 0) := by rw [Lib.cell_of_heap hn3]; rfl
      have zf5 : W3.frozen? ⟨N, 5, none⟩ = false := Lib.frozen_of_heap hn3 5
      have z6 : W3.cell? ⟨N, 6, none⟩ = some (.int .i64 0) := by rw [Lib.cell_of_heap hn3]; rfl
      have zf6 : W3.frozen? ⟨N, 6, none⟩ = false := Lib.frozen_of_heap hn3 6
      have HW3 := hide' hW3
      obtain ⟨_, d3, d4, _, _, _⟩ := h3.c.cells
      obtain ⟨b', o', e, y0, y1, y2, y3, y4, y5, y6⟩ := h3.word HI.out
      cases e
      rw [HX.out] at y0 y1 y2 y3 y4 y5 y6
      dsimp only at y0 y1 y2 y3 y4 y5 y6
      clear c1 c2 w0 w1 w2 w3 w4 w5 w6 h2 hn2 q2 d5 q3 h3 hn3 hW3
      go_wp2_with fail
      change Code.wp _ _ _ _ (W2.setCell ⟨P, 2, none⟩ (.int .i64 ((at_ + 1 : Nat) : Int)))
      rw [← HW3.out]
      go_region
      go_wp2_with fail
      have hle : W.heap.size ≤ N := by omega
      have qq := Ak.far7 HQ.out hle H3.out.c hPN (.int .i64 k') (.string tx) (.int .i64 nu) (.int .i64 p0) (.int .i64 p1) (.int .i64 p2) (.int .i64 p3)
      have s7 := Ak.load7 HN3.out (.int .i64 k') (.string tx) (.int .i64 nu) (.int .i64 p0) (.int .i64 p1) (.int .i64 p2) (.int .i64 p3)
      revert qq s7
      generalize World.drew _ = WF
      intro qq s7
      refine bodyPost_ret (Ak.results_cell Tryz.results103 _ ⟨N, 0, none⟩ rfl _ _ s7) rfl ?_
      exact Ak.PrE.of_ok rfl qq.1 (H0.out.go qq.1 qq.2 HI.out H0.out.opm)
    · rw [if_neg (fun e => hk e.2)]
      have g : (k' == k) = false := by simpa using hk
      clear h hx hk hi
      go_enter Tryz.func103, Tryz.ntmps103
      go_wp2_with fail
      change Code.wp _ _ _ _ (W.alloc (.cells #[.int .i64 0, .string ⟨#[]⟩, .int .i64 0, .int .i64 0, .int .i64 0, .int .i64 0, .int .i64 0] 86))
      rw [← HW1.out]
      go_quiet (fail)
      go_wp2_with fail
      refine (HG.out _ at_ op mo 105 (H.out.below (below_drewN (Below.refl _ _) nq))).mono ?_
      rintro e w2 hv
      obtain ⟨d, rfl, h1, h2, h3⟩ := hv
      have HV := hide' (Ak.PrE.of_bad (qv := qv) (wv := .slice (some ⟨b, o, none⟩) n cap) (op := op) (mo := mo) (V := Ak.woV) (Ak.GvE.pre ⟨d, rfl, h1, h2, h3⟩ (((Ak.Pb.of_below (b := P) HB.out)).drewN nq)))
      clear h1 h2 h3
      go_wp2_with fail
      exact ⟨rfl, HV.out⟩
  · rw [if_neg (fun e => hi e.1)]
    have t2 : ((at_ : Int) == (n : Int)) = true := by have := h.atn; simp; omega
    clear h hi
    go_enter Tryz.func103, Tryz.ntmps103
    go_wp2_with fail
    change Code.wp _ _ _ _ (W.alloc (.cells #[.int .i64 0, .string ⟨#[]⟩, .int .i64 0, .int .i64 0, .int .i64 0, .int .i64 0, .int .i64 0] 86))
    rw [← HW1.out]
    go_quiet (fail)
    go_wp2_with fail
    refine (HG.out _ at_ op mo 105 (H.out.below (below_drewN (Below.refl _ _) nq))).mono ?_
    rintro e w2 hv
    obtain ⟨d, rfl, h1, h2, h3⟩ := hv
    have HV := hide' (Ak.PrE.of_bad (qv := qv) (wv := .slice p n cap) (op := op) (mo := mo) (V := Ak.woV) (Ak.GvE.pre ⟨d, rfl, h1, h2, h3⟩ (((Ak.Pb.of_below (b := P) HB.out)).drewN nq)))
    clear h1 h2 h3
    go_wp2_with fail
    exact ⟨rfl, HV.out⟩
end Go.Proofs.YtcnagbkdckipnaaGreatDoor
