import Derived.Test.YtoccedbnnafjcaaDoorLxPrM
import Derived.Lib.SmallJoins
import Derived.Test.YtoccedbnnafjcaaDoorRnChars
import Derived.Test.YtoccedbnnafjcaaDoorRnEnc
import Derived.Laws.AppendOwnNone
import Derived.Test.YtoccedbnnafjcaaDoorLxValM
import Derived.Laws.CopyRow
/-
  WALKS over runes.New, (*Decoder).Take and (*Decoder).Pending.
-/
namespace Go.Proofs.YtoccedbnnafjcaaDoor
open Go.RowKit Go.Lib

namespace Rn
def upd (x : Nat → Nat) (n v : Nat) : Nat → Nat := fun j => if j = n then v else x j
theorem upd_lt {x : Nat → Nat} {n v : Nat} (hx : ∀ j, x j < 256) (hv : v < 256) : ∀ j, upd x n v j < 256 := by
  intro j
  unfold upd
  split
  · exact hv
  · exact hx j
end Rn

structure But (D : Nat) (w w' : World) : Prop where
  os : w'.os = w.os
  tape : w'.tape = w.tape
  output : w'.output = w.output
  size : w.heap.size ≤ w'.heap.size
  block : ∀ k, k < w.heap.size → k ≠ D → w'.heap[k]? = w.heap[k]?
theorem But.of_below {D : Nat} {w w' : World} (h : Below w.heap.size w w') : But D w w' :=
  ⟨h.os, h.tape, h.output, h.size, fun k hk _ => h.block k hk⟩
theorem But.of_alloc {D : Nat} {w w' : World} {o : Obj} (h : Below (w.alloc o).heap.size (w.alloc o) w') : But D w w' :=
  But.of_below (((Below.refl w.heap.size w).alloc (Nat.le_refl _) o).trans (h.mono (by simp)))
theorem But.trans {D : Nat} {a b c : World} (h : But D a b) (k : But D b c) : But D a c :=
  ⟨k.os.trans h.os, k.tape.trans h.tape, k.output.trans h.output, Nat.le_trans h.size k.size, fun i hi hn => (k.block i (Nat.lt_of_lt_of_le hi h.size) hn).trans (h.block i hi hn)⟩
theorem But.setCell {D : Nat} {w w' : World} {p : Addr} (h : But D w w') (hp : p.block = D) (v : Value) : But D w (w'.setCell p v) := by
  have hb := (Below.refl 0 w').setCell (p := p) (Nat.zero_le _) v
  exact ⟨hb.os.trans h.os, hb.tape.trans h.tape, hb.output.trans h.output, Nat.le_trans h.size hb.size, fun k hk hn => (Below.heap_setCell w' p v k (by rw [hp]; exact hn)).trans (h.block k hk hn)⟩
theorem But.below {D B : Nat} {w w' : World} (h : But D w w') (hB : B ≤ D) (hw : B ≤ w.heap.size) : Below B w w' :=
  ⟨h.os, h.tape, h.output, h.size, fun k hk => h.block k (by omega) (by omega)⟩

theorem But.set {D : Nat} {w w' : World} (h : But D w w') (v0 v1 v2 v3 v4 : Value) :
    But D w (((((w'.setCell ⟨D, 0, none⟩ v0).setCell ⟨D, 1, none⟩ v1).setCell ⟨D, 2, none⟩ v2).setCell ⟨D, 3, none⟩ v3).setCell ⟨D, 4, none⟩ v4) :=
  ((((h.setCell (p := ⟨D, 0, none⟩) rfl _).setCell (p := ⟨D, 1, none⟩) rfl _).setCell (p := ⟨D, 2, none⟩) rfl _).setCell (p := ⟨D, 3, none⟩) rfl _).setCell (p := ⟨D, 4, none⟩) rfl _

end Go.Proofs.YtoccedbnnafjcaaDoor
/-
  THE WALK over (*gimletref01.Decoder).Take.
-/
namespace Go.Proofs.YtoccedbnnafjcaaDoor
open Go.RowKit Go.Lib

/-- the first n bytes, as cells -/
def xs (x : Nat → Nat) (n : Nat) : List Value := (List.range n).map fun j => .int .u8 (x j)
theorem xs_length (x : Nat → Nat) (n : Nat) : (xs x n).length = n := by simp [xs]
theorem xs_get (x : Nat → Nat) (n j : Nat) (u : Value) (h : (xs x n)[j]? = some u) : j < n ∧ u = .int .u8 (x j) := by
  unfold xs at h
  rw [List.getElem?_map] at h
  rcases Nat.lt_or_ge j n with hj | hj
  · rw [List.getElem?_range hj] at h
    simp at h
    exact ⟨hj, h.symm⟩
  · rw [List.getElem?_eq_none (by simpa using hj)] at h
    cases h
theorem xs_at (x : Nat → Nat) (n j : Nat) (h : j < n) : (xs x n)[j]? = some (.int .u8 (x j)) := by
  unfold xs
  rw [List.getElem?_map, List.getElem?_range h]
  rfl
theorem xs_upd (x : Nat → Nat) (n v : Nat) : xs x n ++ [.int .u8 v] = xs (Rn.upd x n v) (n + 1) := by
  apply List.ext_getElem?
  intro j
  rcases Nat.lt_trichotomy j n with h | h | h
  · rw [List.getElem?_append_left (by rw [xs_length]; exact h), xs_at _ _ _ h, xs_at _ _ _ (by omega)]
    simp [Rn.upd, Nat.ne_of_lt h]
  · subst h
    rw [List.getElem?_append_right (by rw [xs_length]; omega), xs_length, xs_at _ _ _ (by omega)]
    simp [Rn.upd]
  · rw [List.getElem?_eq_none (by simp [xs_length]; omega), List.getElem?_eq_none (by rw [xs_length]; omega)]
theorem bytes_of_owns {w : World} {B g n cap : Nat} {x : Nat → Nat} (h : w.ownsRow B 5 1 (.slice (some ⟨g, 0, none⟩) n cap) n (xs x n)) : Bytes w g 0 n x := by
  intro j hj
  have := h.cells (g := g) rfl j _ (xs_at x n j hj)
  rw [show (Addr.add ⟨g, 0, none⟩ j) = ⟨g, 0 + j, none⟩ by simp [Addr.add]; omega] at this
  exact this

/-- the document's Decoder: what was taken, was there a Bad -/
def RefAt (w : World) (M : Nat) (v : Value) (x : Nat → Nat) (n : Nat) (bad : Bool) : Prop :=
  w.heap[M]? = some (.cells #[v, .bool bad] 60 (0, 0)) ∧ w.ownsRow 0 5 1 v n (xs x n)

theorem infoByte' : (Tryd.prog.info? 5).map (fun i => (i.zero, i.size, i.bytes)) = some (some (.int .u8 0), 1, 1) := by kernel_rfl

theorem owns_empty (w : World) : (w.alloc (.cells #[] 5)).ownsRow w.heap.size 5 1 (.slice (some ⟨w.heap.size, 0, none⟩) 0 0) 0 [] :=
  ⟨rfl, .inr ⟨w.heap.size, 0, #[], rfl, Nat.le_refl _, (by show (w.heap.push _)[w.heap.size]? = _; simp), Nat.le_refl _, by decide, rfl, rfl⟩⟩
theorem one_news (W : World) (v : Nat) : ∀ j u, ([.int .u8 v] : List Value)[j]? = some u → (W.alloc (.cells #[.int .u8 v] 5)).cell? (Addr.add ⟨W.heap.size, 0, none⟩ j) = some u := by
  intro j u hj
  match j, hj with
  | 0, hj => simp at hj; subst hj; simp [Addr.add]
  | (j + 1), hj => simp at hj
theorem one_cell (x : Nat → Nat) (n : Nat) : ∀ u ∈ xs x n, u.oneCell' = true := by
  intro u hu
  unfold xs at hu
  obtain ⟨j, _, rfl⟩ := List.mem_map.1 hu
  rfl
theorem one_cell' (v : Nat) : ∀ u ∈ ([.int .u8 v] : List Value), u.oneCell' = true := by
  intro u hu
  simp at hu
  subst hu
  rfl

/-- how the document's Take ends -/
inductive RefEnd (M : Nat) (v0 : Value) (x : Nat → Nat) (n v : Nat) (w : World) (e : Ending) (w' : World) : Prop
  | whole (h : Rn.whole (Rn.upd x n v) (n + 1) = true) (he : e = .returned (.tuple #[.int .i64 (Rn.fv (Rn.upd x n v)), .int .i64 0])) (hd : RefAt w' M (.slice none 0 0) (fun _ => 0) 0 false) (hb : But M w w')
  | waits (h : Rn.waits (Rn.upd x n v) (n + 1) = true) (he : e = .returned (.tuple #[.int .i64 0, .int .i64 1])) (hd : ∃ v1, RefAt w' M v1 (Rn.upd x n v) (n + 1) false) (hb : But M w w')
  | bad (h : Rn.whole (Rn.upd x n v) (n + 1) = false) (h2 : Rn.waits (Rn.upd x n v) (n + 1) = false) (he : e = .returned (.tuple #[.int .i64 0, .int .i64 2])) (hd : RefAt w' M v0 x n true) (hb : But M w w')

theorem kept_grown {w w' : World} {B : Nat} {e : TypeId} {size : Nat} {v : Value} {n : Nat} {ys : List Value} (h : w.ownsRow B e size v n ys) (hk : ∀ g, v.ownBlock = some g → w'.heap[g]? = w.heap[g]?) : w'.ownsRow B e size v n ys := by
  refine ⟨h.1, ?_⟩
  rcases h.2 with h1 | ⟨g, cap, cur, hv, hb, hg, rest⟩
  · exact .inl h1
  · exact .inr ⟨g, cap, cur, hv, hb, (hk g (by rw [hv]; rfl)).trans hg, rest⟩
theorem _root_.Go.World.ownsRow.kept_below {w w' : World} {B : Nat} {e : TypeId} {size : Nat} {v : Value} {n : Nat} {ys : List Value} (h : w.ownsRow B e size v n ys) (hb : Below w.heap.size w w') : w'.ownsRow B e size v n ys :=
  kept_grown h fun g hg => hb.block g (h.lt g hg).2
theorem _root_.Go.World.ownsRow.setOther {w : World} {B : Nat} {e : TypeId} {size : Nat} {v : Value} {n : Nat} {ys : List Value} (h : w.ownsRow B e size v n ys) {k i : Nat} (hk : v.ownBlock ≠ some k) (u : Value) : (w.setCell ⟨k, i, none⟩ u).ownsRow B e size v n ys :=
  kept_grown h fun g hg => Below.heap_setCell w ⟨k, i, none⟩ u g (fun e => hk (by rw [hg]; exact congrArg some e))
/-- a store into a block of another kind -/
theorem _root_.Go.World.ownsRow.setKept {w : World} {B : Nat} {v : Value} {n : Nat} {ys : List Value} (h : w.ownsRow B 5 1 v n ys) {k i : Nat} {c : Array Value} {fz : Nat × Nat} (hk : w.heap[k]? = some (.cells c 60 fz)) (u : Value) : (w.setCell ⟨k, i, none⟩ u).ownsRow B 5 1 v n ys := by
  refine h.setOther ?_ u
  intro e
  rcases h.2 with ⟨h1, _⟩ | ⟨g, cap, cur, hv, hb, hg, rest⟩
  · rw [h1] at e; cases e
  · rw [hv] at e
    have : g = k := Option.some.inj e
    subst this
    rw [hk] at hg
    simp at hg
theorem _root_.Go.World.ownsRow.base {w : World} {B B' : Nat} {e : TypeId} {size : Nat} {v : Value} {n : Nat} {ys : List Value} (h : w.ownsRow B e size v n ys) (hB : B' ≤ B) : w.ownsRow B' e size v n ys := by
  refine ⟨h.1, ?_⟩
  rcases h.2 with h1 | ⟨g, cap, cur, hv, hb, rest⟩
  · exact .inl h1
  · exact .inr ⟨g, cap, cur, hv, by omega, rest⟩
theorem Bytes.setOther {w : World} {b off n : Nat} {f : Nat → Nat} (h : Bytes w b off n f) {k i : Nat} (hk : b ≠ k) (u : Value) : Bytes (w.setCell ⟨k, i, none⟩ u) b off n f := by
  intro j hj
  have := h j hj
  rw [← this]
  exact World.cell?_of_block (Below.heap_setCell w ⟨k, i, none⟩ u b hk)
theorem front_first (f : Nat → Nat) (n b off cap : Nat) (w : World) (ha : 0 < n) (hn : n ≤ 4611686018427387904) (hp : Bytes w b off n f) :
    Calls Tryd.prog 48 #[.slice (some ⟨b, off, none⟩) n cap, .int .i64 0] w fun e w' => e = .returned (.tuple #[.int .i64 (Rn.fk f n), .int .i64 (Rn.fs f n)]) ∧ w' = w := by
  have h := front_in f n b off cap 0 w ha hn hp
  rw [Rn.off_zero, Nat.sub_zero] at h
  exact h

namespace Rn
/-- one byte behind bytes that wait: a character of just so many bytes, a beginning of one, or none -/
theorem next_three {f : Nat → Nat} {n : Nat} (h : n = 0 ∨ waits f n = true) :
    (whole f (n + 1) = true ∧ waits f (n + 1) = false ∧ fk f (n + 1) = n + 1 ∧ fs f (n + 1) = n + 1) ∨
    (waits f (n + 1) = true ∧ whole f (n + 1) = false ∧ fk f (n + 1) = n + 1 ∧ n + 1 < fs f (n + 1)) ∨
    (whole f (n + 1) = false ∧ waits f (n + 1) = false ∧ (fs f (n + 1) = 0 ∨ fk f (n + 1) < n + 1)) := by
  have a1 := fk_le f (n + 1)
  have a2 := fk_le_fs f (n + 1)
  have e1 : fs f (n + 1) = size (f 0) := by unfold fs; rw [if_neg (by omega)]
  have hlt : n = 0 ∨ n < size (f 0) := by
    rcases h with h | h
    · exact .inl h
    · simp only [waits, decide_eq_true_eq] at h
      by_cases h0 : n = 0
      · exact .inl h0
      · have e2 : fs f n = size (f 0) := by unfold fs; rw [if_neg h0]
        omega
  by_cases c1 : fs f (n + 1) = 0
  · refine .inr (.inr ⟨?_, ?_, .inl c1⟩)
    · simp [whole, c1]
    · simp [waits, c1]
  · by_cases c2 : fk f (n + 1) < n + 1
    · refine .inr (.inr ⟨?_, ?_, .inr c2⟩)
      · simp only [whole, decide_eq_false_iff_not]; omega
      · simp only [waits, decide_eq_false_iff_not]; omega
    · by_cases c3 : fs f (n + 1) = n + 1
      · refine .inl ⟨?_, ?_, by omega, c3⟩
        · simp only [whole, decide_eq_true_eq]; omega
        · simp only [waits, decide_eq_false_iff_not]; omega
      · refine .inr (.inl ⟨?_, ?_, by omega, by omega⟩)
        · simp only [waits, decide_eq_true_eq]; omega
        · simp only [whole, decide_eq_false_iff_not]; omega
theorem waits_upd {x : Nat → Nat} {n v : Nat} (h : waits x n = true) : waits (upd x n v) n = true := by
  rw [← h]
  exact waits_congr fun j hj => by simp [upd, Nat.ne_of_lt hj]
end Rn

set_option maxRecDepth 100000 in
set_option maxHeartbeats 4000000 in
theorem refTake_nil (M : Nat) (x : Nat → Nat) (v : Nat) (w : World) (hv : v < 256) (hx : ∀ j, x j < 256) (h : RefAt w M (.slice none 0 0) x 0 false) :
    Calls Tryd.prog 24 #[.pointer (some ⟨M, 0, none⟩), .int .u8 v] w fun e w' => RefEnd M (.slice none 0 0) x 0 v w e w' := by
  have c0 : w.cell? ⟨M, 0, none⟩ = some (.slice none 0 0) := by rw [Lib.cell_of_heap h.1]; rfl
  have c1 : w.cell? ⟨M, 1, none⟩ = some (.bool false) := by rw [Lib.cell_of_heap h.1]; rfl
  have hM := block_lt_of_cell c0
  obtain ⟨i0, hi, hz0, hz1, hz2⟩ := info_parts infoByte'
  have h3 := hide' (Rn.next_three (f := Rn.upd x 0 v) (n := 0) (.inl rfl))
  have tok1 : True := trivial
  go_enter Tryd.func24, Tryd.ntmps24
  go_wp2_with (first
    | (at_builtin; have _t := tok1; refine wpList_append_own_none rfl _ _ 22 rfl w.heap.size 5 i0 1 Tryd.underlying22 hi _ 0 [] rfl (owns_empty w) rfl ?_; clear tok1)
    | (at_builtin; refine wpList_append_own _ rfl _ _ 22 rfl w.heap.size 5 i0 (.int .u8 0) 1 1 Tryd.underlying22 hi hz0 hz1 hz2 rfl (by decide) _ 0 [] rfl ((owns_empty w).alloc _) ⟨w.heap.size + 1, 0, none⟩ 1 1 [.int .u8 v] rfl rfl ?c1 ?c2 ?c3 ?c4 ?c5 ?_))
  case c2 => rfl
  case c3 => decide
  case c5 => omega
  intro v2 w2 hown2 hgrow _
  rw [show ([.int .u8 v] : List Value) = xs (Rn.upd x 0 v) (0 + 1) from xs_upd x 0 v] at hown2
  have hB : Below w.heap.size w w2 := ((((Below.refl w.heap.size w).alloc (Nat.le_refl _) _).alloc (by simp) _)).grown hgrow (by simp; omega) (fun k hk => by simp [Value.ownBlock] at hk; omega)
  obtain ⟨g, cap, cur, rfl, hg, hgg, hc1, hc2, _, _⟩ : ∃ g cap cur, v2 = .slice (some ⟨g, 0, none⟩) (1) cap ∧ w.heap.size ≤ g ∧ w2.heap[g]? = some (.cells cur 5 (0, 0)) ∧ 1 ≤ cap ∧ cap ≤ maxLen ∧ cur.size = cap * 1 ∧ cur.toList.take ((1) * 1) = xs (Rn.upd x 0 v) (1) := by
    rcases hown2.2 with ⟨_, h⟩ | h
    · omega
    · exact h
  have hby := bytes_of_owns hown2
  have hux := Rn.upd_lt (n := 0) hx hv
  have cF := front_first (Rn.upd x 0 v) (1) g 0 cap w2 (by omega) (by omega) hby
  have hM2 : w2.heap[M]? = some (.cells #[.slice none 0 0, .bool false] 60 (0, 0)) := (hB.block M hM).trans h.1
  have hoM : w2.ownsRow 0 5 1 (.slice none 0 0) (0) (xs x (0)) := h.2.kept_below hB
  have hgM : g ≠ M := by omega
  have d0 : w2.cell? ⟨M, 0, none⟩ = some (.slice none 0 0) := by rw [Lib.cell_of_heap hM2]; rfl
  have d1 : w2.cell? ⟨M, 1, none⟩ = some (.bool false) := by rw [Lib.cell_of_heap hM2]; rfl
  have f0 : w2.frozen? ⟨M, 0, none⟩ = false := Lib.frozen_of_heap hM2 0
  have f1 : w2.frozen? ⟨M, 1, none⟩ = false := Lib.frozen_of_heap hM2 1
  have hbu : But M w w2 := But.of_below hB
  have HM2 := hide' hM2
  have HOM := hide' hoM
  have HO2 := hide' hown2
  have HBU := hide' hbu
  clear hM2 hoM hown2 hgrow c0 c1 hB hbu
  rcases h3.out with ⟨k1, k2, k3, k4⟩ | ⟨k1, k2, k3, k4⟩ | ⟨k1, k2, k3⟩
  · rw [k3, k4] at cF
    have cV := value_any (Rn.upd x 0 v) (1) g 0 cap
    have cV' : ∀ W, Bytes W g 0 (1) (Rn.upd x 0 v) → _ := fun W hbW => cV W hux k1 k4 hbW
    have hbs : Bytes (w2.setCell ⟨M, 0, none⟩ (.slice none 0 0)) g 0 (1) (Rn.upd x 0 v) := hby.setOther (k := M) (i := 0) (by omega) _
    have K1 := hide' k1
    clear cV k1 k2 k3 k4 hby
    go_wp2_with fail
    refine cF.mono ?_
    rintro e w3 ⟨rfl, rfl⟩
    go_wp2_with fail
    refine (cV' _ hbs).mono ?_
    rintro e w4 ⟨rfl, rfl⟩
    go_wp2_with fail
    go_ret2
    exact .whole K1.out rfl ⟨Go.Joins.block_setCell (i := 0) HM2.out _, World.ownsRow_nil _ _ _ _⟩ (HBU.out.setCell (p := ⟨M, 0, none⟩) rfl _)
  · rw [k3] at cF
    have K1 := hide' k1
    generalize hz : Rn.fs (Rn.upd x 0 v) (1) = z at *
    have z0 : ((z : Int) == 0) = false := by simp; omega
    have z1 : (((1 : Nat) : Int) == z) = false := by simp; omega
    clear k1 k2 k3 hby hz
    go_wp2_with fail
    refine cF.mono ?_
    rintro e w3 ⟨rfl, rfl⟩
    go_wp2_with fail
    go_ret2
    exact .waits K1.out rfl ⟨_, Go.Joins.block_setCell (i := 0) HM2.out _, (HO2.out.base (Nat.zero_le _)).setOther (k := M) (by show some g ≠ some M; intro e; exact hgM (Option.some.inj e)) _⟩ (HBU.out.setCell (p := ⟨M, 0, none⟩) rfl _)
  · have K1 := hide' k1
    have K2 := hide' k2
    generalize hz : Rn.fs (Rn.upd x 0 v) (1) = z at *
    generalize hq : Rn.fk (Rn.upd x 0 v) (1) = q at *
    clear k1 k2 hby hz hq
    by_cases zz : z = 0
    · subst zz
      go_wp2_with fail
      refine cF.mono ?_
      rintro e w3 ⟨rfl, rfl⟩
      go_wp2_with fail
      go_ret2
      exact .bad K1.out K2.out rfl ⟨Go.Joins.block_setCell (i := 1) HM2.out _, HOM.out.setKept HM2.out _⟩ (HBU.out.setCell (p := ⟨M, 1, none⟩) rfl _)
    · have z0 : ((z : Int) == 0) = false := by simp; omega
      have z1 : (q : Int) < ((1 : Nat) : Int) := by omega
      go_wp2_with fail
      refine cF.mono ?_
      rintro e w3 ⟨rfl, rfl⟩
      go_wp2_with fail
      go_ret2
      exact .bad K1.out K2.out rfl ⟨Go.Joins.block_setCell (i := 1) HM2.out _, HOM.out.setKept HM2.out _⟩ (HBU.out.setCell (p := ⟨M, 1, none⟩) rfl _)

set_option maxRecDepth 100000 in
set_option maxHeartbeats 4000000 in
theorem refTake_some (M : Nat) (x : Nat → Nat) (n v gt capt : Nat) (w : World) (hv : v < 256) (hx : ∀ j, x j < 256) (hn : 0 < n) (hn4 : n < 4) (hw : Rn.waits x n = true) (h : RefAt w M (.slice (some ⟨gt, 0, none⟩) n capt) x n false) :
    Calls Tryd.prog 24 #[.pointer (some ⟨M, 0, none⟩), .int .u8 v] w fun e w' => RefEnd M (.slice (some ⟨gt, 0, none⟩) n capt) x n v w e w' := by
  have c0 : w.cell? ⟨M, 0, none⟩ = some (.slice (some ⟨gt, 0, none⟩) n capt) := by rw [Lib.cell_of_heap h.1]; rfl
  have c1 : w.cell? ⟨M, 1, none⟩ = some (.bool false) := by rw [Lib.cell_of_heap h.1]; rfl
  have hM := block_lt_of_cell c0
  obtain ⟨i0, hi, hz0, hz1, hz2⟩ := info_parts infoByte'
  have h3 := hide' (Rn.next_three (f := Rn.upd x n v) (n := n) (.inr (Rn.waits_upd hw)))
  have hgt : gt < w.heap.size := (h.2.lt gt rfl).2
  have hnews : ∀ j u, (xs x n)[j]? = some u → (w.alloc (.cells #[] 5)).cell? (Addr.add ⟨gt, 0, none⟩ j) = some u := fun j u hu => (h.2.alloc _).cells rfl j u hu
  have tok1 : True := trivial
  have hml : n ≤ 140737488355328 := by omega
  go_enter Tryd.func24, Tryd.ntmps24
  go_wp2_with (first
    | (at_builtin; have _t := tok1; refine wpList_append_own _ rfl _ _ 22 rfl w.heap.size 5 i0 (.int .u8 0) 1 1 Tryd.underlying22 hi hz0 hz1 hz2 rfl (by decide) _ 0 [] rfl (owns_empty w) ⟨gt, 0, none⟩ n capt (xs x n) rfl ?b0 hnews (one_cell x n) ?b1 ?b2 ?b3 ?_; clear tok1))
  case b0 => exact xs_length x n
  case b1 => unfold maxLen; omega
  intro v1 w1 hown1 hgrow1 _
  have hB1 : Below w.heap.size w w1 := ((Below.refl w.heap.size w).alloc (Nat.le_refl _) _).grown hgrow1 (by simp) (fun k hk => by simp [Value.ownBlock] at hk; omega)
  obtain ⟨g1, cap1, rfl⟩ : ∃ g1 cap1, v1 = .slice (some ⟨g1, 0, none⟩) n cap1 := by
    rcases hown1.2 with ⟨_, h⟩ | ⟨g, cap, cur, hv, _⟩
    · omega
    · exact ⟨g, cap, hv⟩
  have hs1 := hB1.size
  have hone := one_news w1 v
  go_wp2_with (at_builtin; refine wpList_append_own _ rfl _ _ 22 rfl w.heap.size 5 i0 (.int .u8 0) 1 1 Tryd.underlying22 hi hz0 hz1 hz2 rfl (by decide) _ n (xs x n) rfl (hown1.alloc _) ⟨w1.heap.size, 0, none⟩ 1 1 [.int .u8 v] rfl rfl ?c1 ?c2 ?c3 ?c4 ?c5 ?_)
  case c1 => exact hone
  case c2 => exact one_cell' v
  case c3 => unfold maxLen; omega
  case c4 => omega
  case c5 => simp; omega
  intro v2 w2 hown2 hgrow _
  rw [xs_upd] at hown2
  have hB : Below w.heap.size w w2 := (hB1.alloc (by omega) _).grown hgrow (by simp; omega) (fun k hk => (hown1.lt k hk).1)
  obtain ⟨g, cap, cur, rfl, hg, hgg, hc1, hc2, _, _⟩ : ∃ g cap cur, v2 = .slice (some ⟨g, 0, none⟩) (n + 1) cap ∧ w.heap.size ≤ g ∧ w2.heap[g]? = some (.cells cur 5 (0, 0)) ∧ n + 1 ≤ cap ∧ cap ≤ maxLen ∧ cur.size = cap * 1 ∧ cur.toList.take ((n + 1) * 1) = xs (Rn.upd x n v) (n + 1) := by
    rcases hown2.2 with ⟨_, h⟩ | h
    · omega
    · exact h
  have hby := bytes_of_owns hown2
  have hux := Rn.upd_lt (n := n) hx hv
  have cF := front_first (Rn.upd x n v) (n + 1) g 0 cap w2 (by omega) (by omega) hby
  have hM2 : w2.heap[M]? = some (.cells #[.slice (some ⟨gt, 0, none⟩) n capt, .bool false] 60 (0, 0)) := (hB.block M hM).trans h.1
  have hoM : w2.ownsRow 0 5 1 (.slice (some ⟨gt, 0, none⟩) n capt) (n) (xs x (n)) := h.2.kept_below hB
  have hgM : g ≠ M := by omega
  have d0 : w2.cell? ⟨M, 0, none⟩ = some (.slice (some ⟨gt, 0, none⟩) n capt) := by rw [Lib.cell_of_heap hM2]; rfl
  have d1 : w2.cell? ⟨M, 1, none⟩ = some (.bool false) := by rw [Lib.cell_of_heap hM2]; rfl
  have f0 : w2.frozen? ⟨M, 0, none⟩ = false := Lib.frozen_of_heap hM2 0
  have f1 : w2.frozen? ⟨M, 1, none⟩ = false := Lib.frozen_of_heap hM2 1
  have hbu : But M w w2 := But.of_below hB
  have HM2 := hide' hM2
  have HOM := hide' hoM
  have HO2 := hide' hown2
  have HBU := hide' hbu
  clear hM2 hoM hown2 hgrow c0 c1 hB hbu
  rcases h3.out with ⟨k1, k2, k3, k4⟩ | ⟨k1, k2, k3, k4⟩ | ⟨k1, k2, k3⟩
  · rw [k3, k4] at cF
    have cV := value_any (Rn.upd x n v) (n + 1) g 0 cap
    have cV' : ∀ W, Bytes W g 0 (n + 1) (Rn.upd x n v) → _ := fun W hbW => cV W hux k1 k4 hbW
    have hbs : Bytes (w2.setCell ⟨M, 0, none⟩ (.slice none 0 0)) g 0 (n + 1) (Rn.upd x n v) := hby.setOther (k := M) (i := 0) (by omega) _
    have K1 := hide' k1
    clear cV k1 k2 k3 k4 hby
    go_wp2_with fail
    refine cF.mono ?_
    rintro e w3 ⟨rfl, rfl⟩
    go_wp2_with fail
    refine (cV' _ hbs).mono ?_
    rintro e w4 ⟨rfl, rfl⟩
    go_wp2_with fail
    go_ret2
    exact .whole K1.out rfl ⟨Go.Joins.block_setCell (i := 0) HM2.out _, World.ownsRow_nil _ _ _ _⟩ (HBU.out.setCell (p := ⟨M, 0, none⟩) rfl _)
  · rw [k3] at cF
    have K1 := hide' k1
    generalize hz : Rn.fs (Rn.upd x n v) (n + 1) = z at *
    have z0 : ((z : Int) == 0) = false := by simp; omega
    have z1 : (((n + 1 : Nat) : Int) == z) = false := by simp; omega
    clear k1 k2 k3 hby hz
    go_wp2_with fail
    refine cF.mono ?_
    rintro e w3 ⟨rfl, rfl⟩
    go_wp2_with fail
    go_ret2
    exact .waits K1.out rfl ⟨_, Go.Joins.block_setCell (i := 0) HM2.out _, (HO2.out.base (Nat.zero_le _)).setOther (k := M) (by show some g ≠ some M; intro e; exact hgM (Option.some.inj e)) _⟩ (HBU.out.setCell (p := ⟨M, 0, none⟩) rfl _)
  · have K1 := hide' k1
    have K2 := hide' k2
    generalize hz : Rn.fs (Rn.upd x n v) (n + 1) = z at *
    generalize hq : Rn.fk (Rn.upd x n v) (n + 1) = q at *
    clear k1 k2 hby hz hq
    by_cases zz : z = 0
    · subst zz
      go_wp2_with fail
      refine cF.mono ?_
      rintro e w3 ⟨rfl, rfl⟩
      go_wp2_with fail
      go_ret2
      exact .bad K1.out K2.out rfl ⟨Go.Joins.block_setCell (i := 1) HM2.out _, HOM.out.setKept HM2.out _⟩ (HBU.out.setCell (p := ⟨M, 1, none⟩) rfl _)
    · have z0 : ((z : Int) == 0) = false := by simp; omega
      have z1 : (q : Int) < ((n + 1 : Nat) : Int) := by omega
      go_wp2_with fail
      refine cF.mono ?_
      rintro e w3 ⟨rfl, rfl⟩
      go_wp2_with fail
      go_ret2
      exact .bad K1.out K2.out rfl ⟨Go.Joins.block_setCell (i := 1) HM2.out _, HOM.out.setKept HM2.out _⟩ (HBU.out.setCell (p := ⟨M, 1, none⟩) rfl _)
end Go.Proofs.YtoccedbnnafjcaaDoor
/-
  WALKS over runes.Put of no bytes.
-/
namespace Go.Proofs.YtoccedbnnafjcaaDoor
open Go.RowKit Go.Lib

theorem infoByte : (Tryd.prog.info? 5).map (fun i => (i.zero, i.size, i.bytes)) = some (some (.int .u8 0), 1, 1) := by kernel_rfl
end Go.Proofs.YtoccedbnnafjcaaDoor
