import Derived.Test.YtgbldbohadacmaaRnChars
import Derived.Test.YtgbldbohadacmaaRnDec
import Derived.Test.YtgbldbohadacmaaRnEnc
import Derived.Laws.AppendOwnNone
import Derived.Test.YtgbldbohadacmaaRnTk
import Derived.Deep.QuietTactic
import Derived.BigQuiet
/-
  THE WALK over (*gimletref01.Decoder).Take.
-/
namespace Go.Proofs.Ytgbldbohadacmaa
open Go.RowKit Go.Lib

/-- the first n bytes, as cells -/
def xs (x : Nat → Nat) (n : Nat) : List Value := (List.range n).map fun j => .int .u8 (x j)
theorem xs_length (x : Nat → Nat) (n : Nat) : (xs x n).length = n := by simp [xs]
theorem xs_get (x : Nat → Nat) (n j : Nat) (u : Value) (h : (xs x n)[j]? = some u) : j < n ∧ u = .int .u8 (x j) := by
  unfold xs at h
  rw [List.getElem?_map] at h
  rcases Nat.lt_or_ge j n with hj | hj
  · rw [List.getElem?_range hj] at h
    simp at h
    exact ⟨hj, h.symm⟩
  · rw [List.getElem?_eq_none (by simpa using hj)] at h
    cases h
theorem xs_at (x : Nat → Nat) (n j : Nat) (h : j < n) : (xs x n)[j]? = some (.int .u8 (x j)) := by
  unfold xs
  rw [List.getElem?_map, List.getElem?_range h]
  rfl
theorem xs_upd (x : Nat → Nat) (n v : Nat) : xs x n ++ [.int .u8 v] = xs (Rn.upd x n v) (n + 1) := by
  apply List.ext_getElem?
  intro j
  rcases Nat.lt_trichotomy j n with h | h | h
  · rw [List.getElem?_append_left (by rw [xs_length]; exact h), xs_at _ _ _ h, xs_at _ _ _ (by omega)]
    simp [Rn.upd, Nat.ne_of_lt h]
  · subst h
    rw [List.getElem?_append_right (by rw [xs_length]; omega), xs_length, xs_at _ _ _ (by omega)]
    simp [Rn.upd]
  · rw [List.getElem?_eq_none (by simp [xs_length]; omega), List.getElem?_eq_none (by rw [xs_length]; omega)]
theorem bytes_of_owns {w : World} {B g n cap : Nat} {x : Nat → Nat} (h : w.ownsRow B 5 1 (.slice (some ⟨g, 0, none⟩) n cap) n (xs x n)) : Bytes w g 0 n x := by
  intro j hj
  have := h.cells (g := g) rfl j _ (xs_at x n j hj)
  rw [show (Addr.add ⟨g, 0, none⟩ j) = ⟨g, 0 + j, none⟩ by simp [Addr.add]; omega] at this
  exact this

theorem infoByte' : (Try.prog.info? 5).map (fun i => (i.zero, i.size, i.bytes)) = some (some (.int .u8 0), 1, 1) := by kernel_rfl

theorem owns_empty (w : World) : (w.alloc (.cells #[] 5)).ownsRow w.heap.size 5 1 (.slice (some ⟨w.heap.size, 0, none⟩) 0 0) 0 [] :=
  ⟨rfl, .inr ⟨w.heap.size, 0, #[], rfl, Nat.le_refl _, (by show (w.heap.push _)[w.heap.size]? = _; simp), Nat.le_refl _, by decide, rfl, rfl⟩⟩
theorem one_news (W : World) (v : Nat) : ∀ j u, ([.int .u8 v] : List Value)[j]? = some u → (W.alloc (.cells #[.int .u8 v] 5)).cell? (Addr.add ⟨W.heap.size, 0, none⟩ j) = some u := by
  intro j u hj
  match j, hj with
  | 0, hj => simp at hj; subst hj; simp [Addr.add]
  | (j + 1), hj => simp at hj
theorem one_cell (x : Nat → Nat) (n : Nat) : ∀ u ∈ xs x n, u.oneCell' = true := by
  intro u hu
  unfold xs at hu
  obtain ⟨j, _, rfl⟩ := List.mem_map.1 hu
  rfl
theorem one_cell' (v : Nat) : ∀ u ∈ ([.int .u8 v] : List Value), u.oneCell' = true := by
  intro u hu
  simp at hu
  subst hu
  rfl

theorem kept_grown {w w' : World} {B : Nat} {e : TypeId} {size : Nat} {v : Value} {n : Nat} {ys : List Value} (h : w.ownsRow B e size v n ys) (hk : ∀ g, v.ownBlock = some g → w'.heap[g]? = w.heap[g]?) : w'.ownsRow B e size v n ys := by
  refine ⟨h.1, ?_⟩
  rcases h.2 with h1 | ⟨g, cap, cur, hv, hb, hg, rest⟩
  · exact .inl h1
  · exact .inr ⟨g, cap, cur, hv, hb, (hk g (by rw [hv]; rfl)).trans hg, rest⟩
theorem _root_.Go.World.ownsRow.kept_below {w w' : World} {B : Nat} {e : TypeId} {size : Nat} {v : Value} {n : Nat} {ys : List Value} (h : w.ownsRow B e size v n ys) (hb : Below w.heap.size w w') : w'.ownsRow B e size v n ys :=
  kept_grown h fun g hg => hb.block g (h.lt g hg).2
theorem _root_.Go.World.ownsRow.setOther {w : World} {B : Nat} {e : TypeId} {size : Nat} {v : Value} {n : Nat} {ys : List Value} (h : w.ownsRow B e size v n ys) {k i : Nat} (hk : v.ownBlock ≠ some k) (u : Value) : (w.setCell ⟨k, i, none⟩ u).ownsRow B e size v n ys :=
  kept_grown h fun g hg => Below.heap_setCell w ⟨k, i, none⟩ u g (fun e => hk (by rw [hg]; exact congrArg some e))
theorem _root_.Go.World.ownsRow.base {w : World} {B B' : Nat} {e : TypeId} {size : Nat} {v : Value} {n : Nat} {ys : List Value} (h : w.ownsRow B e size v n ys) (hB : B' ≤ B) : w.ownsRow B' e size v n ys := by
  refine ⟨h.1, ?_⟩
  rcases h.2 with h1 | ⟨g, cap, cur, hv, hb, rest⟩
  · exact .inl h1
  · exact .inr ⟨g, cap, cur, hv, by omega, rest⟩
theorem Bytes.setOther {w : World} {b off n : Nat} {f : Nat → Nat} (h : Bytes w b off n f) {k i : Nat} (hk : b ≠ k) (u : Value) : Bytes (w.setCell ⟨k, i, none⟩ u) b off n f := by
  intro j hj
  have := h j hj
  rw [← this]
  exact World.cell?_of_block (Below.heap_setCell w ⟨k, i, none⟩ u b hk)
theorem front_first (f : Nat → Nat) (n b off cap : Nat) (w : World) (ha : 0 < n) (hn : n ≤ 4611686018427387904) (hp : Bytes w b off n f) :
    Calls Try.prog 33 #[.slice (some ⟨b, off, none⟩) n cap, .int .i64 0] w fun e w' => e = .returned (.tuple #[.int .i64 (Rn.fk f n), .int .i64 (Rn.fs f n)]) ∧ w' = w := by
  have h := front_in f n b off cap 0 w ha hn hp
  rw [Rn.off_zero, Nat.sub_zero] at h
  exact h

namespace Rn
/-- one byte behind bytes that wait: a character of just so many bytes, a beginning of one, or none -/
theorem next_three {f : Nat → Nat} {n : Nat} (h : n = 0 ∨ waits f n = true) :
    (whole f (n + 1) = true ∧ waits f (n + 1) = false ∧ fk f (n + 1) = n + 1 ∧ fs f (n + 1) = n + 1) ∨
    (waits f (n + 1) = true ∧ whole f (n + 1) = false ∧ fk f (n + 1) = n + 1 ∧ n + 1 < fs f (n + 1)) ∨
    (whole f (n + 1) = false ∧ waits f (n + 1) = false ∧ (fs f (n + 1) = 0 ∨ fk f (n + 1) < n + 1)) := by
  have a1 := fk_le f (n + 1)
  have a2 := fk_le_fs f (n + 1)
  have e1 : fs f (n + 1) = size (f 0) := by unfold fs; rw [if_neg (by omega)]
  have hlt : n = 0 ∨ n < size (f 0) := by
    rcases h with h | h
    · exact .inl h
    · simp only [waits, decide_eq_true_eq] at h
      by_cases h0 : n = 0
      · exact .inl h0
      · have e2 : fs f n = size (f 0) := by unfold fs; rw [if_neg h0]
        omega
  by_cases c1 : fs f (n + 1) = 0
  · refine .inr (.inr ⟨?_, ?_, .inl c1⟩)
    · simp [whole, c1]
    · simp [waits, c1]
  · by_cases c2 : fk f (n + 1) < n + 1
    · refine .inr (.inr ⟨?_, ?_, .inr c2⟩)
      · simp only [whole, decide_eq_false_iff_not]; omega
      · simp only [waits, decide_eq_false_iff_not]; omega
    · by_cases c3 : fs f (n + 1) = n + 1
      · refine .inl ⟨?_, ?_, by omega, c3⟩
        · simp only [whole, decide_eq_true_eq]; omega
        · simp only [waits, decide_eq_false_iff_not]; omega
      · refine .inr (.inl ⟨?_, ?_, by omega, by omega⟩)
        · simp only [waits, decide_eq_true_eq]; omega
        · simp only [whole, decide_eq_false_iff_not]; omega
theorem waits_upd {x : Nat → Nat} {n v : Nat} (h : waits x n = true) : waits (upd x n v) n = true := by
  rw [← h]
  exact waits_congr fun j hj => by simp [upd, Nat.ne_of_lt hj]
end Rn

end Go.Proofs.Ytgbldbohadacmaa
/-
  THE WALK over gimletlaw01.takes: one byte, by both Decoders.
-/
namespace Go.Proofs.Ytgbldbohadacmaa
open Go.RowKit Go.Lib

/-- what two calls may turn: the blocks D and M, and what they make themselves -/
structure But2 (D M : Nat) (w w' : World) : Prop where
  os : w'.os = w.os
  tape : w'.tape = w.tape
  output : w'.output = w.output
  size : w.heap.size ≤ w'.heap.size
  block : ∀ k, k < w.heap.size → k ≠ D → k ≠ M → w'.heap[k]? = w.heap[k]?
theorem But2.of {D M : Nat} {a b c : World} (h : But D a b) (k : But M b c) : But2 D M a c :=
  ⟨k.os.trans h.os, k.tape.trans h.tape, k.output.trans h.output, Nat.le_trans h.size k.size, fun i hi h1 h2 => (k.block i (Nat.lt_of_lt_of_le hi h.size) h2).trans (h.block i hi h1)⟩
theorem But2.refl (D M : Nat) (w : World) : But2 D M w w := ⟨rfl, rfl, rfl, Nat.le_refl _, fun _ _ _ _ => rfl⟩
theorem But2.drewN {D M : Nat} {w w' : World} (h : But2 D M w w') (n : Nat) : But2 D M w (w'.drewN n) := ⟨h.os, h.tape, h.output, h.size, h.block⟩
theorem But2.below {D M B : Nat} {w w' : World} (h : But2 D M w w') (hD : B ≤ D) (hM : B ≤ M) (hw : B ≤ w.heap.size) : Below B w w' :=
  ⟨h.os, h.tape, h.output, h.size, fun k hk => h.block k (by omega) (by omega) (by omega)⟩
theorem lt_of_heap {w : World} {k : Nat} {o : Obj} (h : w.heap[k]? = some o) : k < w.heap.size := (Array.getElem?_eq_some_iff.1 h).1
theorem row_ne {w : World} {B k : Nat} {v : Value} {n : Nat} {ys : List Value} {c : Array Value} {t : TypeId} {fz : Nat × Nat} (h : w.ownsRow B 5 1 v n ys) (hk : w.heap[k]? = some (.cells c t fz)) (ht : t ≠ 5) : ∀ g, v.ownBlock = some g → g ≠ k := by
  rintro g hg rfl
  rcases h.2 with ⟨h1, _⟩ | ⟨g', cap, cur, hv, hb, hgg, rest⟩
  · rw [h1] at hg; cases hg
  · rw [hv] at hg
    have : g' = g := Option.some.inj hg
    subst this
    rw [hk] at hgg
    cases hgg
    exact ht rfl
/-- takes, once both answers are there -/
theorem upd_zero_lt : ∀ j : Nat, (fun _ : Nat => 0) j < 256 := fun _ => by show 0 < 256; omega

theorem But.refl (D : Nat) (w : World) : But D w w := ⟨rfl, rfl, rfl, Nat.le_refl _, fun _ _ _ => rfl⟩
theorem fv_bound (f : Nat → Nat) (hf : ∀ j, f j < 256) : -2147483648 ≤ ((Rn.fv f : Nat) : Int) ∧ ((Rn.fv f : Nat) : Int) ≤ 2147483647 := by
  have := Rn.fv_le f hf
  omega

end Go.Proofs.Ytgbldbohadacmaa
/-
  THE WALK over the document's At.
-/
namespace Go.Proofs.Ytgbldbohadacmaa
open Go.RowKit Go.Lib

namespace Rn
/-- does a line end behind this character? in the document's words -/
def endR (f : Nat → Nat) (n : Nat) (x : Nat × Nat × Nat) : Bool := decide (x.2.1 = 10 ∨ (x.2.1 = 13 ∧ ¬ (x.1 + x.2.2 < n ∧ f (x.1 + x.2.2) = 10)))
def stepL (f : Nat → Nat) (n : Nat) (st : Nat × Nat × Nat) (x : Nat × Nat × Nat) : Nat × Nat × Nat :=
  if endR f n x then (st.1 + 1, st.2.1 + 1, 1) else (st.1 + 1, st.2.1, st.2.2 + 1)
def plcL (f : Nat → Nat) (n : Nat) (l : List (Nat × Nat × Nat)) : Nat × Nat × Nat := l.foldl (stepL f n) (0, 1, 1)
theorem plcL_snoc (f : Nat → Nat) (n : Nat) (l : List (Nat × Nat × Nat)) (x : Nat × Nat × Nat) : plcL f n (l ++ [x]) = stepL f n (plcL f n l) x := by simp [plcL, List.foldl_append]
/-- a carriage return is one byte -/
theorem dec_cr (f : Nat → Nat) (n : Nat) (hf : ∀ j, f j < 256) (hn : 0 < n) (h : (dec f n).1 = 13) : (dec f n).2 = 1 := by
  rw [dec_whole f n hf hn] at h ⊢
  split at h
  · next hw =>
    rw [if_pos hw]
    have hw' := hw
    simp only [whole, decide_eq_true_eq] at hw
    rcases whl_of (whole_self hw').1 (whole_self hw').2 with ⟨e, _⟩ | ⟨e, h0, h0', h1, h1', hv⟩ | ⟨e, h0, h0', h1, h1', h2, h2', hv⟩ | ⟨e, h0, h0', h1, h1', h2, h2', h3, h3', hv⟩
    · exact e
    · simp only [pv, Nat.reduceAdd] at hv; simp only at h; omega
    · simp only [pv, Nat.reduceAdd] at hv
      have : size (f 0) = 3 := by have e0 : fs f n = size (f 0) := by unfold fs; rw [if_neg (by omega)]
                                  omega
      simp only at h
      have hk := hw.2
      rw [e] at hk
      have e0 : fs f n = size (f 0) := by unfold fs; rw [if_neg (by omega)]
      unfold fk at hk
      have := (len3 this).1 hk
      rcases size_cases (f 0) with c | c | ⟨_, _, _, c | c | c⟩ | c | c <;> omega
    · simp only [pv, Nat.reduceAdd] at hv
      have h4 : size (f 0) = 4 := by have e0 : fs f n = size (f 0) := by unfold fs; rw [if_neg (by omega)]
                                     omega
      simp only at h
      have hk := hw.2
      rw [e] at hk
      unfold fk at hk
      have := (len4 h4).1 hk
      rcases size_cases (f 0) with c | c | c | ⟨_, _, _, c | c | c⟩ | c <;> omega
  · simp at h
theorem plcFrom_eq (f : Nat → Nat) (n a : Nat) (hf : ∀ j, f j < 256) (ha : a ≤ n) : ∀ (fuel p rn ln co : Nat), plcFrom f n a fuel p rn ln co = (chlFrom f a fuel p).foldl (stepL f n) (rn, ln, co)
  | 0, p, rn, ln, co => rfl
  | fuel + 1, p, rn, ln, co => by
    unfold plcFrom chlFrom
    by_cases h : p < a
    · rw [if_neg (by omega), if_pos h, List.foldl_cons]
      have hcr := dec_cr (off f p) (a - p) (fun _ => hf _) (by omega)
      have e : lineEnd f n p (dec (off f p) (a - p)).1 = endR f n (p, (dec (off f p) (a - p)).1, (dec (off f p) (a - p)).2) := by
        unfold lineEnd endR
        by_cases h13 : (dec (off f p) (a - p)).1 = 13
        · rw [if_pos h13, hcr h13, h13]
          rw [Bool.eq_iff_iff]
          simp
          omega
        · rw [if_neg h13]
          rw [Bool.eq_iff_iff]
          simp [h13]
      rw [e]
      cases he : endR f n (p, (dec (off f p) (a - p)).1, (dec (off f p) (a - p)).2)
      · simp only [Bool.false_eq_true, if_false]
        rw [plcFrom_eq f n a hf ha]
        simp [stepL, he]
      · simp only [if_true]
        rw [plcFrom_eq f n a hf ha]
        simp [stepL, he]
    · rw [if_pos (by omega), if_neg h]
      rfl
theorem plc_eq (f : Nat → Nat) (n a : Nat) (hf : ∀ j, f j < 256) (ha : a ≤ n) : plc f n a = plcL f n (chl f a) := plcFrom_eq f n a hf ha _ _ _ _ _
theorem chlFrom_mem (f : Nat → Nat) (n : Nat) (hf : ∀ j, f j < 256) : ∀ (fuel p : Nat) (x : Nat × Nat × Nat), x ∈ chlFrom f n fuel p → x.1 < n ∧ 0 < x.2.2 ∧ x.1 + x.2.2 ≤ n ∧ x.2.1 < 2097152
  | 0, p, x, h => by cases h
  | fuel + 1, p, x, h => by
    unfold chlFrom at h
    split at h
    · next hp =>
      rcases List.mem_cons.1 h with rfl | h
      · have := dec_pos (off f p) (n - p) (fun _ => hf _) (by omega)
        have h2 := dec_lt (off f p) (n - p) (fun _ => hf _) (by omega)
        exact ⟨hp, this.1, by show p + (dec (off f p) (n - p)).2 ≤ n; omega, h2⟩
      · exact chlFrom_mem f n hf fuel _ x h
    · cases h
theorem plcL_bound (f : Nat → Nat) (n : Nat) (l : List (Nat × Nat × Nat)) : (plcL f n l).1 = l.length ∧ (plcL f n l).2.1 ≤ l.length + 1 ∧ (plcL f n l).2.2 ≤ l.length + 1 := by
  suffices h : ∀ k, ∀ l : List (Nat × Nat × Nat), l.length = k → (plcL f n l).1 = l.length ∧ (plcL f n l).2.1 ≤ l.length + 1 ∧ (plcL f n l).2.2 ≤ l.length + 1 from h _ l rfl
  intro k
  induction k with
  | zero =>
    intro l hl
    obtain rfl : l = [] := List.length_eq_zero_iff.1 hl
    exact ⟨rfl, Nat.le_refl _, Nat.le_refl _⟩
  | succ k ih =>
    intro l hl
    obtain ⟨l', x, rfl⟩ : ∃ l' x, l = l' ++ [x] := ⟨l.dropLast, l.getLast (by intro h; rw [h] at hl; cases hl), (List.dropLast_concat_getLast _).symm⟩
    have := ih l' (by simpa using hl)
    rw [plcL_snoc]
    unfold stepL
    split <;> simp <;> omega
end Rn
theorem But.drewN {D : Nat} {w w' : World} (h : But D w w') (n : Nat) : But D w (w'.drewN n) := ⟨h.os, h.tape, h.output, h.size, h.block⟩
theorem heap_new' (w : World) (o : Obj) {k : Nat} (h : k = w.heap.size) : (w.alloc o).heap[k]? = some o := by
  subst h
  show (w.heap.push o)[w.heap.size]? = _
  simp
theorem chCells_get (l : List (Nat × Nat × Nat)) (i : Nat) (h : i < l.length) : (chCells l)[3 * i]? = some (.int .i64 l[i].1) ∧ (chCells l)[3 * i + 1]? = some (.int .i64 l[i].2.1) ∧ (chCells l)[3 * i + 2]? = some (.int .i64 l[i].2.2) := by
  induction l generalizing i with
  | nil => simp at h
  | cons a l ih =>
    have e : chCells (a :: l) = chOne a ++ chCells l := by simp [chCells]
    rw [e]
    cases i with
    | zero => simp [chOne]
    | succ j =>
      have := ih j (by simpa using h)
      have e1 : 3 * (j + 1) = 3 * j + 3 := by omega
      rw [e1]
      simp only [chOne, List.cons_append, List.nil_append]
      simpa using this

end Go.Proofs.Ytgbldbohadacmaa
