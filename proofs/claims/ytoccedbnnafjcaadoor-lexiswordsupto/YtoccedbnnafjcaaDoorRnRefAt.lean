import Derived.Test.YtoccedbnnafjcaaDoorRnPut
import Derived.Deep.QuietTactic
import Derived.BigQuiet
import Derived.Test.YtoccedbnnafjcaaDoorRnChars
/-
  Take, in the words of the bytes that come: it waits, or a character is whole.
-/
namespace Go.Proofs.YtoccedbnnafjcaaDoor
open Go.RowKit Go.Lib

namespace Rn
/-- the first k bytes, then noughts -/
def cut (f : Nat → Nat) (k : Nat) : Nat → Nat := fun j => if j < k then f j else 0
theorem cut_zero (f : Nat → Nat) : cut f 0 = fun _ => 0 := by funext j; simp [cut]
theorem cut_succ (f : Nat → Nat) (k : Nat) : upd (cut f k) k (f k) = cut f (k + 1) := by
  funext j
  unfold upd cut
  by_cases h : j = k
  · subst h; simp
  · by_cases h2 : j < k
    · rw [if_neg h, if_pos h2, if_pos (by omega)]
    · rw [if_neg h, if_neg h2, if_neg (by omega)]
theorem cut_eq (f : Nat → Nat) (k : Nat) : ∀ j, j < k → f j = cut f k j := fun j hj => by simp [cut, hj]
theorem cut_lt {f : Nat → Nat} (hf : ∀ j, f j < 256) (k : Nat) : ∀ j, cut f k j < 256 := by
  intro j
  unfold cut
  split
  · exact hf j
  · omega
/-- 'string(r)' is the bytes that Put writes -/
theorem encode_arr (r : Int) : Utf8.encode (want r) = arr (eb r) (el r) := by
  have h := eb_enc r
  have hv : Utf8.valid (want r) = true := by
    unfold Utf8.valid want
    split
    · rfl
    · simp; omega
  have hw : 0 ≤ want r := by
    unfold want
    split <;> omega
  unfold Utf8.encode
  rw [if_pos hv]
  dsimp only
  generalize (want r).toNat = v at *
  cases h with
  | one hn h0 hv =>
    rw [if_pos hv, hn]
    apply congrArg ByteArray.mk
    apply Array.ext
    · simp
    · intro i h1 h2
      simp at h1
      subst h1
      simp [h0]
  | two hn h0 h1 hv hv2 =>
    rw [if_neg (by omega), if_pos hv2, hn]
    apply congrArg ByteArray.mk
    apply Array.ext
    · simp
    · intro i g1 g2
      have : i = 0 ∨ i = 1 := by simp at g1; omega
      rcases this with rfl | rfl
      · simp [h0]
      · simp [h1]
  | three hn h0 h1 h2 hv hv2 hv3 =>
    rw [if_neg (by omega), if_neg (by omega), if_pos hv2, hn]
    apply congrArg ByteArray.mk
    apply Array.ext
    · simp
    · intro i g1 g2
      have : i = 0 ∨ i = 1 ∨ i = 2 := by simp at g1; omega
      rcases this with rfl | rfl | rfl
      · simp [h0]
      · simp [h1]
      · simp [h2]
  | four hn h0 h1 h2 h3 hv hv2 =>
    rw [if_neg (by omega), if_neg (by omega), if_neg (by omega), hn]
    apply congrArg ByteArray.mk
    apply Array.ext
    · simp
    · intro i g1 g2
      have : i = 0 ∨ i = 1 ∨ i = 2 ∨ i = 3 := by simp at g1; omega
      rcases this with rfl | rfl | rfl | rfl
      · simp [h0]
      · simp [h1]
      · simp [h2]
      · simp [h3]
end Rn

end Go.Proofs.YtoccedbnnafjcaaDoor
/-
  THE WALK over gimletlaw01.takes: one byte, by both Decoders.
-/
namespace Go.Proofs.YtoccedbnnafjcaaDoor
open Go.RowKit Go.Lib

set_option maxHeartbeats 1000000 in
theorem refTake_bad (M : Nat) (v0 : Value) (x : Nat → Nat) (n : Nat) (v : Int) (w : World) (h : RefAt w M v0 x n true) :
    Calls Tryd.prog 24 #[.pointer (some ⟨M, 0, none⟩), .int .u8 v] w fun e w' => e = .returned (.tuple #[.int .i64 0, .int .i64 2]) ∧ w' = w := by
  have c1 : w.cell? ⟨M, 1, none⟩ = some (.bool true) := by rw [Lib.cell_of_heap h.1]; rfl
  go_enter Tryd.func24, Tryd.ntmps24
  go_wp2
  go_ret2
  exact ⟨rfl, rfl⟩
theorem refTake_any (M : Nat) (v0 : Value) (x : Nat → Nat) (n v : Nat) (w : World) (hv : v < 256) (hx : ∀ j, x j < 256) (hn4 : n < 4) (hw : n = 0 ∨ Rn.waits x n = true) (hnil : n = 0 → v0 = .slice none 0 0) (h : RefAt w M v0 x n false) :
    Calls Tryd.prog 24 #[.pointer (some ⟨M, 0, none⟩), .int .u8 v] w fun e w' => RefEnd M v0 x n v w e w' := by
  by_cases h0 : n = 0
  · obtain rfl := hnil h0
    subst h0
    exact refTake_nil M x v w hv hx h
  · rcases h.2.2 with ⟨_, h1⟩ | ⟨g, cap, cur, rfl, _⟩
    · exact absurd h1 h0
    · exact refTake_some M x n v g cap w hv hx (by omega) hn4 (by rcases hw with h1 | h1
                                                                  · exact absurd h1 h0
                                                                  · exact h1) h

/-- what two calls may turn: the blocks D and M, and what they make themselves -/
structure But2 (D M : Nat) (w w' : World) : Prop where
  os : w'.os = w.os
  tape : w'.tape = w.tape
  output : w'.output = w.output
  size : w.heap.size ≤ w'.heap.size
  block : ∀ k, k < w.heap.size → k ≠ D → k ≠ M → w'.heap[k]? = w.heap[k]?
theorem But2.of {D M : Nat} {a b c : World} (h : But D a b) (k : But M b c) : But2 D M a c :=
  ⟨k.os.trans h.os, k.tape.trans h.tape, k.output.trans h.output, Nat.le_trans h.size k.size, fun i hi h1 h2 => (k.block i (Nat.lt_of_lt_of_le hi h.size) h2).trans (h.block i hi h1)⟩
theorem But2.refl (D M : Nat) (w : World) : But2 D M w w := ⟨rfl, rfl, rfl, Nat.le_refl _, fun _ _ _ _ => rfl⟩
theorem But2.drewN {D M : Nat} {w w' : World} (h : But2 D M w w') (n : Nat) : But2 D M w (w'.drewN n) := ⟨h.os, h.tape, h.output, h.size, h.block⟩
theorem But2.below {D M B : Nat} {w w' : World} (h : But2 D M w w') (hD : B ≤ D) (hM : B ≤ M) (hw : B ≤ w.heap.size) : Below B w w' :=
  ⟨h.os, h.tape, h.output, h.size, fun k hk => h.block k (by omega) (by omega) (by omega)⟩
theorem lt_of_heap {w : World} {k : Nat} {o : Obj} (h : w.heap[k]? = some o) : k < w.heap.size := (Array.getElem?_eq_some_iff.1 h).1
theorem row_ne {w : World} {B k : Nat} {v : Value} {n : Nat} {ys : List Value} {c : Array Value} {t : TypeId} {fz : Nat × Nat} (h : w.ownsRow B 5 1 v n ys) (hk : w.heap[k]? = some (.cells c t fz)) (ht : t ≠ 5) : ∀ g, v.ownBlock = some g → g ≠ k := by
  rintro g hg rfl
  rcases h.2 with ⟨h1, _⟩ | ⟨g', cap, cur, hv, hb, hgg, rest⟩
  · rw [h1] at hg; cases hg
  · rw [hv] at hg
    have : g' = g := Option.some.inj hg
    subst this
    rw [hk] at hgg
    cases hgg
    exact ht rfl
/-- takes, once both answers are there -/
theorem upd_zero_lt : ∀ j : Nat, (fun _ : Nat => 0) j < 256 := fun _ => by show 0 < 256; omega

theorem But.refl (D : Nat) (w : World) : But D w w := ⟨rfl, rfl, rfl, Nat.le_refl _, fun _ _ _ => rfl⟩
theorem fv_bound (f : Nat → Nat) (hf : ∀ j, f j < 256) : -2147483648 ≤ ((Rn.fv f : Nat) : Int) ∧ ((Rn.fv f : Nat) : Int) ≤ 2147483647 := by
  have := Rn.fv_le f hf
  omega

end Go.Proofs.YtoccedbnnafjcaaDoor
/-
  THE WALK over the document's At.
-/
namespace Go.Proofs.YtoccedbnnafjcaaDoor
open Go.RowKit Go.Lib

namespace Rn
/-- does a line end behind this character? in the document's words -/
def endR (f : Nat → Nat) (n : Nat) (x : Nat × Nat × Nat) : Bool := decide (x.2.1 = 10 ∨ (x.2.1 = 13 ∧ ¬ (x.1 + x.2.2 < n ∧ f (x.1 + x.2.2) = 10)))
def stepL (f : Nat → Nat) (n : Nat) (st : Nat × Nat × Nat) (x : Nat × Nat × Nat) : Nat × Nat × Nat :=
  if endR f n x then (st.1 + 1, st.2.1 + 1, 1) else (st.1 + 1, st.2.1, st.2.2 + 1)
def plcL (f : Nat → Nat) (n : Nat) (l : List (Nat × Nat × Nat)) : Nat × Nat × Nat := l.foldl (stepL f n) (0, 1, 1)
theorem plcL_snoc (f : Nat → Nat) (n : Nat) (l : List (Nat × Nat × Nat)) (x : Nat × Nat × Nat) : plcL f n (l ++ [x]) = stepL f n (plcL f n l) x := by simp [plcL, List.foldl_append]
/-- a carriage return is one byte -/
theorem dec_cr (f : Nat → Nat) (n : Nat) (hf : ∀ j, f j < 256) (hn : 0 < n) (h : (dec f n).1 = 13) : (dec f n).2 = 1 := by
  rw [dec_whole f n hf hn] at h ⊢
  split at h
  · next hw =>
    rw [if_pos hw]
    have hw' := hw
    simp only [whole, decide_eq_true_eq] at hw
    rcases whl_of (whole_self hw').1 (whole_self hw').2 with ⟨e, _⟩ | ⟨e, h0, h0', h1, h1', hv⟩ | ⟨e, h0, h0', h1, h1', h2, h2', hv⟩ | ⟨e, h0, h0', h1, h1', h2, h2', h3, h3', hv⟩
    · exact e
    · simp only [pv, Nat.reduceAdd] at hv; simp only at h; omega
    · simp only [pv, Nat.reduceAdd] at hv
      have : size (f 0) = 3 := by have e0 : fs f n = size (f 0) := by unfold fs; rw [if_neg (by omega)]
                                  omega
      simp only at h
      have hk := hw.2
      rw [e] at hk
      have e0 : fs f n = size (f 0) := by unfold fs; rw [if_neg (by omega)]
      unfold fk at hk
      have := (len3 this).1 hk
      rcases size_cases (f 0) with c | c | ⟨_, _, _, c | c | c⟩ | c | c <;> omega
    · simp only [pv, Nat.reduceAdd] at hv
      have h4 : size (f 0) = 4 := by have e0 : fs f n = size (f 0) := by unfold fs; rw [if_neg (by omega)]
                                     omega
      simp only at h
      have hk := hw.2
      rw [e] at hk
      unfold fk at hk
      have := (len4 h4).1 hk
      rcases size_cases (f 0) with c | c | c | ⟨_, _, _, c | c | c⟩ | c <;> omega
  · simp at h
theorem plcFrom_eq (f : Nat → Nat) (n a : Nat) (hf : ∀ j, f j < 256) (ha : a ≤ n) : ∀ (fuel p rn ln co : Nat), plcFrom f n a fuel p rn ln co = (chlFrom f a fuel p).foldl (stepL f n) (rn, ln, co)
  | 0, p, rn, ln, co => rfl
  | fuel + 1, p, rn, ln, co => by
    unfold plcFrom chlFrom
    by_cases h : p < a
    · rw [if_neg (by omega), if_pos h, List.foldl_cons]
      have hcr := dec_cr (off f p) (a - p) (fun _ => hf _) (by omega)
      have e : lineEnd f n p (dec (off f p) (a - p)).1 = endR f n (p, (dec (off f p) (a - p)).1, (dec (off f p) (a - p)).2) := by
        unfold lineEnd endR
        by_cases h13 : (dec (off f p) (a - p)).1 = 13
        · rw [if_pos h13, hcr h13, h13]
          rw [Bool.eq_iff_iff]
          simp
          omega
        · rw [if_neg h13]
          rw [Bool.eq_iff_iff]
          simp [h13]
      rw [e]
      cases he : endR f n (p, (dec (off f p) (a - p)).1, (dec (off f p) (a - p)).2)
      · simp only [Bool.false_eq_true, if_false]
        rw [plcFrom_eq f n a hf ha]
        simp [stepL, he]
      · simp only [if_true]
        rw [plcFrom_eq f n a hf ha]
        simp [stepL, he]
    · rw [if_pos (by omega), if_neg h]
      rfl
theorem plc_eq (f : Nat → Nat) (n a : Nat) (hf : ∀ j, f j < 256) (ha : a ≤ n) : plc f n a = plcL f n (chl f a) := plcFrom_eq f n a hf ha _ _ _ _ _
theorem chlFrom_mem (f : Nat → Nat) (n : Nat) (hf : ∀ j, f j < 256) : ∀ (fuel p : Nat) (x : Nat × Nat × Nat), x ∈ chlFrom f n fuel p → x.1 < n ∧ 0 < x.2.2 ∧ x.1 + x.2.2 ≤ n ∧ x.2.1 < 2097152
  | 0, p, x, h => by cases h
  | fuel + 1, p, x, h => by
    unfold chlFrom at h
    split at h
    · next hp =>
      rcases List.mem_cons.1 h with rfl | h
      · have := dec_pos (off f p) (n - p) (fun _ => hf _) (by omega)
        have h2 := dec_lt (off f p) (n - p) (fun _ => hf _) (by omega)
        exact ⟨hp, this.1, by show p + (dec (off f p) (n - p)).2 ≤ n; omega, h2⟩
      · exact chlFrom_mem f n hf fuel _ x h
    · cases h
theorem plcL_bound (f : Nat → Nat) (n : Nat) (l : List (Nat × Nat × Nat)) : (plcL f n l).1 = l.length ∧ (plcL f n l).2.1 ≤ l.length + 1 ∧ (plcL f n l).2.2 ≤ l.length + 1 := by
  suffices h : ∀ k, ∀ l : List (Nat × Nat × Nat), l.length = k → (plcL f n l).1 = l.length ∧ (plcL f n l).2.1 ≤ l.length + 1 ∧ (plcL f n l).2.2 ≤ l.length + 1 from h _ l rfl
  intro k
  induction k with
  | zero =>
    intro l hl
    obtain rfl : l = [] := List.length_eq_zero_iff.1 hl
    exact ⟨rfl, Nat.le_refl _, Nat.le_refl _⟩
  | succ k ih =>
    intro l hl
    obtain ⟨l', x, rfl⟩ : ∃ l' x, l = l' ++ [x] := ⟨l.dropLast, l.getLast (by intro h; rw [h] at hl; cases hl), (List.dropLast_concat_getLast _).symm⟩
    have := ih l' (by simpa using hl)
    rw [plcL_snoc]
    unfold stepL
    split <;> simp <;> omega
end Rn
theorem But.drewN {D : Nat} {w w' : World} (h : But D w w') (n : Nat) : But D w (w'.drewN n) := ⟨h.os, h.tape, h.output, h.size, h.block⟩
theorem heap_new' (w : World) (o : Obj) {k : Nat} (h : k = w.heap.size) : (w.alloc o).heap[k]? = some o := by
  subst h
  show (w.heap.push o)[w.heap.size]? = _
  simp
theorem chCells_get (l : List (Nat × Nat × Nat)) (i : Nat) (h : i < l.length) : (chCells l)[3 * i]? = some (.int .i64 l[i].1) ∧ (chCells l)[3 * i + 1]? = some (.int .i64 l[i].2.1) ∧ (chCells l)[3 * i + 2]? = some (.int .i64 l[i].2.2) := by
  induction l generalizing i with
  | nil => simp at h
  | cons a l ih =>
    have e : chCells (a :: l) = chOne a ++ chCells l := by simp [chCells]
    rw [e]
    cases i with
    | zero => simp [chOne]
    | succ j =>
      have := ih j (by simpa using h)
      have e1 : 3 * (j + 1) = 3 * j + 3 := by omega
      rw [e1]
      simp only [chOne, List.cons_append, List.nil_append]
      simpa using this

set_option maxHeartbeats 1000000 in
theorem refAt_out (v : Option Addr) (n cap : Nat) (k : Int) (w : World) (h : k < 0 ∨ (n : Int) < k) :
    Calls Tryd.prog 50 #[.slice v n cap, .int .i64 k] w fun e w' => e = .returned (.tuple #[.agg #[.int .i64 0, .int .i64 0, .int .i64 0, .int .i64 0], .int .i64 2]) ∧ Below w.heap.size w w' := by
  rcases h with h | h
  · go_enter Tryd.func50, Tryd.ntmps50
    go_wp2
    exact bodyPost_ret (v := .tuple #[.agg #[.int .i64 0, .int .i64 0, .int .i64 0, .int .i64 0], .int .i64 2]) (by simp [results, Tryd.results50, go_sem]) rfl ⟨rfl, (Below.refl _ _).alloc (Nat.le_refl _) _⟩
  · have h0 : ¬ k < 0 := by omega
    go_enter Tryd.func50, Tryd.ntmps50
    go_wp2
    exact bodyPost_ret (v := .tuple #[.agg #[.int .i64 0, .int .i64 0, .int .i64 0, .int .i64 0], .int .i64 2]) (by simp [results, Tryd.results50, go_sem]) rfl ⟨rfl, (Below.refl _ _).alloc (Nat.le_refl _) _⟩

set_option maxRecDepth 100000 in
set_option maxHeartbeats 4000000 in
theorem refAt_in (f : Nat → Nat) (pa : Option Addr) (n cap a : Nat) (w : World) (hf : ∀ j, f j < 256) (ha : a ≤ n) (hc : n ≤ cap) (_hm : cap ≤ maxLen) (hbig : n ≤ 1099511627776) (hnil : pa = none → cap = 0) (hp : n = 0 ∨ ∃ b o, pa = some ⟨b, o, none⟩ ∧ Bytes w b o n f) :
    Calls Tryd.prog 50 #[.slice pa n cap, .int .i64 a] w fun e w' =>
      e = .returned (.tuple #[.agg #[.int .i64 a, .int .i64 (Rn.plc f n a).1, .int .i64 (Rn.plc f n a).2.1, .int .i64 (Rn.plc f n a).2.2], .int .i64 0]) ∧ Below w.heap.size w w' := by
  have hm : cap ≤ 9223372036854775807 := by unfold maxLen at _hm; omega
  have h0 : ¬ (a : Int) < 0 := by omega
  have h1 : ¬ (n : Int) < (a : Int) := by omega
  rw [Rn.plc_eq f n a hf ha]
  go_enter Tryd.func50, Tryd.ntmps50
  go_wp2_with fail
  have hp2 : ∀ o1 o2, a = 0 ∨ ∃ b o, pa = some ⟨b, o, none⟩ ∧ Bytes ((w.alloc o1).alloc o2) b o a f := fun o1 o2 => by
    rcases hp with h | ⟨b, o, e, hby⟩
    · exact .inl (by omega)
    · exact .inr ⟨b, o, e, ((hby.le ha).below ((Below.refl w.heap.size w).alloc (Nat.le_refl _) o1) (Nat.le_refl _)).below ((Below.refl (w.alloc o1).heap.size (w.alloc o1)).alloc (Nat.le_refl _) o2) (Nat.le_refl _)⟩
  refine (chars_any f pa a cap _ hf (by omega) _hm (by omega) (hp2 _ _)).mono ?_
  rintro e w2 ⟨v, rfl, hown, hlen, hb2⟩
  have hmem := fun x hx => Rn.chlFrom_mem f a hf a 0 x hx
  have hN : w.heap.size + 2 ≤ w2.heap.size := by have := hb2.size; simp at this; omega
  have hB2 : Below w.heap.size w w2 := (((Below.refl w.heap.size w).alloc (Nat.le_refl _) _).alloc (by simp) _).trans (hb2.mono (by simp; omega))
  have hR : w2.heap[w.heap.size]? = some (.cells #[.int .i64 0, .int .i64 0, .int .i64 0, .int .i64 0] 106 (0, 0)) := by
    rw [hb2.block _ (by simp; omega), Below.heap_alloc _ _ _ (by simp)]
    show (w.heap.push _)[w.heap.size]? = _
    simp
  have hP : w2.heap[w.heap.size + 1]? = some (.cells #[.int .i64 a, .int .i64 0, .int .i64 1, .int .i64 1] 106 (0, 0)) := by
    rw [hb2.block _ (by simp)]
    exact heap_new' _ _ (by simp)
  obtain ⟨ao, capc, rfl⟩ : ∃ ao capc, v = .slice ao (Rn.chl f a).length capc := by
    rcases hown.2 with ⟨hv, h0⟩ | ⟨g, cap, cur, hv, _⟩
    · exact ⟨none, 0, by rw [hv, h0]⟩
    · exact ⟨_, _, hv⟩
  have hrow : 0 < (Rn.chl f a).length → ∃ g, ao = some ⟨g, 0, none⟩ ∧ w.heap.size + 2 ≤ g ∧ g < w2.heap.size ∧ ∀ j u, (chCells (Rn.chl f a))[j]? = some u → w2.cell? ⟨g, j, none⟩ = some u := fun h => by
    rcases hown.2 with ⟨_, h0⟩ | ⟨g, cap, cur, hv, hg, hgg, _⟩
    · omega
    · cases hv
      refine ⟨g, rfl, by simpa using hg, lt_of_heap hgg, fun j u hu => ?_⟩
      have := hown.cells (g := g) rfl j u hu
      rw [show (Addr.add ⟨g, 0, none⟩ j) = ⟨g, j, none⟩ by simp [Addr.add]; omega] at this
      exact this
  clear hown hb2 hp2
  generalize hL : Rn.chl f a = L at *
  have hmem' : ∀ x ∈ L, x.1 < a ∧ 0 < x.2.2 ∧ x.1 + x.2.2 ≤ a ∧ x.2.1 < 2097152 := fun x hx => hmem x (by have : L = Rn.chlFrom f a a 0 := hL.symm; rw [this] at hx; exact hx)
  have HL := hide' hL
  clear hmem hL
  go_wp2_with fail
  go_loopw [8] (fun i wr => ∃ k : Nat, i = .int .i64 k ∧ k ≤ L.length ∧ wr.heap[w.heap.size]? = some (.cells #[.int .i64 0, .int .i64 0, .int .i64 0, .int .i64 0] 106 (0, 0)) ∧
      wr.heap[w.heap.size + 1]? = some (.cells #[.int .i64 a, .int .i64 (Rn.plcL f n (L.take k)).1, .int .i64 (Rn.plcL f n (L.take k)).2.1, .int .i64 (Rn.plcL f n (L.take k)).2.2] 106 (0, 0)) ∧ But (w.heap.size + 1) w2 wr) (fun i _ => L.length - (RowKit.intOf i).toNat)
  case atStart => exact ⟨0, rfl, Nat.zero_le _, hR, by simpa [Rn.plcL] using hP, But.refl _ _⟩
  case round =>
    obtain ⟨k, rfl, hk, hR', hP', hBu⟩ := hrel
    obtain ⟨b1, b2, b3⟩ := Rn.plcL_bound f n (L.take k)
    have hlt' : (L.take k).length = k := by simp; omega
    rw [hlt'] at b1 b2 b3
    by_cases hlt : k < L.length
    · obtain ⟨g, rfl, hg1, hg2, hcs⟩ := hrow (by omega)
      obtain ⟨q0, q1, q2⟩ := chCells_get L k hlt
      have hin := hmem' L[k] (List.getElem_mem hlt)
      have sn : L.take (k + 1) = L.take k ++ [L[k]] := List.take_succ_eq_append_getElem hlt
      have hcell := fun j u hu => (World.cell?_of_block (a := ⟨g, j, none⟩) (hBu.block g hg2 (by omega))).trans (hcs j u hu)
      rw [Nat.mul_comm] at q0 q1 q2
      have r0 := hcell _ _ q0
      have r1 := hcell _ _ q1
      have r2 := hcell _ _ q2
      have p0 : wr.cell? ⟨w.heap.size + 1, 1, none⟩ = some (.int .i64 (Rn.plcL f n (L.take k)).1) := by rw [Lib.cell_of_heap hP']; rfl
      have p1 : wr.cell? ⟨w.heap.size + 1, 2, none⟩ = some (.int .i64 (Rn.plcL f n (L.take k)).2.1) := by rw [Lib.cell_of_heap hP']; rfl
      have p2 : wr.cell? ⟨w.heap.size + 1, 3, none⟩ = some (.int .i64 (Rn.plcL f n (L.take k)).2.2) := by rw [Lib.cell_of_heap hP']; rfl
      have fz : ∀ j, wr.frozen? ⟨w.heap.size + 1, j, none⟩ = false := fun j => Lib.frozen_of_heap hP' j
      have hst := congrArg (Rn.plcL f n) sn
      rw [Rn.plcL_snoc] at hst
      have HP := hide' hP'
      have HR := hide' hR'
      have HST := hide' hst
      clear hP' hR' hst sn hcs hcell q0 q1 q2 hP hR hrow hmem'
      generalize hx : L[k] = x at *
      obtain ⟨xa, xr, xd⟩ := x
      dsimp only at r0 r1 r2 hin
      generalize hrn : (Rn.plcL f n (L.take k)).1 = rn at *
      generalize hln : (Rn.plcL f n (L.take k)).2.1 = ln at *
      generalize hco : (Rn.plcL f n (L.take k)).2.2 = co at *
      have hgne : g ≠ w.heap.size + 1 := by omega
      have hszN : w.heap.size < wr.heap.size := by have := hBu.size; omega
      have hE : Rn.endR f n (xa, xr, xd) = true ∨ Rn.endR f n (xa, xr, xd) = false := by cases Rn.endR f n (xa, xr, xd) <;> simp
      have hcase : (xr = 10 ∧ Rn.endR f n (xa, xr, xd) = true) ∨ (xr = 13 ∧ xa + xd < n ∧ f (xa + xd) = 10 ∧ Rn.endR f n (xa, xr, xd) = false) ∨ (xr = 13 ∧ xa + xd < n ∧ f (xa + xd) ≠ 10 ∧ Rn.endR f n (xa, xr, xd) = true) ∨
          (xr = 13 ∧ ¬ xa + xd < n ∧ Rn.endR f n (xa, xr, xd) = true) ∨ (xr ≠ 10 ∧ xr ≠ 13 ∧ Rn.endR f n (xa, xr, xd) = false) := by
        unfold Rn.endR
        simp only [decide_eq_true_eq, decide_eq_false_iff_not]
        omega
      clear hE
      have endE : Rn.endR f n (xa, xr, xd) = true → ∀ nq, (∃ k_1 : Nat, Value.int .i64 ((k : Int) + 1) = .int .i64 k_1 ∧ k_1 ≤ L.length ∧
          (((((wr.setCell ⟨w.heap.size + 1, 1, none⟩ (.int .i64 ((k : Int) + 1))).setCell ⟨w.heap.size + 1, 3, none⟩ (.int .i64 ((co : Int) + 1))).drewN nq).setCell ⟨w.heap.size + 1, 2, none⟩ (.int .i64 ((ln : Int) + 1))).setCell ⟨w.heap.size + 1, 3, none⟩ (.int .i64 1)).heap[w.heap.size]? = some (.cells #[.int .i64 0, .int .i64 0, .int .i64 0, .int .i64 0] 106 (0, 0)) ∧
          (((((wr.setCell ⟨w.heap.size + 1, 1, none⟩ (.int .i64 ((k : Int) + 1))).setCell ⟨w.heap.size + 1, 3, none⟩ (.int .i64 ((co : Int) + 1))).drewN nq).setCell ⟨w.heap.size + 1, 2, none⟩ (.int .i64 ((ln : Int) + 1))).setCell ⟨w.heap.size + 1, 3, none⟩ (.int .i64 1)).heap[w.heap.size + 1]? = some (.cells #[.int .i64 a, .int .i64 (Rn.plcL f n (L.take k_1)).1, .int .i64 (Rn.plcL f n (L.take k_1)).2.1, .int .i64 (Rn.plcL f n (L.take k_1)).2.2] 106 (0, 0)) ∧
          But (w.heap.size + 1) w2 (((((wr.setCell ⟨w.heap.size + 1, 1, none⟩ (.int .i64 ((k : Int) + 1))).setCell ⟨w.heap.size + 1, 3, none⟩ (.int .i64 ((co : Int) + 1))).drewN nq).setCell ⟨w.heap.size + 1, 2, none⟩ (.int .i64 ((ln : Int) + 1))).setCell ⟨w.heap.size + 1, 3, none⟩ (.int .i64 1))) := fun he nq => by
        have hbu : But (w.heap.size + 1) wr (((((wr.setCell ⟨w.heap.size + 1, 1, none⟩ (.int .i64 ((k : Int) + 1))).setCell ⟨w.heap.size + 1, 3, none⟩ (.int .i64 ((co : Int) + 1))).drewN nq).setCell ⟨w.heap.size + 1, 2, none⟩ (.int .i64 ((ln : Int) + 1))).setCell ⟨w.heap.size + 1, 3, none⟩ (.int .i64 1)) :=
          ((But.drewN (((But.refl _ wr).setCell (p := ⟨w.heap.size + 1, 1, none⟩) rfl _).setCell (p := ⟨w.heap.size + 1, 3, none⟩) rfl _) nq).setCell (p := ⟨w.heap.size + 1, 2, none⟩) rfl _).setCell (p := ⟨w.heap.size + 1, 3, none⟩) rfl _
        refine ⟨k + 1, by go_num, by omega, (hbu.block _ hszN (by omega)).trans HR.out, ?_, hBu.trans hbu⟩
        have hs : Rn.plcL f n (L.take (k + 1)) = (k + 1, ln + 1, 1) := by
          rw [HST.out, Rn.stepL, he]
          simp only [if_true, hrn, hln, b1]
        rw [hs]
        have h1 := Go.Joins.block_setCell (i := 3) (Go.Joins.block_setCell (i := 1) HP.out (.int .i64 ((k : Int) + 1))) (.int .i64 ((co : Int) + 1))
        have h2 := Go.Joins.block_setCell (i := 3) (Go.Joins.block_setCell (w := ((wr.setCell ⟨w.heap.size + 1, 1, none⟩ (.int .i64 ((k : Int) + 1))).setCell ⟨w.heap.size + 1, 3, none⟩ (.int .i64 ((co : Int) + 1))).drewN nq) (i := 2) h1 (.int .i64 ((ln : Int) + 1))) (.int .i64 1)
        rw [h2]
        simp
      have endN : Rn.endR f n (xa, xr, xd) = false → ∀ nq, (∃ k_1 : Nat, Value.int .i64 ((k : Int) + 1) = .int .i64 k_1 ∧ k_1 ≤ L.length ∧
          (((wr.setCell ⟨w.heap.size + 1, 1, none⟩ (.int .i64 ((k : Int) + 1))).setCell ⟨w.heap.size + 1, 3, none⟩ (.int .i64 ((co : Int) + 1))).drewN nq).heap[w.heap.size]? = some (.cells #[.int .i64 0, .int .i64 0, .int .i64 0, .int .i64 0] 106 (0, 0)) ∧
          (((wr.setCell ⟨w.heap.size + 1, 1, none⟩ (.int .i64 ((k : Int) + 1))).setCell ⟨w.heap.size + 1, 3, none⟩ (.int .i64 ((co : Int) + 1))).drewN nq).heap[w.heap.size + 1]? = some (.cells #[.int .i64 a, .int .i64 (Rn.plcL f n (L.take k_1)).1, .int .i64 (Rn.plcL f n (L.take k_1)).2.1, .int .i64 (Rn.plcL f n (L.take k_1)).2.2] 106 (0, 0)) ∧
          But (w.heap.size + 1) w2 (((wr.setCell ⟨w.heap.size + 1, 1, none⟩ (.int .i64 ((k : Int) + 1))).setCell ⟨w.heap.size + 1, 3, none⟩ (.int .i64 ((co : Int) + 1))).drewN nq)) := fun he nq => by
        have hbu : But (w.heap.size + 1) wr (((wr.setCell ⟨w.heap.size + 1, 1, none⟩ (.int .i64 ((k : Int) + 1))).setCell ⟨w.heap.size + 1, 3, none⟩ (.int .i64 ((co : Int) + 1))).drewN nq) :=
          But.drewN (((But.refl _ wr).setCell (p := ⟨w.heap.size + 1, 1, none⟩) rfl _).setCell (p := ⟨w.heap.size + 1, 3, none⟩) rfl _) nq
        refine ⟨k + 1, by go_num, by omega, (hbu.block _ hszN (by omega)).trans HR.out, ?_, hBu.trans hbu⟩
        have hs : Rn.plcL f n (L.take (k + 1)) = (k + 1, ln, co + 1) := by
          rw [HST.out, Rn.stepL, he]
          simp only [Bool.false_eq_true, if_false, hrn, hln, hco, b1]
        rw [hs]
        have h1 := Go.Joins.block_setCell (i := 3) (Go.Joins.block_setCell (i := 1) HP.out (.int .i64 ((k : Int) + 1))) (.int .i64 ((co : Int) + 1))
        show ((wr.setCell ⟨w.heap.size + 1, 1, none⟩ (.int .i64 ((k : Int) + 1))).setCell ⟨w.heap.size + 1, 3, none⟩ (.int .i64 ((co : Int) + 1))).heap[w.heap.size + 1]? = _
        rw [h1]
        simp
      have HE := hide' endE
      have HNo := hide' endN
      clear endE endN hx hrn hln hco
      rcases hcase with ⟨hr, he⟩ | ⟨hr, hl, hfe, he⟩ | ⟨hr, hl, hfe, he⟩ | ⟨hr, hl, he⟩ | ⟨hr, hr2, he⟩
      · subst hr
        have HHE := hide' he
        clear he
        go_wp2_with fail
        go_quiet (fail)
        go_wp2_with fail
        exact ⟨HE.out HHE.out _, by simp [RowKit.intOf]; omega⟩
      · subst hr
        rcases hp with h0' | ⟨b, o, rfl, hby⟩
        · omega
        have hbd : b < w.heap.size := by have := block_lt_of_cell (hby 0 (by omega)); exact this
        have ce : wr.cell? ⟨b, o + (xa + xd), none⟩ = some (.int .u8 (f (xa + xd))) := by
          have h3 := hby (xa + xd) hl
          exact (World.cell?_of_block (a := ⟨b, o + (xa + xd), none⟩) ((hBu.block b (by omega) (by omega)).trans (hB2.block b hbd))).trans h3
        have hbne : b ≠ w.heap.size + 1 := by omega
        have g1 : (xa : Int) + xd < n := by omega
        have g2 : ((f (xa + xd) : Int) == 10) = true := by simp; omega
        have g3 : ((xa : Int) + xd).toNat = xa + xd := by omega
        have HHE := hide' he
        clear he hfe hby
        go_wp2_with fail
        go_quiet (fail)
        go_wp2_with fail
        exact ⟨HNo.out HHE.out _, by simp [RowKit.intOf]; omega⟩
      · subst hr
        rcases hp with h0' | ⟨b, o, rfl, hby⟩
        · omega
        have hbd : b < w.heap.size := by have := block_lt_of_cell (hby 0 (by omega)); exact this
        have ce : wr.cell? ⟨b, o + (xa + xd), none⟩ = some (.int .u8 (f (xa + xd))) := by
          have h3 := hby (xa + xd) hl
          exact (World.cell?_of_block (a := ⟨b, o + (xa + xd), none⟩) ((hBu.block b (by omega) (by omega)).trans (hB2.block b hbd))).trans h3
        have hbne : b ≠ w.heap.size + 1 := by omega
        have g1 : (xa : Int) + xd < n := by omega
        have g2 : ((f (xa + xd) : Int) == 10) = false := by simp; omega
        have g3 : ((xa : Int) + xd).toNat = xa + xd := by omega
        have HHE := hide' he
        clear he hfe hby
        go_wp2_with fail
        go_quiet (fail)
        go_wp2_with fail
        exact ⟨HE.out HHE.out _, by simp [RowKit.intOf]; omega⟩
      · subst hr
        have g1 : ¬ (xa : Int) + xd < n := by omega
        have HHE := hide' he
        clear he
        go_wp2_with fail
        go_quiet (fail)
        go_wp2_with fail
        exact ⟨HE.out HHE.out _, by simp [RowKit.intOf]; omega⟩
      · have g1 : ((xr : Int) == 13) = false := by simp; omega
        have g2 : ((xr : Int) == 10) = false := by simp; omega
        have HHE := hide' he
        clear he
        go_wp2_with fail
        go_quiet (fail)
        go_wp2_with fail
        exact ⟨HNo.out HHE.out _, by simp [RowKit.intOf]; omega⟩
    · have g1 : ¬ (k : Int) < L.length := by omega
      obtain rfl : k = L.length := by omega
      rw [List.take_length] at hP'
      have q0 : wr.cell? ⟨w.heap.size + 1, 0, none⟩ = some (.int .i64 a) := by rw [Lib.cell_of_heap hP']; rfl
      have q1 : wr.cell? ⟨w.heap.size + 1, 1, none⟩ = some (.int .i64 (Rn.plcL f n L).1) := by rw [Lib.cell_of_heap hP']; rfl
      have q2 : wr.cell? ⟨w.heap.size + 1, 2, none⟩ = some (.int .i64 (Rn.plcL f n L).2.1) := by rw [Lib.cell_of_heap hP']; rfl
      have q3 : wr.cell? ⟨w.heap.size + 1, 3, none⟩ = some (.int .i64 (Rn.plcL f n L).2.2) := by rw [Lib.cell_of_heap hP']; rfl
      have s0 : wr.cell? ⟨w.heap.size, 0, none⟩ = some (.int .i64 0) := by rw [Lib.cell_of_heap hR']; rfl
      have s1 : wr.cell? ⟨w.heap.size, 1, none⟩ = some (.int .i64 0) := by rw [Lib.cell_of_heap hR']; rfl
      have s2 : wr.cell? ⟨w.heap.size, 2, none⟩ = some (.int .i64 0) := by rw [Lib.cell_of_heap hR']; rfl
      have s3 : wr.cell? ⟨w.heap.size, 3, none⟩ = some (.int .i64 0) := by rw [Lib.cell_of_heap hR']; rfl
      have fz : ∀ j, wr.frozen? ⟨w.heap.size, j, none⟩ = false := fun j => Lib.frozen_of_heap hR' j
      have HB := hide' (hB2.trans (hBu.below (B := w.heap.size) (by omega) (by omega)))
      clear hP' hR' hP hR hrow hmem' b1 b2 b3 hlt'
      go_wp2_with fail
      refine bodyPost_ret (v := .tuple #[.agg #[.int .i64 a, .int .i64 (Rn.plcL f n L).1, .int .i64 (Rn.plcL f n L).2.1, .int .i64 (Rn.plcL f n L).2.2], .int .i64 0]) (by simp [results, Tryd.results50, go_sem, s0, s1, s2, s3]) rfl ⟨by rw [HL.out], ?_⟩
      exact (((HB.out.setCell (p := ⟨w.heap.size, 0, none⟩) (Nat.le_refl _) _).setCell (p := ⟨w.heap.size, 1, none⟩) (Nat.le_refl _) _).setCell (p := ⟨w.heap.size, 2, none⟩) (Nat.le_refl _) _).setCell (p := ⟨w.heap.size, 3, none⟩) (Nat.le_refl _) _
end Go.Proofs.YtoccedbnnafjcaaDoor
