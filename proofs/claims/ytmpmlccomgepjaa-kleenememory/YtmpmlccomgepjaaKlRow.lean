/-
  ROWS of formulas that are one's own.
-/
import Derived.Test.YtmpmlccomgepjaaKlMem
import Derived.Lib.SliceRun
import Derived.Laws.AppendOwn
import Derived.Lib.SmallJoins
import Derived.Lib.Builder
namespace Go.Proofs.Ytmpmlccomgepjaa
open Go.RowKit Go.Lib Go.Sort
namespace Kl
/-- a row of formulas: n of them in the block g -/
structure Rw (w : World) (g cap n : Nat) (R : Nat → Fv) : Prop where
  blk : ∃ cur, w.heap[g]? = some (.cells cur 26 (0, 0)) ∧ cur.size = cap * 4
  len : n ≤ cap
  max : cap ≤ maxLen
  rng : ∀ k, k < n → w.rangeAt g (k * 4) (R k).enc
theorem there_blk {w : World} {g : Nat} {cur : Array Value} {t : TypeId} (h : w.heap[g]? = some (.cells cur t (0, 0))) : w.there g 0 cur.size := fun j hj => by
  refine ⟨?_, Lib.frozen_of_heap h _⟩
  rw [Nat.zero_add, Lib.cell_of_heap h]
  simp [hj]
theorem Rw.there {w : World} {g cap n : Nat} {R : Nat → Fv} (h : Rw w g cap n R) {i m : Nat} (hi : i + m ≤ cap * 4) : w.there g i m := fun j hj => by
  obtain ⟨cur, h1, h2⟩ := h.blk
  have := there_blk h1 (i + j) (by omega)
  rw [Nat.zero_add] at this
  exact this
theorem Rw.lt {w : World} {g cap n : Nat} {R : Nat → Fv} (h : Rw w g cap n R) : g < w.heap.size := by
  obtain ⟨cur, h1, _⟩ := h.blk
  exact (Array.getElem?_eq_some_iff.1 h1).1
theorem Rw.keep {w w' : World} {g cap n : Nat} {R : Nat → Fv} (h : Rw w g cap n R) (hb : w'.heap[g]? = w.heap[g]?) : Rw w' g cap n R :=
  ⟨by rw [hb]; exact h.blk, h.len, h.max, fun k hk j v hj => (World.cell?_of_block (a := ⟨g, k * 4 + j, none⟩) hb).trans (h.rng k hk j v hj)⟩
theorem Rw.few {w : World} {g cap n m : Nat} {R R' : Nat → Fv} (h : Rw w g cap n R) (hm : m ≤ n) (hR : ∀ k, k < m → R' k = R k) : Rw w g cap m R' :=
  ⟨h.blk, by have := h.len; omega, h.max, fun k hk => by rw [hR k hk]; exact h.rng k (by omega)⟩
theorem blk_cells {g cap b : Nat} {t : TypeId} : ∀ (vs : List Value) (o : Nat) {W : World}, (∃ cur, W.heap[g]? = some (.cells cur t (0, 0)) ∧ cur.size = cap) → ∃ cur, (W.setCells b o vs).heap[g]? = some (.cells cur t (0, 0)) ∧ cur.size = cap
  | [], _, _, h => h
  | v :: r, o, W, h => by
    refine blk_cells (b := b) r (o + 1) (W := W.setCell ⟨b, o, none⟩ v) ?_
    obtain ⟨cur, h1, h2⟩ := h
    by_cases c : g = b
    · subst c
      exact ⟨_, Go.Joins.block_setCell (i := o) h1 v, by simpa using h2⟩
    · exact ⟨cur, (Below.heap_setCell _ _ _ _ c).trans h1, h2⟩
theorem Rw.set {w : World} {g cap n : Nat} {R : Nat → Fv} (h : Rw w g cap n R) {i : Nat} (hi : i < n) (x : Fv) : Rw (w.setCells g (i * 4) x.enc) g cap n (fun k => if k = i then x else R k) := by
  have hl := h.len
  refine ⟨blk_cells _ _ h.blk, h.len, h.max, fun k hk => ?_⟩
  by_cases c : k = i
  · subst c
    rw [if_pos rfl]
    exact World.rangeAt_setCells_same _ _ _ _ (h.there (by rw [Fv.len]; omega))
  · rw [if_neg c]
    exact World.rangeAt_setCells_apart (h.rng k hk) _ _ _ (by
      rw [Fv.len, Fv.len]
      rcases Nat.lt_or_gt_of_ne c with c | c
      · exact .inr (.inl (by omega))
      · exact .inr (.inr (by omega)))
theorem Rw.clear {w : World} {g cap n : Nat} {R : Nat → Fv} (h : Rw w g cap n R) {i : Nat} (hi : i ≤ n) (zs : List Value) : Rw (w.setCells g (i * 4) zs) g cap i R := by
  have hl := h.len
  refine ⟨blk_cells _ _ h.blk, by omega, h.max, fun k hk => ?_⟩
  exact World.rangeAt_setCells_apart (h.rng k (by omega)) _ _ _ (.inr (.inl (by rw [Fv.len]; omega)))
/-- only the block g has changed -/
def Ch (g : Nat) (w w' : World) : Prop := w.grownBy w' (some g)
theorem Ch.refl (g : Nat) (w : World) : Ch g w w := ⟨rfl, rfl, rfl, Nat.le_refl _, fun _ _ _ => rfl⟩
theorem Ch.trans {g : Nat} {a b c : World} (h : Ch g a b) (k : Ch g b c) : Ch g a c :=
  ⟨k.os.trans h.os, k.tape.trans h.tape, k.output.trans h.output, Nat.le_trans h.size k.size, fun i hi hn => (k.block i (Nat.lt_of_lt_of_le hi h.size) hn).trans (h.block i hi hn)⟩
theorem Gr.ch {g : Nat} {a b : World} (h : Gr a b) : Ch g a b := ⟨h.below.os, h.below.tape, h.below.output, h.below.size, fun k hk _ => h.below.block k hk⟩
theorem Ch.set {g : Nat} {w : World} (b : World) (h : Ch g w b) : ∀ (vs : List Value) (o : Nat), Ch g w (b.setCells g o vs) := fun vs => by
  induction vs generalizing b with
  | nil => intro o; exact h
  | cons v r ih =>
    intro o
    exact ih (b.setCell ⟨g, o, none⟩ v) (h.trans ⟨rfl, rfl, rfl, by simp [World.setCell], fun k _ hk => Below.heap_setCell _ _ _ _ (fun e => hk (by rw [e]))⟩) (o + 1)
theorem Ch.ok {g : Nat} {w w' : World} {x : Fv} (h : Ch g w w') (hx : Ok w x) (hg : g ∉ fp x) : Ok w' x :=
  hx.imp x fun a v ha e => (World.cell?_of_block (a := a) (h.block a.block (block_lt_of_cell e) (fun c => hg (by cases c; exact ha)))).trans e
theorem Ch.below {g B : Nat} {w w' : World} (h : Ch g w w') (hB : B ≤ g) (hw : B ≤ w.heap.size) : Below B w w' := ⟨h.os, h.tape, h.output, h.size, fun k hk => h.block k (by omega) (fun c => by cases c; omega)⟩
/-- the cells of n formulas -/
def flat (R : Nat → Fv) : Nat → List Value
  | 0 => []
  | n + 1 => flat R n ++ (R n).enc
theorem flat_len (R : Nat → Fv) : ∀ n, (flat R n).length = n * 4
  | 0 => by simp [flat]
  | n + 1 => by rw [flat, List.length_append, flat_len R n, Fv.len]; omega
theorem flat_get (R : Nat → Fv) : ∀ (n k j : Nat), k < n → j < 4 → (flat R n)[k * 4 + j]? = (R k).enc[j]?
  | 0, _, _, h, _ => by omega
  | n + 1, k, j, h, hj => by
    rw [flat]
    by_cases c : k = n
    · subst c
      rw [List.getElem?_append_right (by rw [flat_len]; omega), flat_len]
      congr 1
      omega
    · rw [List.getElem?_append_left (by rw [flat_len]; omega)]
      exact flat_get R n k j (by omega) hj
theorem flat_congr {R R' : Nat → Fv} : ∀ {n : Nat}, (∀ k, k < n → R k = R' k) → flat R n = flat R' n
  | 0, _ => rfl
  | n + 1, h => by rw [flat, flat, flat_congr fun k hk => h k (by omega), h n (by omega)]
theorem Rw.owns {w : World} {g cap n : Nat} {R : Nat → Fv} (h : Rw w g cap n R) {base : Nat} (hb : base ≤ g) : w.ownsRow base 26 4 (.slice (some ⟨g, 0, none⟩) n cap) n (flat R n) := by
  obtain ⟨cur, h1, h2⟩ := h.blk
  refine ⟨flat_len R n, .inr ⟨g, cap, cur, rfl, hb, h1, h.len, h.max, h2, ?_⟩⟩
  have hl := h.len
  apply List.ext_getElem?
  intro t
  by_cases ht : t < n * 4
  · have e : t = t / 4 * 4 + t % 4 := by omega
    rw [List.getElem?_take_of_lt ht, Array.getElem?_toList]
    have hr := h.rng (t / 4) (by omega) (t % 4)
    have hj : t % 4 < (R (t / 4)).enc.length := by rw [Fv.len]; omega
    have := hr _ (List.getElem?_eq_getElem hj)
    rw [Lib.cell_of_heap h1, ← e] at this
    rw [this]
    have e2 := flat_get R n (t / 4) (t % 4) (by omega) (by omega)
    rw [← e] at e2
    rw [e2, List.getElem?_eq_getElem hj]
  · rw [List.getElem?_eq_none (by rw [List.length_take]; omega), List.getElem?_eq_none (by rw [flat_len]; omega)]
theorem Rw.of_owns {w : World} {base n : Nat} {v : Value} {R : Nat → Fv} (h : w.ownsRow base 26 4 v n (flat R n)) (hn : 0 < n) : ∃ g cap, v = .slice (some ⟨g, 0, none⟩) n cap ∧ base ≤ g ∧ Rw w g cap n R := by
  obtain ⟨_, ⟨_, h0⟩ | ⟨g, cap, cur, e, hb, h1, h2, h3, h4, h5⟩⟩ := h
  · omega
  · refine ⟨g, cap, e, hb, ⟨cur, h1, h4⟩, h2, h3, fun k hk j v' hj => ?_⟩
    have hj4 : j < 4 := by have := (List.getElem?_eq_some_iff.1 hj).1; rw [Fv.len] at this; exact this
    rw [Lib.cell_of_heap h1]
    have := flat_get R n k j hk hj4
    rw [← h5, List.getElem?_take_of_lt (by omega), Array.getElem?_toList] at this
    rw [this, hj]
/-- of a row of one's own the formula -/
theorem Rw.ok {w : World} {g cap n : Nat} {R : Nat → Fv} (h : Rw w g cap n R) (o v m : Int) (l : List Fv) (hl : l.length = n) (hR : ∀ k x, l[k]? = some x → R k = x) (hx : ∀ x ∈ l, Ok w x) : Ok w (.mk o v m (some ⟨g, 0, none⟩) cap l) := by
  have := h.len
  have := h.max
  unfold maxLen at this
  refine Ok.mk' (by omega) (by omega) fun _ => ⟨g, 0, rfl, fun i x e => ⟨?_, hx x (List.mem_of_getElem? e)⟩⟩
  have hi := (List.getElem?_eq_some_iff.1 e).1
  rw [Nat.zero_add, ← hR i x e]
  exact h.rng i (by omega)
end Kl
end Go.Proofs.Ytmpmlccomgepjaa
