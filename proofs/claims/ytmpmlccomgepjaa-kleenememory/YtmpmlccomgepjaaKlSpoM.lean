/-
  WHAT gimletlaw14.spoil comes to.
-/
import Derived.Test.YtmpmlccomgepjaaKlFix
namespace Go.Proofs.Ytmpmlccomgepjaa
open Go.RowKit Go.Lib Go.Sort
namespace Kl
/-- the places of a list, one by one -/
theorem pts1 : (∀ (l : List Oper) (i : Nat) (h : i < l.toArray.size), l.toArray[i] = l[i]'(by simpa using h)) ∧ (∀ (l : List Value) (i : Nat) (h : i < l.toArray.size), l.toArray[i] = l[i]'(by simpa using h)) ∧
    (∀ (a : Oper) (l : List Oper) (h : 0 < (a :: l).length), (a :: l)[0]'h = a) ∧ (∀ (a : Value) (l : List Value) (h : 0 < (a :: l).length), (a :: l)[0]'h = a) ∧
    (∀ (a : Oper) (l : List Oper) (i : Nat) (h : i + 1 < (a :: l).length), (a :: l)[i + 1]'h = l[i]'(by simpa using h)) ∧ (∀ (a : Value) (l : List Value) (i : Nat) (h : i + 1 < (a :: l).length), (a :: l)[i + 1]'h = l[i]'(by simpa using h)) ∧
    (∀ (a : Act) (i : Nat) (v : Value), a.put (some i) v = { a with tmps := a.tmps.setIfInBounds i v }) ∧ (∀ (a : Act) (v : Value), a.put none v = a) ∧
    (∀ (l : List Value) (i : Nat) (v : Value), l.toArray.setIfInBounds i v = (l.set i v).toArray) ∧ (∀ (a : Value) (l : List Value) (v : Value), (a :: l).set 0 v = v :: l) ∧ (∀ (a : Value) (l : List Value) (i : Nat) (v : Value), (a :: l).set (i + 1) v = a :: l.set i v) :=
  ⟨fun _ _ _ => rfl, fun _ _ _ => rfl, fun _ _ _ => rfl, fun _ _ _ => rfl, fun _ _ _ _ => rfl, fun _ _ _ _ => rfl, fun _ _ _ => rfl, fun _ _ => rfl, fun l i v => by simp, fun _ _ _ => rfl, fun _ _ _ _ => rfl⟩
/-- what spoil does to the formula at O in the block B, of which the rest lies in the blocks L -/
structure SpE (w : World) (B O : Nat) (L : List Nat) (w' : World) : Prop where
  ch : Chs (B :: L) w w'
  blk : ∀ (cur : Array Value) t, w.heap[B]? = some (.cells cur t (0, 0)) → ∃ cur', w'.heap[B]? = some (.cells cur' t (0, 0)) ∧ cur'.size = cur.size
  far : ∀ o, o < O ∨ O + 4 ≤ o → w'.cell? ⟨B, o, none⟩ = w.cell? ⟨B, o, none⟩
  enc : ∃ z : Fv, w'.rangeAt B O z.enc
/-- where spoil is behind i parts -/
structure SpL (w : World) (x : Fv) (p : Option Addr) (n c i : Nat) (l : List Fv) (wr : World) : Prop where
  ch : Chs (fp x) w wr
  row : ∃ zs : List Fv, zs.length = n ∧ OR wr (.slice p n c) zs ∧ ∀ k y, i ≤ k → l[k]? = some y → zs[k]? = some y
  dps : ∀ k y, i ≤ k → l[k]? = some y → Dp wr y
theorem SpL.start {w : World} {o v m : Int} {p : Option Addr} {c : Nat} {l : List Fv} (h : Dp w (.mk o v m p c l)) : SpL w (.mk o v m p c l) p l.length c 0 l w := by
  unfold Dp at h
  refine ⟨Chs.of_below (Below.refl _ _), ⟨l, rfl, ?_, fun k y _ h => h⟩, fun k y _ hk => ?_⟩
  · rcases h with ⟨rfl, rfl, rfl⟩ | ⟨h0, g, rfl, h2, _⟩
    · exact .inl ⟨rfl, rfl⟩
    · exact .inr ⟨g, c, rfl, h2⟩
  · rcases h with ⟨rfl, rfl, rfl⟩ | ⟨h0, g, rfl, h2, h3, h4, h5⟩
    · simp at hk
    · exact Dps.all.1 h5 y (List.mem_of_getElem? hk)
/-- in the round i -/
theorem SpL.at {w : World} {o v m : Int} {p : Option Addr} {c i : Nat} {l : List Fv} {wr : World} (h : SpL w (.mk o v m p c l) p l.length c i l wr) (hd : Dp w (.mk o v m p c l)) {y : Fv} (hy : l[i]? = some y) :
    ∃ g, p = some ⟨g, 0, none⟩ ∧ (∃ cur t, wr.heap[g]? = some (.cells cur t (0, 0)) ∧ i * 4 + 4 ≤ cur.size) ∧ wr.rangeAt g (i * 4) y.enc ∧ Dp wr y ∧ g ∉ fp y ∧ l.length ≤ c ∧ c ≤ 9223372036854775807 := by
  have hi := (List.getElem?_eq_some_iff.1 hy).1
  obtain ⟨zs, hz, ho, hzs⟩ := h.row
  unfold Dp at hd
  rcases hd with ⟨rfl, rfl, rfl⟩ | ⟨h0, g, rfl, h2, h3, h4, h5⟩
  · simp at hy
  rcases ho with ⟨e, _⟩ | ⟨g', cap, e, hr⟩
  · cases e
  · obtain ⟨rfl, rfl⟩ : g = g' ∧ c = cap := by simp at e; exact ⟨e.1, e.2.2⟩
    have hl := hr.len
    rw [hz] at hr hl
    obtain ⟨cur, b1, b2⟩ := hr.blk
    have hm := hr.max
    unfold maxLen at hm
    refine ⟨g, rfl, ⟨cur, _, b1, by omega⟩, ?_, h.dps i y (Nat.le_refl _) hy, fun hb => h3 ((fps_mem l g).2 ⟨y, List.mem_of_getElem? hy, hb⟩), hl, by omega⟩
    have := hr.rng i hi
    rw [nth_some (hzs i y (Nat.le_refl _) hy)] at this
    exact this
theorem SpL.step {w : World} {o v m : Int} {g : Nat} {c i : Nat} {l : List Fv} {wr w2 : World} (h : SpL w (.mk o v m (some ⟨g, 0, none⟩) c l) (some ⟨g, 0, none⟩) l.length c i l wr) (hd : Dp w (.mk o v m (some ⟨g, 0, none⟩) c l)) {y : Fv} (hy : l[i]? = some y) (hs : SpE wr g (i * 4) (fp y) w2) :
    SpL w (.mk o v m (some ⟨g, 0, none⟩) c l) (some ⟨g, 0, none⟩) l.length c (i + 1) l w2 := by
  have hi := (List.getElem?_eq_some_iff.1 hy).1
  obtain ⟨zs, hz, ho, hzs⟩ := h.row
  unfold Dp at hd
  rcases hd with ⟨hd, _⟩ | ⟨h0, g', e, h2, h3, h4, h5⟩
  · cases hd
  cases e
  have hgy : ∀ x ∈ l, g ∉ fp x := fun x hx hb => h3 ((fps_mem l g).2 ⟨x, hx, hb⟩)
  rcases ho with ⟨e, _⟩ | ⟨g', cap, e, hr⟩
  · cases e
  obtain ⟨rfl, rfl⟩ : g = g' ∧ c = cap := by simp at e; exact ⟨e.1, e.2.2⟩
  refine ⟨h.ch.trans (hs.ch.more fun k hk => ?_), ?_, fun k x hk hx => ?_⟩
  · rcases List.mem_cons.1 hk with rfl | hk
    · exact fp_row o v m k c h0
    · exact fp_in o v m _ c ((fps_mem l k).2 ⟨y, List.mem_of_getElem? hy, hk⟩)
  · obtain ⟨z, hze⟩ := hs.enc
    refine ⟨zs.set i z, by simp [hz], .inr ⟨g, c, by simp [hz], ?_⟩, fun k x hk hx => ?_⟩
    · obtain ⟨cur, b1, b2⟩ := hr.blk
      obtain ⟨cur', b3, b4⟩ := hs.blk cur _ b1
      refine ⟨⟨cur', b3, by rw [b4, b2]⟩, by simpa using hr.len, hr.max, fun k hk => ?_⟩
      by_cases e : k = i
      · subst e
        have : nth (zs.set k z) k = z := by simp [nth, hz, hi]
        rw [this]
        exact hze
      · have hk' : k < zs.length := by simpa using hk
        have : nth (zs.set i z) k = nth zs k := by
          unfold nth
          rw [List.getElem?_set_ne (Ne.symm e)]
        rw [this]
        intro j u hj
        have hj4 : j < 4 := by have := (List.getElem?_eq_some_iff.1 hj).1; rw [Fv.len] at this; exact this
        refine (hs.far (k * 4 + j) ?_).trans (hr.rng k hk' j u hj)
        rcases Nat.lt_or_gt_of_ne e with e | e
        · exact .inl (by omega)
        · exact .inr (by omega)
    · rw [List.getElem?_set_ne (by omega)]
      exact hzs k x (by omega) hx
  · refine hs.ch.dp (h.dps k x (by omega) hx) fun b hb hc => ?_
    rcases List.mem_cons.1 hc with rfl | hc
    · exact hgy x (List.mem_of_getElem? hx) hb
    · exact h4 i k y x (by omega) hy hx b hc hb
/-- behind the append: N formulas in a row of one's own, the field yet to be written or not -/
structure Tl (w0 : World) (B O g c N : Nat) (v : Value) (b : Bool) (w : World) : Prop where
  ch : Chs [B, g] w0 w
  row : ∃ R, Rw w g c N R
  far : ∀ o, o ≠ O + 3 → w.cell? ⟨B, o, none⟩ = w0.cell? ⟨B, o, none⟩
  blk : ∀ (cur : Array Value) t, w0.heap[B]? = some (.cells cur t (0, 0)) → ∃ cur', w.heap[B]? = some (.cells cur' t (0, 0)) ∧ cur'.size = cur.size
  fld : b = true → w.cell? ⟨B, O + 3, none⟩ = some v
  apart : B ≠ g
  lt : B < w0.heap.size
theorem Tl.start {w0 : World} {B O g c N : Nat} {R : Nat → Fv} (v : Value) (h : Rw w0 g c N R) (hB : B ≠ g) (hl : B < w0.heap.size) : Tl w0 B O g c N v false w0 :=
  ⟨Chs.of_below (Below.refl _ _), ⟨R, h⟩, fun _ _ => rfl, fun cur t h => ⟨cur, h, rfl⟩, (fun h => by cases h), hB, hl⟩
theorem Tl.elem {w0 : World} {B O g c N : Nat} {v : Value} {b : Bool} {w : World} (h : Tl w0 B O g c N v b w) {j : Nat} (hj : j < N) (x : Fv) : Tl w0 B O g c N v b (w.setCells g (j * 4) x.enc) := by
  have hc : Ch g w (w.setCells g (j * 4) x.enc) := Ch.set w (Ch.refl g w) _ _
  have hb : (w.setCells g (j * 4) x.enc).heap[B]? = w.heap[B]? := hc.block B (by have := h.ch.size; have := h.lt; omega) fun c => h.apart (by cases c; rfl)
  obtain ⟨R, hR⟩ := h.row
  refine ⟨h.ch.trans (hc.chs (by simp)), ⟨_, hR.set hj x⟩, fun o ho => (World.cell?_of_block (a := ⟨B, o, none⟩) hb).trans (h.far o ho), fun cur t e => by rw [hb]; exact h.blk cur t e, fun e => (World.cell?_of_block (a := ⟨B, O + 3, none⟩) hb).trans (h.fld e), h.apart, h.lt⟩
theorem Tl.field {w0 : World} {B O g c N : Nat} {v : Value} {b : Bool} {w : World} (h : Tl w0 B O g c N v b w) (hO : (w.cell? ⟨B, O + 3, none⟩).isSome = true) : Tl w0 B O g c N v true (w.setCell ⟨B, O + 3, none⟩ v) := by
  obtain ⟨R, hR⟩ := h.row
  refine ⟨h.ch.setc (.inr (by simp)) v, ⟨R, hR.setc h.apart v⟩, fun o ho => ?_, fun cur t e => ?_, fun _ => World.cell?_setCell_same' _ _ _ hO, h.apart, h.lt⟩
  · rw [World.cell?_setCell_other _ _ _ _ (by intro c; cases c; exact ho rfl)]
    exact h.far o ho
  · obtain ⟨cur', h1, h2⟩ := h.blk cur t e
    exact ⟨_, Go.Joins.block_setCell (i := O + 3) h1 v, by simpa using h2⟩
theorem Tl.there {w0 : World} {B O g c N : Nat} {v : Value} {b : Bool} {w : World} (h : Tl w0 B O g c N v b w) {j : Nat} (hj : j < N) : w.there g (j * 4) 4 := by
  obtain ⟨R, hR⟩ := h.row
  have := hR.len
  exact hR.there (by omega)
theorem Tl.cell {w0 : World} {B O g c N : Nat} {v : Value} {b : Bool} {w : World} (h : Tl w0 B O g c N v b w) (hb : ∃ cur t, w0.heap[B]? = some (.cells cur t (0, 0)) ∧ O + 4 ≤ cur.size) : (w.cell? ⟨B, O + 3, none⟩).isSome = true ∧ w.frozen? ⟨B, O + 3, none⟩ = false := by
  obtain ⟨cur, t, h1, h2⟩ := hb
  obtain ⟨cur', h3, h4⟩ := h.blk cur t h1
  have h5 : O + 3 < cur'.size := by omega
  refine ⟨?_, Lib.frozen_of_heap h3 _⟩
  rw [Lib.cell_of_heap h3]
  simp [h5]
/-- the first two stores -/
theorem two {w : World} {B O : Nat} {o v m : Int} {p : Option Addr} {c : Nat} {l : List Fv} (hr : w.rangeAt B O (Fv.mk o v m p c l).enc) (q : Int) {W : World} (hW : (w.setCell ⟨B, O + 2, none⟩ (.int .i64 q)).setCell ⟨B, O + 1, none⟩ (.int .i64 9) = W) :
    Chs [B] w W ∧ (∀ (cur : Array Value) t, w.heap[B]? = some (.cells cur t (0, 0)) → ∃ cur', W.heap[B]? = some (.cells cur' t (0, 0)) ∧ cur'.size = cur.size) ∧
    (W.cell? ⟨B, O, none⟩ = some (.int .i64 o) ∧ W.cell? ⟨B, O + 1, none⟩ = some (.int .i64 9) ∧ W.cell? ⟨B, O + 2, none⟩ = some (.int .i64 q) ∧ W.cell? ⟨B, O + 3, none⟩ = some (.slice p l.length c)) ∧
    ∀ o, o < O ∨ O + 4 ≤ o → W.cell? ⟨B, o, none⟩ = w.cell? ⟨B, o, none⟩ := by
  obtain ⟨q0, q1, q2, q3⟩ := cells4 hr
  have ne : ∀ a b : Nat, a ≠ b → (⟨B, a, none⟩ : Addr) ≠ ⟨B, b, none⟩ := fun a b h e => h (by injection e)
  subst hW
  refine ⟨Chs.setc (Chs.setc (Chs.of_below (Below.refl _ _)) (.inr (by simp)) _) (.inr (by simp)) _, fun cur t h => ⟨_, Go.Joins.block_setCell (i := O + 1) (Go.Joins.block_setCell (i := O + 2) h _) _, by simp⟩, ⟨?_, ?_, ?_, ?_⟩, fun o ho => ?_⟩
  · rw [World.cell?_setCell_other _ _ _ _ (ne _ _ (by omega)), World.cell?_setCell_other _ _ _ _ (ne _ _ (by omega)), q0]
  · refine World.cell?_setCell_same' _ _ _ ?_
    rw [World.cell?_setCell_other _ _ _ _ (ne _ _ (by omega)), q1]
    rfl
  · rw [World.cell?_setCell_other _ _ _ _ (ne _ _ (by omega))]
    exact World.cell?_setCell_same' _ _ _ (by rw [q2]; rfl)
  · rw [World.cell?_setCell_other _ _ _ _ (ne _ _ (by omega)), World.cell?_setCell_other _ _ _ _ (ne _ _ (by omega)), q3]
  · rw [World.cell?_setCell_other _ _ _ _ (ne _ _ (by omega)), World.cell?_setCell_other _ _ _ _ (ne _ _ (by omega))]
/-- an empty formula -/
def z0 : Fv := .mk 0 0 0 none 0 []
/-- a Formula of the kind 9 -/
def z9 : Fv := .mk 9 0 0 none 0 []
theorem own_fp {w : World} {o v m : Int} {p : Option Addr} {c n : Nat} {l : List Fv} (h : Dp w (.mk o v m p c l)) : ∀ g, (Value.slice p n c).ownBlock = some g → g ∈ fp (.mk o v m p c l) := fun g hg => by
  unfold Dp at h
  rcases h with ⟨rfl, rfl, rfl⟩ | ⟨h0, g', rfl, _⟩
  · cases hg
  · cases hg
    exact fp_row o v m _ c h0
theorem spoMid {x : Fv} {v : Value} {W wr WA w2 : World} {B g' : Nat} (hp : ∀ g, v.ownBlock = some g → g ∈ fp x) (hB : B ∉ fp x) (hL : B < W.heap.size) (hc : Chs (fp x) W wr) (hb : Below wr.heap.size wr WA) (gb : WA.grownBy w2 v.ownBlock)
    (hat : some g' = v.ownBlock ∨ some g' = some WA.heap.size) :
    B ≠ g' ∧ B < w2.heap.size ∧ w2.heap[B]? = W.heap[B]? ∧ (∀ k, k < W.heap.size → k ∉ fp x → k ≠ g' ∧ w2.heap[k]? = W.heap[k]?) ∧ W.heap.size ≤ w2.heap.size ∧ w2.os = W.os ∧ w2.tape = W.tape ∧ w2.output = W.output := by
  have s1 := hc.size
  have s2 := hb.size
  have s3 := gb.size
  have key : ∀ k, k < W.heap.size → k ∉ fp x → k ≠ g' ∧ w2.heap[k]? = W.heap[k]? := fun k hk hn => by
    refine ⟨fun e => ?_, ?_⟩
    · rcases hat with h | h
      · exact hn (hp k (by rw [← h, e]))
      · cases h; omega
    · exact (gb.block k (by omega) fun e => hn (hp k e.symm)).trans ((hb.block k (by omega)).trans (hc.block k hk hn))
  exact ⟨(key B hL hB).1, by omega, (key B hL hB).2, key, by omega, gb.os.trans (hb.os.trans hc.os), gb.tape.trans (hb.tape.trans hc.tape), gb.output.trans (hb.output.trans hc.output)⟩
theorem spoDone {x : Fv} {w W w2 wf : World} {B O g' c' : Nat} {L : List Fv} {v' : Value} {o q : Int} {u : Value} (hCW : Chs [B] w W) (hBW : ∀ (cur : Array Value) t, w.heap[B]? = some (.cells cur t (0, 0)) → ∃ cur', W.heap[B]? = some (.cells cur' t (0, 0)) ∧ cur'.size = cur.size)
    (hQ : W.cell? ⟨B, O, none⟩ = some (.int .i64 o) ∧ W.cell? ⟨B, O + 1, none⟩ = some (.int .i64 9) ∧ W.cell? ⟨B, O + 2, none⟩ = some (.int .i64 q) ∧ W.cell? ⟨B, O + 3, none⟩ = some u) (hFW : ∀ o, o < O ∨ O + 4 ≤ o → W.cell? ⟨B, o, none⟩ = w.cell? ⟨B, o, none⟩)
    (hM : B ≠ g' ∧ B < w2.heap.size ∧ w2.heap[B]? = W.heap[B]? ∧ (∀ k, k < W.heap.size → k ∉ fp x → k ≠ g' ∧ w2.heap[k]? = W.heap[k]?) ∧ W.heap.size ≤ w2.heap.size ∧ w2.os = W.os ∧ w2.tape = W.tape ∧ w2.output = W.output)
    (hv : v' = .slice (some ⟨g', 0, none⟩) L.length c') (hT : Tl w2 B O g' c' L.length v' true wf) : SpE w B O (fp x) wf := by
  obtain ⟨m1, m2, m3, m4, m5, m6, m7, m8⟩ := hM
  have s1 := hCW.size
  have s2 := hT.ch.size
  have hcell : ∀ i, i ≠ O + 3 → wf.cell? ⟨B, i, none⟩ = W.cell? ⟨B, i, none⟩ := fun i hi => (hT.far i hi).trans (World.cell?_of_block (a := ⟨B, i, none⟩) m3)
  refine ⟨⟨hT.ch.os.trans (m6.trans hCW.os), hT.ch.tape.trans (m7.trans hCW.tape), hT.ch.output.trans (m8.trans hCW.output), by omega, fun k hk hn => ?_⟩, fun cur t h => ?_, fun i hi => ?_, .mk o 9 q (some ⟨g', 0, none⟩) c' L, ?_⟩
  · have hkB : k ≠ B := fun e => hn (by simp [e])
    have hkx : k ∉ fp x := fun e => hn (List.mem_cons_of_mem _ e)
    obtain ⟨k1, k2⟩ := m4 k (by omega) hkx
    exact (hT.ch.block k (by omega) (by simp [hkB, k1])).trans (k2.trans (hCW.block k hk (by simp [hkB])))
  · obtain ⟨c1, h1, h2⟩ := hBW cur t h
    obtain ⟨c2, h3, h4⟩ := hT.blk c1 t (by rw [m3]; exact h1)
    exact ⟨c2, h3, by rw [h4, h2]⟩
  · rw [hcell i (by omega)]
    exact hFW i hi
  · intro j y hj
    match j, hj with
    | 0, hj => cases hj; exact (hcell O (by omega)).trans hQ.1
    | 1, hj => cases hj; exact (hcell (O + 1) (by omega)).trans hQ.2.1
    | 2, hj => cases hj; exact (hcell (O + 2) (by omega)).trans hQ.2.2.1
    | 3, hj => cases hj; exact (hT.fld rfl).trans (by rw [hv])
    | j + 4, hj => simp [Fv.enc] at hj
theorem src3 {w : World} {b : Nat} {t : TypeId} (h : w.heap[b]? = some (.cells #[.int .i64 0, .int .i64 0, .int .i64 0, .slice none 0 0, .int .i64 0, .int .i64 0, .int .i64 0, .slice none 0 0, .int .i64 0, .int .i64 0, .int .i64 0, .slice none 0 0] t (0, 0))) : Src w (.slice (some ⟨b, 0, none⟩) 3 3) [z0, z0, z0] := by
  refine .inr ⟨b, 0, 3, rfl, fun i x hx j u hj => ?_⟩
  rw [Lib.cell_of_heap h]
  match i, hx with
  | 0, hx => cases hx; match j, hj with
    | 0, hj => cases hj; rfl
    | 1, hj => cases hj; rfl
    | 2, hj => cases hj; rfl
    | 3, hj => cases hj; rfl
    | j + 4, hj => simp [z0, Fv.enc] at hj
  | 1, hx => cases hx; match j, hj with
    | 0, hj => cases hj; rfl
    | 1, hj => cases hj; rfl
    | 2, hj => cases hj; rfl
    | 3, hj => cases hj; rfl
    | j + 4, hj => simp [z0, Fv.enc] at hj
  | 2, hx => cases hx; match j, hj with
    | 0, hj => cases hj; rfl
    | 1, hj => cases hj; rfl
    | 2, hj => cases hj; rfl
    | 3, hj => cases hj; rfl
    | j + 4, hj => simp [z0, Fv.enc] at hj
  | i + 3, hx => simp at hx
/-- append, wherever an operation is told -/
theorem wp_app {w : World} {o : Oper} {a : Act} {K : Act → World → Prop} {Q : Exit → Act → World → Prop} (s x : Operand)
    (ho : o.op = .call { callee := .builtin .append, args := #[s, x], argTypes := #[24, 24] }) (v u : Value) (l m : List Fv) (hs : a.eval s = v) (hx : a.eval x = u) (hv : OR w v l) (hu : Src w u m) (hb : l.length + m.length ≤ 2097152)
    (h : ∀ v' w', OR w' v' (l ++ m) → w.grownBy w' v.ownBlock → (v'.ownBlock = v.ownBlock ∨ v'.ownBlock = some w.heap.size) → K (a.put o.dst v') w') : Oper.wp Try.prog o a w K Q := by
  obtain ⟨v', w', hr, h2, h3, h4⟩ := run_app w o.type v u l m hv hu hb
  unfold Oper.wp execOp
  simp only [ho, resolve, invoke, builtin, Sem.run_bind, Sem.run_pure, Result.andThen_ok, List.map_toArray, List.map_cons, List.map_nil, hs, hx, hr]
  exact h v' w' h2 h3 h4
end Kl
end Go.Proofs.Ytmpmlccomgepjaa
