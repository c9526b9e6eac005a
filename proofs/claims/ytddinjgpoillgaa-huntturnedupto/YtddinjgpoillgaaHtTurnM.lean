/-
  GROUND of gimletlaw16.HuntTurned: nine Hunts in a row; how their answers stand to one another; texts that came in.
-/
import Derived.Test.YtddinjgpoillgaaHtOnceM
namespace Go.Proofs.Ytddinjgpoillgaa
open Go.RowKit Go.Lib
namespace Ht
/-- the answer of the Hunt number k -/
def tk (K : Int) (T L : List Nat) (wh : Bool) (k : Nat) : Int := tru (cc k) (tdc k) (cn k K) T L wh
theorem tk_facts (K : Int) (T L : List Nat) (wh : Bool) : tk K T L wh 0 = 2 ∧ tk K T L wh 1 + tk K T L wh 2 = 2 ∧ (tk K T L wh 7 = 2 → tk K T L wh 6 = 0 ∧ tk K T L wh 8 = 0) ∧ (tk K T L wh 1 = 2 → tk K T L wh 3 = 2 ∧ tk K T L wh 4 = 2 ∧ tk K T L wh 5 = 2) ∧ (tk K T L wh 3 = 2 → tk K T L wh 5 = 2) := by
  have n2 : ∀ t : Int, (t = 0 ∨ t = 1 ∨ t = 2) → t + no t = 2 := fun t h => by rcases h with rfl | rfl | rfl <;> rfl
  cases wh
  · refine ⟨by simp [tk, tru, cc, tdc, opn], ?_, fun h => ?_, fun h => ?_, fun h => ?_⟩
    · exact n2 _ (opn_rng 1 T K L)
    · simp only [tk, tru, cc, tdc, cn, opn] at h ⊢
      by_cases e : K < L.length
      · have e2 : K - 1 < L.length := by omega
        simp [e, e2, no]
      · simp [e] at h
    · simp only [tk, tru, cc, tdc, cn, opn] at h
      by_cases e : L <+: T <;> simp [e] at h
    · simp only [tk, tru, cc, tdc, cn, opn] at h ⊢
      by_cases e : T <+: L
      · simp [e.isInfix]
      · by_cases k : L <+: T <;> simp [e, k] at h
  · refine ⟨by simp [tk, tru, cc, tdc, fin], ?_, fun h => ?_, fun h => ?_, fun h => ?_⟩
    · exact n2 _ (by rcases fin_rng 1 T K L with e | e
                     · exact .inl e
                     · exact .inr (.inr e))
    · simp only [tk, tru, cc, tdc, cn, fin] at h ⊢
      by_cases e : K < L.length
      · have e2 : K - 1 < L.length := by omega
        have e3 : ¬ (L.length : Int) = K := by omega
        simp [e2, e3, no]
      · simp [e] at h
    · simp only [tk, tru, cc, tdc, cn, fin] at h ⊢
      by_cases e : L = T
      · subst e
        simp
      · simp [e] at h
    · simp only [tk, tru, cc, tdc, cn, fin] at h ⊢
      by_cases e : T <+: L
      · simp [e.isInfix]
      · simp [e] at h
theorem tk_rng (K : Int) (T L : List Nat) (wh : Bool) (k : Nat) : 0 ≤ tk K T L wh k ∧ tk K T L wh k ≤ 2 := by
  have n2 : ∀ t : Int, (t = 0 ∨ t = 1 ∨ t = 2) → (0 ≤ t ∧ t ≤ 2) ∧ 0 ≤ no t ∧ no t ≤ 2 := fun t h => by rcases h with rfl | rfl | rfl <;> decide
  have h : (if wh then fin (cc k) T (cn k K) L else opn (cc k) T (cn k K) L) = 0 ∨ (if wh then fin (cc k) T (cn k K) L else opn (cc k) T (cn k K) L) = 1 ∨ (if wh then fin (cc k) T (cn k K) L else opn (cc k) T (cn k K) L) = 2 := by
    cases wh
    · exact opn_rng _ _ _ _
    · rcases fin_rng (cc k) T (cn k K) L with e | e
      · exact .inl e
      · exact .inr (.inr e)
  unfold tk tru
  split
  · exact (n2 _ h).2
  · exact (n2 _ h).1
/-- just one of the three, at the end -/
theorem tk_one (K : Int) (T L : List Nat) : (tk K T L true 6 = 2 ∧ tk K T L true 7 = 0 ∧ tk K T L true 8 = 0) ∨ (tk K T L true 6 = 0 ∧ tk K T L true 7 = 2 ∧ tk K T L true 8 = 0) ∨ (tk K T L true 6 = 0 ∧ tk K T L true 7 = 0 ∧ tk K T L true 8 = 2) := by
  simp only [tk, tru, cc, tdc, cn, fin]
  rcases Int.lt_trichotomy K L.length with h | h | h
  · have a : ¬ (L.length : Int) = K := by omega
    have b : K - 1 < L.length := by omega
    simp [h, a, b, no]
  · have a : ¬ K < L.length := by omega
    have b : K - 1 < L.length := by omega
    simp [h.symm, no]
    try omega
  · have a : ¬ (L.length : Int) = K := by omega
    have b : ¬ K - 1 < L.length := by omega
    have c : ¬ K < L.length := by omega
    simp [a, b, c, no]
/-- kept, where all blocks but rows of pointers are -/
theorem Hu.keep {w w' : World} {b : Nat} {c : Int} {td : Bool} {N : Int} {T L : List Nat} {wh : Bool} (h : Hu w b c td N T L wh)
    (e : ∀ (k : Nat) (cs : Array Value) (t : TypeId), w.heap[k]? = some (Obj.cells cs t (0, 0)) → t ≠ 26 → w'.heap[k]? = w.heap[k]?) : Hu w' b c td N T L wh := by
  obtain ⟨h0, xt, xb, q, t, h1, h2, h3⟩ := h
  refine ⟨h0, xt, xb, q, t, h1.of_block (e _ _ _ h1 (by decide)), ⟨h2.1, fun k => ?_, fun k => ?_⟩, h3⟩
  · obtain ⟨g, cap, cur, a1, a2, a3, a4, a5⟩ := h2.2.1 k
    have e1 := e _ _ _ a5 (by decide)
    exact ⟨g, cap, cur, a1, a2, a3, fun j hj => (World.cell?_of_block (a := ⟨g, 0 + j, none⟩) e1).trans (a4 j hj), e1.trans a5⟩
  · obtain ⟨g, bf, cur, a1, a2, a3⟩ := h2.2.2 k
    have e1 := e _ _ _ a2.blk (by decide)
    exact ⟨g, bf, cur, a1, ⟨e1.trans a2.blk, a2.size, a2.get⟩, a3⟩
/-- pointers -/
def pv (bl : List Nat) : List Value := bl.map fun b => .pointer (some ⟨b, 0, none⟩)
/-- a row of Hunts -/
structure Al (w : World) (B : Nat) (v : Value) (bl : List Nat) (K : Int) (T : List Nat) (Ls : Nat → List Nat) (ws : Nat → Bool) : Prop where
  own : w.ownsRow B 26 1 v bl.length (pv bl)
  hu : ∀ (k b : Nat), bl[k]? = some b → Hu w b (cc k) (tdc k) (cn k K) T (Ls k) (ws k)
  nd : ∀ (i j b : Nat), bl[i]? = some b → bl[j]? = some b → i = j
  lo : ∀ b ∈ bl, B ≤ b
theorem own_blk {w w' : World} {base n : Nat} {e : TypeId} {v : Value} {xs : List Value} (h : w.ownsRow base e 1 v n xs) (hb : ∀ (g : Nat) (cs : Array Value), v.ownBlock = some g → w.heap[g]? = some (Obj.cells cs e (0, 0)) → w'.heap[g]? = w.heap[g]?) : w'.ownsRow base e 1 v n xs := by
  refine ⟨h.1, ?_⟩
  rcases h.2 with h0 | ⟨g, cap, cur, e1, h1, h2, h3⟩
  · exact .inl h0
  · exact .inr ⟨g, cap, cur, e1, h1, (hb g cur (by rw [e1]; rfl) h2).trans h2, h3⟩
theorem own_typ {w : World} {base n : Nat} {e : TypeId} {v : Value} {xs : List Value} (h : w.ownsRow base e 1 v n xs) {g : Nat} (hg : v.ownBlock = some g) : ∃ cs, w.heap[g]? = some (.cells cs e (0, 0)) := by
  rcases h.2 with ⟨rfl, _⟩ | ⟨g', cap, cur, rfl, _, h2, _⟩
  · cases hg
  · cases hg; exact ⟨cur, h2⟩
theorem own_cell {w : World} {base n : Nat} {e : TypeId} {p : Option Addr} {c m : Nat} {xs : List Value} (h : w.ownsRow base e 1 (.slice p m c) n xs) {j : Nat} {u : Value} (hj : xs[j]? = some u) : ∃ g, p = some ⟨g, 0, none⟩ ∧ m = n ∧ w.cell? ⟨g, j, none⟩ = some u := by
  rcases h.2 with ⟨e0, h0⟩ | ⟨g, cap, cur, e1, h1, h2, h3, h4, h5, h6⟩
  · have : xs = [] := List.eq_nil_of_length_eq_zero (by rw [h.1, h0])
    rw [this] at hj; simp at hj
  · cases e1
    refine ⟨g, rfl, rfl, ?_⟩
    rw [Lib.cell_of_heap h2]
    have hjl := (List.getElem?_eq_some_iff.1 hj).1
    rw [h.1] at hjl
    rw [← h6, List.getElem?_take_of_lt hjl, Array.getElem?_toList] at hj
    exact hj
theorem own_sl {w : World} {base : Nat} {e : TypeId} {v : Value} {n : Nat} {xs : List Value} (h : w.ownsRow base e 1 v n xs) : ∃ p c, v = .slice p n c ∧ n ≤ c ∧ c ≤ 9223372036854775807 := by
  rcases h.2 with ⟨e0, h0⟩ | ⟨g, cap, cur, e1, _, _, h3, h4, _⟩
  · subst h0; exact ⟨none, 0, e0, Nat.le_refl _, by omega⟩
  · exact ⟨_, cap, e1, h3, by unfold maxLen at h4; exact h4⟩
theorem Al.below {w w' : World} {B : Nat} {v : Value} {bl : List Nat} {K : Int} {T : List Nat} {Ls : Nat → List Nat} {ws : Nat → Bool} (h : Al w B v bl K T Ls ws) (hb : Below w.heap.size w w') : Al w' B v bl K T Ls ws :=
  ⟨own_blk h.own fun g _ _ hg => hb.block g (Array.getElem?_eq_some_iff.1 hg).1, fun k b e => (h.hu k b e).below hb, h.nd, h.lo⟩
/-- one of them goes on -/
theorem Al.step {w w' : World} {B : Nat} {v : Value} {bl : List Nat} {K : Int} {T : List Nat} {Ls Ms : Nat → List Nat} {ws us : Nat → Bool} (h : Al w B v bl K T Ls ws) {k b : Nat} (hk : bl[k]? = some b) (hb : Hb b w w') (hu : Hu w' b (cc k) (tdc k) (cn k K) T (Ms k) (us k))
    (hs : ∀ j, j ≠ k → Ms j = Ls j ∧ us j = ws j) : Al w' B v bl K T Ms us := by
  have h1 := h.hu k b hk
  have hx := h1
  obtain ⟨_, _, _, _, _, hc, _⟩ := hx
  refine ⟨own_blk h.own fun g _ _ hg => hb.block g (Array.getElem?_eq_some_iff.1 hg).1 fun e => ?_, fun j b' e => ?_, h.nd, h.lo⟩
  · subst e
    rw [hc] at hg
    simp at hg
  · by_cases hj : j = k
    · subst hj
      rw [hk] at e
      cases e
      exact hu
    · rw [(hs j hj).1, (hs j hj).2]
      exact (h.hu j b' e).other h1 hb fun e2 => hj (h.nd j k b' e (e2 ▸ hk))
theorem pv_app (bl : List Nat) (b : Nat) : pv (bl ++ [b]) = pv bl ++ [.pointer (some ⟨b, 0, none⟩)] := by simp [pv]
theorem pv_at {bl : List Nat} {k b : Nat} (h : bl[k]? = some b) : (pv bl)[k]? = some (.pointer (some ⟨b, 0, none⟩)) := by unfold pv; rw [List.getElem?_map, h]; rfl
/-- one more -/
theorem Al.more {w w1 w2 : World} {B : Nat} {v v' : Value} {bl : List Nat} {K : Int} {T : List Nat} (h : Al w B v bl K T (fun _ => []) fun _ => false) (hw : Below w.heap.size w w1) {b : Nat} (hb : w.heap.size ≤ b) (hB : B ≤ w.heap.size) (hu : Hu w1 b (cc bl.length) (tdc bl.length) (cn bl.length K) T [] false)
    (ho : w2.ownsRow B 26 1 v' (bl.length + 1) (pv bl ++ [.pointer (some ⟨b, 0, none⟩)])) (hg : w1.grownBy w2 v.ownBlock) : Al w2 B v' (bl ++ [b]) K T (fun _ => []) fun _ => false := by
  have hlt : ∀ x ∈ bl, x < w.heap.size := fun x hx => by
    obtain ⟨i, hi⟩ := List.getElem?_of_mem hx
    exact (h.hu i x hi).lt
  have key : ∀ (k : Nat) (cs : Array Value) (t : TypeId), w1.heap[k]? = some (Obj.cells cs t (0, 0)) → t ≠ 26 → w2.heap[k]? = w1.heap[k]? := fun k _ t e ht => by
    refine hg.block k (Array.getElem?_eq_some_iff.1 e).1 fun c => ?_
    obtain ⟨cs', e'⟩ := own_typ h.own c.symm
    rw [hw.block k (Array.getElem?_eq_some_iff.1 e').1, e'] at e
    simp at e
    exact ht e.2.symm
  refine ⟨by rw [List.length_append, pv_app]; exact ho, fun k b' e => ?_, fun i j b' hi hj => ?_, fun x hx => ?_⟩
  · by_cases hk : k < bl.length
    · rw [List.getElem?_append_left hk] at e
      exact ((h.hu k b' e).below hw).keep key
    · have hl := (List.getElem?_eq_some_iff.1 e).1
      rw [List.length_append, List.length_singleton] at hl
      obtain rfl : k = bl.length := by omega
      simp at e
      subst e
      exact hu.keep key
  · have li := (List.getElem?_eq_some_iff.1 hi).1
    have lj := (List.getElem?_eq_some_iff.1 hj).1
    rw [List.length_append, List.length_singleton] at li lj
    by_cases hi2 : i < bl.length <;> by_cases hj2 : j < bl.length
    · rw [List.getElem?_append_left hi2] at hi
      rw [List.getElem?_append_left hj2] at hj
      exact h.nd i j b' hi hj
    · rw [List.getElem?_append_left hi2] at hi
      obtain rfl : j = bl.length := by omega
      simp at hj
      have := hlt b' (List.mem_of_getElem? hi)
      omega
    · rw [List.getElem?_append_left hj2] at hj
      obtain rfl : i = bl.length := by omega
      simp at hi
      have := hlt b' (List.mem_of_getElem? hj)
      omega
    · omega
  · rcases List.mem_append.1 hx with e | e
    · exact h.lo x e
    · simp at e; omega
/-- texts that came in -/
def Sr (w : World) (v : Value) (ps : List (List UInt8)) : Prop :=
  ∃ p cap, v = .slice p ps.length cap ∧ ps.length ≤ cap ∧ cap ≤ 9223372036854775807 ∧ (0 < ps.length → ∃ b o, p = some ⟨b, o, none⟩ ∧ ∀ i l, ps[i]? = some l → w.cell? ⟨b, o + i, none⟩ = some (.string (Rn.arr (Rn.lf l) l.length)))
/-- a text's characters, and those of the first i texts -/
def rr (l : List UInt8) : List Nat := Wd.R (Rn.lf l) l.length 0
def Lp (ps : List (List UInt8)) (i : Nat) : List Nat := ((ps.take i).map rr).flatten
theorem Lp_zero (ps : List (List UInt8)) : Lp ps 0 = [] := by simp [Lp]
theorem Lp_succ {ps : List (List UInt8)} {i : Nat} {l : List UInt8} (h : ps[i]? = some l) : Lp ps (i + 1) = Lp ps i ++ rr l := by
  unfold Lp
  have e : ps.take (i + 1) = ps.take i ++ [l] := by rw [List.take_add_one, h]; rfl
  rw [e, List.map_append, List.flatten_append]
  simp
theorem Lp_len (ps : List (List UInt8)) : ∀ i, (Lp ps i).length ≤ ((ps.take i).map List.length).sum := fun i => by
  unfold Lp
  rw [List.length_flatten, List.map_map]
  induction ps.take i with
  | nil => simp
  | cons a l ih =>
    have := Wd.R_length (Rn.lf a) a.length 0 (Rn.lf_lt _)
    simp only [List.map_cons, List.sum_cons, Function.comp, rr] at ih ⊢
    omega
end Ht
end Go.Proofs.Ytddinjgpoillgaa
