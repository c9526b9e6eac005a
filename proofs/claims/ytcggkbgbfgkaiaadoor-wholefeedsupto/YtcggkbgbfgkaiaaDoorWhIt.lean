/-
  What the loop over runes.All keeps in WholeRunes.
-/
import Derived.Test.YtcggkbgbfgkaiaaDoorWhBase
namespace Go.Proofs.YtcggkbgbfgkaiaaDoor
open Go.RowKit Go.Shelf
namespace Wh
theorem eql_nilFunc (b : Nat) (W : World) : (binOp BinOp.eql 28 (Value.func (.func 17) #[] #[.pointer (some ⟨b, 0, none⟩)]) .nilFunc).run Tryd.prog W = .ok (.bool false) W := by kernel_rfl

theorem rebase {w : World} {B C : Nat} {e : TypeId} {size : Nat} {v : Value} {n : Nat} {ys : List Value} (h : w.ownsRow B e size v n ys) (hC : C ≤ B) : w.ownsRow C e size v n ys := by
  refine ⟨h.1, ?_⟩
  rcases h.2 with h1 | ⟨g, cap, cur, hv, hb, rest⟩
  · exact .inl h1
  · exact .inr ⟨g, cap, cur, hv, Nat.le_trans hC hb, rest⟩
/-- the two slices, in their boxes, and their rows; all of it lies below K -/
structure B (w : World) (R P L K : Nat) {n : Nat} (cs : List (Rn.Chr n)) (pp pc : Option Addr) (cp cc : Nat) (W : World) : Prop where
  bel : Below R w W
  res : W.heap[R]? = some (.cells #[.bool false] 4 (0, 0))
  pb : W.heap[P]? = some (.cells #[.slice pp cs.length cp] 25 (0, 0))
  lb : W.heap[L]? = some (.cells #[.slice pc cs.length cc] 26 (0, 0))
  po : W.ownsRow (L + 1) 3 1 (.slice pp cs.length cp) cs.length (plcs cs)
  lo : W.ownsRow (L + 1) 21 1 (.slice pc cs.length cc) cs.length (rcs cs)
  pk : ∀ g, (Value.slice pp cs.length cp).ownBlock = some g → g < K
  lk : ∀ g, (Value.slice pc cs.length cc).ownBlock = some g → g < K
  rp : R < P
  pl : P < L
  lK : L < K
theorem B.size {w W : World} {R P L K n : Nat} {cs : List (Rn.Chr n)} {pp pc : Option Addr} {cp cc : Nat} (h : B w R P L K cs pp pc cp cc W) : L < W.heap.size := (Array.getElem?_eq_some_iff.1 h.lb).1
/-- what lies below K stays: so it stays -/
theorem B.keep {w W W' : World} {R P L K n : Nat} {cs : List (Rn.Chr n)} {pp pc : Option Addr} {cp cc : Nat} (h : B w R P L K cs pp pc cp cc W) (hk : ∀ k, k < K → k < W.heap.size → W'.heap[k]? = W.heap[k]?) (hb : Below R w W') : B w R P L K cs pp pc cp cc W' := by
  have hs := h.size
  have h1 := h.rp
  have h2 := h.pl
  have h3 := h.lK
  exact ⟨hb, (hk R (by omega) (by omega)).trans h.res, (hk P (by omega) (by omega)).trans h.pb, (hk L (by omega) hs).trans h.lb, keepRow h.po (fun g hg => hk g (h.pk g hg) (h.po.lt g hg).2), keepRow h.lo (fun g hg => hk g (h.lk g hg) (h.lo.lt g hg).2), h.pk, h.lk, h1, h2, h3⟩
theorem B.below {w W W' : World} {R P L K n : Nat} {cs : List (Rn.Chr n)} {pp pc : Option Addr} {cp cc : Nat} (h : B w R P L K cs pp pc cp cc W) (hb : Below W.heap.size W W') : B w R P L K cs pp pc cp cc W' :=
  h.keep (fun k _ hk => hb.block k hk) (h.bel.trans (hb.mono (by have := h.size; have := h.rp; have := h.pl; omega)))
theorem B.cells {w W : World} {R P L K n : Nat} {cs : List (Rn.Chr n)} {pp pc : Option Addr} {cp cc : Nat} (h : B w R P L K cs pp pc cp cc W) : W.cell? ⟨P, 0, none⟩ = some (.slice pp cs.length cp) ∧ W.cell? ⟨L, 0, none⟩ = some (.slice pc cs.length cc) ∧ W.cell? ⟨R, 0, none⟩ = some (.bool false) ∧ W.frozen? ⟨R, 0, none⟩ = false :=
  ⟨by rw [Lib.cell_of_heap h.pb]; rfl, by rw [Lib.cell_of_heap h.lb]; rfl, by rw [Lib.cell_of_heap h.res]; rfl, Lib.frozen_of_heap h.res 0⟩
theorem B.at {w W : World} {R P L K n : Nat} {cs : List (Rn.Chr n)} {pp pc : Option Addr} {cp cc : Nat} (h : B w R P L K cs pp pc cp cc W) (h0 : 0 < cs.length) : ∃ gp gc, pp = some ⟨gp, 0, none⟩ ∧ pc = some ⟨gc, 0, none⟩ ∧ (∀ j (hj : j < cs.length), W.cell? ⟨gp, j, none⟩ = some (.int .i64 cs[j].1.1)) ∧ (∀ j (hj : j < cs.length), W.cell? ⟨gc, j, none⟩ = some (.int .i32 cs[j].1.2)) := by
  obtain ⟨p, c, e, hp⟩ := owns_slice h.po
  obtain ⟨p', c', e', hp'⟩ := owns_slice h.lo
  cases e
  cases e'
  obtain ⟨g, rfl, hg⟩ := hp h0
  obtain ⟨g', rfl, hg'⟩ := hp' h0
  exact ⟨g, g', rfl, rfl, fun j hj => hg j _ (by simp [plcs, hj]), fun j hj => hg' j _ (by simp [rcs, hj])⟩

/-- between two rounds -/
structure J (w : World) (R P L K : Nat) {n : Nat} (cs : List (Rn.Chr n)) (pp pc : Option Addr) (cp cc : Nat) (pre : List (Rn.Chr n)) (W : World) : Prop where
  base : B w R P L K cs pp pc cp cc W
  num : W.heap[K]? = some (.cells #[.int .i64 (pre.length : Int)] 3 (0, 0))
  ok : pre <+: cs
theorem J.own (w : World) (R P L K : Nat) {n : Nat} (cs : List (Rn.Chr n)) (pp pc : Option Addr) (cp cc : Nat) (X : Nat) (hX : K < X) (hRK : R < K) : OwnFrom X (J w R P L K cs pp pc cp cc) := by
  intro pre W W' row h hg hr
  have hl : ∀ k, k < X → k < W.heap.size → W'.heap[k]? = W.heap[k]? := fun k h1 h2 => hg.block k h2 (fun e => by have := (hr k e.symm).1; omega)
  have hK := (Array.getElem?_eq_some_iff.1 h.num).1
  refine ⟨h.base.keep (fun k h1 h2 => hl k (by omega) h2) (h.base.bel.trans ⟨hg.os, hg.tape, hg.output, hg.size, fun k hk => hl k (by omega) (by omega)⟩), (hl K hX hK).trans h.num, h.ok⟩
theorem X.own {n : Nat} (cs : List (Rn.Chr n)) (co : Code) (X : Nat) : OwnFrom X (fun (pre : List (Rn.Chr n)) (_ : World) => co = .ret ∧ ¬ pre <+: cs) := fun _ _ _ _ h _ _ => h
theorem J.step {w W : World} {R P L K n : Nat} {cs pre : List (Rn.Chr n)} {pp pc : Option Addr} {cp cc : Nat} (h : J w R P L K cs pp pc cp cc pre W) (x : Rn.Chr n) (hx : pre ++ [x] <+: cs) : J w R P L K cs pp pc cp cc (pre ++ [x]) (W.setCell ⟨K, 0, none⟩ (.int .i64 ((pre.length : Int) + 1))) := by
  have h1 := h.base.rp
  have h2 := h.base.pl
  have h3 := h.base.lK
  refine ⟨h.base.keep (fun k hk _ => Below.heap_setCell _ _ _ _ (by show k ≠ K; omega)) (h.base.bel.setCell (p := ⟨K, 0, none⟩) (by show R ≤ K; omega) _), ?_, hx⟩
  have e : (((pre ++ [x]).length : Nat) : Int) = (pre.length : Int) + 1 := by simp
  rw [e]
  exact Go.Joins.block_setCell (i := 0) h.num _
/-- the next one is the list's next, or it isn't -/
theorem pre_next {n : Nat} {cs pre : List (Rn.Chr n)} (h : pre <+: cs) (x : Rn.Chr n) : (pre ++ [x] <+: cs) ↔ ∃ hj : pre.length < cs.length, cs[pre.length] = x := by
  obtain ⟨t, rfl⟩ := h
  cases t with
  | nil =>
    constructor
    · rintro ⟨t, ht⟩
      have := congrArg List.length ht
      simp at this
    · rintro ⟨hj, _⟩
      simp at hj
  | cons y t =>
    constructor
    · rintro ⟨u, hu⟩
      refine ⟨by simp, ?_⟩
      rw [List.append_assoc] at hu
      have := List.append_cancel_left hu
      simp at this
      simp [this.1]
    · rintro ⟨hj, hx⟩
      simp at hx
      exact ⟨t, by rw [← hx]; simp⟩
/-- the text of the runes, whichever way it is made -/
theorem conv_lie (L : List Nat) (hL : ∀ r ∈ L, Rn.scal r) (g cap : Nat) (w : World) (h : Lie w g L) : (convert 26 9 (.slice (some ⟨g, 0, none⟩) L.length cap)).run Tryd.prog w = .ok (.string (Rn.tx L)) w := by
  have h := run_convert_runes (P := Tryd.prog) w 26 9 21 ⟨g, 0, none⟩ L.length cap (L.map (fun r : Nat => (r : Int))) (by simp) Tryd.underlying26 Tryd.underlying21 Tryd.underlying9 (fun j hj => by
    rw [List.length_map] at hj
    have e : (Addr.add ⟨g, 0, none⟩ j) = ⟨g, 0 + j, none⟩ := by simp [Addr.add]; omega
    rw [e, h j hj]
    simp [hj])
  rw [List.take_of_length_le (by simp), Rn.runesBytes_tx L hL] at h
  exact h
theorem B.conv {w W : World} {R P L K n : Nat} {cs : List (Rn.Chr n)} {pp pc : Option Addr} {cp cc : Nat} (h : B w R P L K cs pp pc cp cc W) (hL : ∀ r ∈ Rn.rl cs, Rn.scal r) : (convert 26 9 (.slice pc cs.length cc)).run Tryd.prog W = .ok (.string (Rn.tx (Rn.rl cs))) W := by
  obtain ⟨p', c', e', hp'⟩ := owns_slice h.lo
  cases e'
  by_cases h0 : 0 < cs.length
  · obtain ⟨g, rfl, hg⟩ := hp' h0
    have := conv_lie (Rn.rl cs) hL g cc W (fun j hj => by
      have hj' : j < cs.length := by simpa [Rn.rl] using hj
      rw [Nat.zero_add, hg j (.int .i32 (cs[j].1.2 : Nat)) (by simp [rcs, hj'])]
      simp [Rn.rl])
    rw [show (Rn.rl cs).length = cs.length by simp [Rn.rl]] at this
    exact this
  · have hcs : cs = [] := List.eq_nil_of_length_eq_zero (by omega)
    subst hcs
    rcases h.lo.2 with ⟨e, _⟩ | ⟨g, cap, cur, e, _⟩
    · rw [e, run_convert_runes_nil W 26 9 21 0 0 Tryd.underlying26 Tryd.underlying21 Tryd.underlying9]
      rfl
    · cases e
      exact conv_lie [] (fun r hr => by cases hr) g cc W (fun j hj => by simp at hj)
set_option maxHeartbeats 400000 in
theorem join_of (v : Value) (T : ByteArray) (W : World) (h : (convert 26 9 v).run Tryd.prog W = .ok (.string T) W) :
    Calls Tryd.prog 8 #[v] W fun e w' => e = .returned (.string T) ∧ w' = W := by
  go_enter Tryd.func8, Tryd.ntmps8
  go_wp2
  go_ret
  exact ⟨rfl, rfl⟩
theorem mend_tx (f : Nat → Nat) (n : Nat) (w : World) (hf : ∀ j, f j < 256) (hbig : n ≤ 35184372088832) :
    Calls Tryd.prog 9 #[.string (Rn.arr f n)] w fun e w' => e = .returned (.string (Rn.tx (Rn.rl (Rn.chs f n hf)))) ∧ Below w.heap.size w w' := by
  refine (mend_any f n w hf hbig).mono ?_
  rintro e w' ⟨rfl, hb, -⟩
  refine ⟨?_, hb⟩
  rw [Rn.md_cat, Rn.tx, Rn.arr_lf]
end Wh
end Go.Proofs.YtcggkbgbfgkaiaaDoor
