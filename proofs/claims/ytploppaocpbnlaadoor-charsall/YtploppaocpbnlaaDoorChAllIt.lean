/-
  WALKS over chars.yieldSpan, the function that chars.All hands back, and chars.All: the characters of a class, one by one.
-/
import Derived.Test.YtploppaocpbnlaaDoorChTab
import Derived.RangeFuncNested
import Derived.RangeFuncBound
import Derived.RangeFuncCalls
import Derived.RangeFuncLeaves
import Derived.Shelf.Abstract
import Derived.Shelf.RegionOpen
import Derived.OwnWalkIn
import Derived.TacticsInMore
import Derived.LoopNIn
import Derived.LoopIn
namespace Go.Proofs.YtploppaocpbnlaaDoor
open Go.RowKit Go.Shelf
attribute [local go_sem] Oper.semAt_some

namespace Ch
/-- the numbers of a range; the characters of a class, rising -/
def rng (lo hi : Nat) : List Nat := List.range' lo (hi + 1 - lo)
def fl (l : List (Nat × Nat)) : List Nat := l.flatMap fun p => rng p.1 p.2
def cl (c : Int) : List Nat := fl (rg c)
def encR (x : Nat) : Array Value := #[.int .i32 (x : Int)]
theorem rng_empty {lo hi : Nat} (h : hi < lo) : rng lo hi = [] := by unfold rng; rw [show hi + 1 - lo = 0 by omega]; rfl
theorem rng_step {lo hi : Nat} (h : lo ≤ hi) : rng lo hi = lo :: rng (lo + 1) hi := by
  unfold rng
  rw [show hi + 1 - lo = (hi + 1 - (lo + 1)) + 1 by omega]
  rfl
theorem rng_length (lo hi : Nat) : (rng lo hi).length = hi + 1 - lo := by simp [rng]
theorem fl_cons (p : Nat × Nat) (l : List (Nat × Nat)) : fl (p :: l) = rng p.1 p.2 ++ fl l := by simp [fl]
theorem fl_pick (s : Sp) (l : List Sp) (c : Int) : fl (pick (s :: l) c) = (if (s.1 : Int) = c then rng s.2.1 s.2.2 else []) ++ fl (pick l c) := by
  rw [pick_cons]
  split
  · rw [fl_cons]
  · rfl
end Ch

/-- what is cells is kept, but for the blocks of p -/
structure KeepsBut (p : Nat → Prop) (W W' : World) : Prop where
  size : W.heap.size ≤ W'.heap.size
  same : ∀ (k : Nat) (o : Obj), W.heap[k]? = some o → o.isCells = true → ¬ p k → W'.heap[k]? = some o
theorem KeepsBut.trans {p : Nat → Prop} {A B C : World} (h : KeepsBut p A B) (k : KeepsBut p B C) : KeepsBut p A C :=
  ⟨Nat.le_trans h.size k.size, fun i o hi ho hp => k.same i o (h.same i o hi ho hp) ho hp⟩
theorem KeepsBut.refl (p : Nat → Prop) (A : World) : KeepsBut p A A := ⟨Nat.le_refl _, fun _ _ h _ _ => h⟩
theorem KeepsBut.of_grown {p : Nat → Prop} {W W' : World} (hg : W.grownBy W' none) : KeepsBut p W W' :=
  ⟨hg.size, fun k o hk _ _ => (hg.block k (Array.getElem?_eq_some_iff.1 hk).1 (fun e => by cases e)).trans hk⟩
theorem KeepsBut.putObj {p : Nat → Prop} (W : World) (l : Nat) (o o' : Obj) (h : W.heap[l]? = some o) (hc : o.isCells = false) : KeepsBut p W (W.putObj l o') := by
  refine ⟨by simp [World.putObj], fun k o1 hk ho _ => ?_⟩
  by_cases e : k = l
  · subst e
    rw [h] at hk
    cases hk
    rw [hc] at ho
    cases ho
  · exact (World.putObj_heap_other e).trans hk

set_option maxRecDepth 100000 in
set_option maxHeartbeats 2000000 in
/-- one range, given to a loop's body -/
theorem yieldSpan_in (F : Fence) (m : Nat) (hF : F.fn 31) (hro : F.round = none) (hm : 1 ≤ m) (l : Nat) (p : Nat → Prop) (J Jx : List Nat → World → Prop) (N : Nat)
    (cls lo hi : Nat) (hlo : lo ≤ hi) (hhi : hi ≤ 1114111) (pre0 : List Nat) (hN : pre0.length + (hi + 1 - lo) ≤ N)
    (W : World) (hp : ∀ k, p k → k < W.heap.size) (B : Nat) (hJ : AbidesFrom B J)
    (hY : ∀ pre x W1, J pre W1 → pre.length < N → YieldAt F (m - 1) Tryd.prog l (Ch.encR x) W1 fun e W' =>
      (e = .returned (.bool true) ∧ J (pre ++ [x]) W' ∧ KeepsBut p W1 W') ∨ (e = .returned (.bool false) ∧ Jx (pre ++ [x]) W'))
    (h0 : J pre0 W) :
    CallsIn F m Tryd.prog 31 #[.agg #[.int .i64 (cls : Int), .int .i32 (lo : Int), .int .i32 (hi : Int)], .func (.yield l) #[] #[]] W fun e W' =>
      (e = .returned (.bool true) ∧ J (pre0 ++ Ch.rng lo hi) W' ∧ KeepsBut p W W') ∨ (e = .returned (.bool false) ∧ ∃ q, q <+: Ch.rng lo hi ∧ Jx (pre0 ++ q) W') := by
  refine callsIn_of_wp Tryd.func31 rfl hF ?_ hro
  simp only [Tryd.ntmps31, List.size_toArray, List.length_cons, List.length_nil, Nat.reduceAdd, Nat.reduceSub, Array.replicate_succ, Array.replicate_zero, List.push_toArray, List.append_toArray, List.nil_append, List.cons_append]
  have hW0 := World.alloc_heap_new W (.cells #[.int .i64 (cls : Int), .int .i32 (lo : Int), .int .i32 (hi : Int)] 47)
  have hJ0 := hJ pre0 W _ none h0 (World.grownBy_alloc W (.cells #[.int .i64 (cls : Int), .int .i32 (lo : Int), .int .i32 (hi : Int)] 47) none) (fun r e => by cases e)
  have hK0 : KeepsBut p W _ := KeepsBut.of_grown (World.grownBy_alloc W (.cells #[.int .i64 (cls : Int), .int .i32 (lo : Int), .int .i32 (hi : Int)] 47) none)
  have hnp : ¬ p W.heap.size := fun h => by have := hp _ h; omega
  gi_wp2
  generalize W.alloc (.cells #[.int .i64 (cls : Int), .int .i32 (lo : Int), .int .i32 (hi : Int)] 47) = W1 at *
  gi_loopw [5] (fun v wr => ∃ (x : Nat) (q : List Nat), v = .int .i32 (x : Int) ∧ x ≤ hi + 1 ∧ Hid (q ++ Ch.rng x hi = Ch.rng lo hi) ∧ J (pre0 ++ q) wr ∧ pre0.length + q.length + (hi + 1 - x) ≤ N ∧ wr.heap[W.heap.size]? = some (.cells #[.int .i64 (cls : Int), .int .i32 (lo : Int), .int .i32 (hi : Int)] 47 (0, 0)) ∧ KeepsBut p W wr) (fun v _ => hi + 1 - (intOf v).toNat)
  case atStart => exact ⟨lo, [], rfl, by omega, rfl, by rw [List.append_nil]; exact hJ0, by simp; omega, hW0, hK0⟩
  case round =>
    clear hW0 hJ0 hK0 h0
    obtain ⟨x, q, rfl, hx, hq, hJs, hl, hbox, hK⟩ := hrel
    have c2 : wr.cell? ⟨W.heap.size, 2, none⟩ = some (.int .i32 (hi : Int)) := by rw [Lib.cell_of_heap hbox]; rfl
    by_cases hxh : x ≤ hi
    · have hxi : (x : Int) ≤ (hi : Int) := by omega
      obtain ⟨fn, tmps, assign, body, hy, hR⟩ := hY (pre0 ++ q) x wr hJs (by simp; omega)
      simp only [Ch.encR] at hy
      have hq2 := hq.out
      rw [Ch.rng_step hxh] at hq2
      have HQ := hide' hq2
      clear hY hq hq2 hJs
      gi_wp2
      refine hR.mono ?_
      rintro e W3 (⟨rfl, hJ3, hk3⟩ | ⟨rfl, hJx3⟩)
      · have hbox3 := hk3.same _ _ hbox rfl hnp
        have hK3 := hK.trans hk3
        rw [List.append_assoc] at hJ3
        gi_wp2
        go_roundw
        case rel => exact ⟨x + 1, q ++ [x], by go_num, by omega, by show _ = _; rw [List.append_assoc]; exact HQ.out, hJ3, by simp; omega, hbox3, hK3⟩
        case measure => simp [intOf]; omega
      · rw [List.append_assoc] at hJx3
        gi_wp2
        go_ret
        exact .inr ⟨rfl, q ++ [x], ⟨_, by rw [List.append_assoc]; exact HQ.out⟩, hJx3⟩
    · have hxi : ¬ (x : Int) ≤ (hi : Int) := by omega
      have hq2 := hq.out
      rw [Ch.rng_empty (by omega), List.append_nil] at hq2
      have HQ := hide' hq2
      clear hY hq hq2
      gi_wp2
      go_ret
      exact .inl ⟨rfl, by rw [← HQ.out]; exact hJs, hK⟩

theorem KeepsBut.cell {p : Nat → Prop} {W W' : World} (h : KeepsBut p W W') {a : Addr} {v : Value} (hc : W.cell? a = some v) (hn : ¬ p a.block) : W'.cell? a = some v := by
  unfold World.cell? at hc ⊢
  split at hc
  · next c t fr e =>
    rw [h.same _ _ e rfl hn]
    exact hc
  · cases hc

theorem yieldAt_free {F : Fence} (hd : F.depth = none) {m : Nat} (m' : Nat) {P : Program} {l : Nat} {args : Array Value} {W : World} {R : Ending → World → Prop} (h : YieldAt F m P l args W R) : YieldAt F m' P l args W R := by
  obtain ⟨fn, tmps, assign, body, hy, h1, h2⟩ := h
  exact ⟨fn, tmps, assign, body, hy, h1, fun c cs _ => h2 c cs (fun d e => by rw [hd] at e; cases e)⟩

/-- the table lies in memory, outside the blocks of p -/
def SpansN (p : Nat → Prop) (w : World) : Prop := ∃ b o cap, ¬ p b ∧ ¬ p 0 ∧ w.cell? ⟨0, 0, none⟩ = some (.slice (some ⟨b, o, none⟩) 45 cap) ∧
  ∀ i s, Ch.tab[i]? = some s → w.cell? ⟨b, o + i * 3, none⟩ = some (.int .i64 (s.1 : Nat)) ∧ w.cell? ⟨b, o + i * 3 + 1, none⟩ = some (.int .i32 (s.2.1 : Nat)) ∧ w.cell? ⟨b, o + i * 3 + 2, none⟩ = some (.int .i32 (s.2.2 : Nat))
theorem SpansN.of {w W : World} {p : Nat → Prop} (hS : Spans w) (hb : Below w.heap.size w W) (hp : ∀ k, p k → w.heap.size ≤ k) : SpansN p W := by
  obtain ⟨b, o, cap, h0, hc⟩ := hS
  have k : ∀ {q : Addr} {v}, w.cell? q = some v → W.cell? q = some v := fun {q v} e => (hb.cell (p := q) (block_lt_of_cell e)).trans e
  have n : ∀ {q : Addr} {v}, w.cell? q = some v → ¬ p q.block := fun {q v} e h => by have := hp _ h; have := block_lt_of_cell e; omega
  have hs : Ch.tab[0]? = some (Ch.tab[0]'(by rw [Ch.tab_length]; omega)) := List.getElem?_eq_getElem _
  refine ⟨b, o, cap, n (hc 0 _ hs).1, n h0, k h0, fun i s hs => ?_⟩
  obtain ⟨c1, c2, c3⟩ := hc i s hs
  exact ⟨k c1, k c2, k c3⟩

namespace Ch
theorem tab_bound : ∀ (i : Nat) (s : Sp), tab[i]? = some s → s.2.1 ≤ s.2.2 ∧ s.2.2 ≤ 1114111 := by
  have h : (tab.all fun s => decide (s.2.1 ≤ s.2.2 ∧ s.2.2 ≤ 1114111)) = true := by decide +kernel
  intro i s hs
  exact of_decide_eq_true (List.all_eq_true.1 h s (List.mem_of_getElem? hs))
end Ch

set_option maxRecDepth 100000 in
set_option maxHeartbeats 2000000 in
/-- the function that All hands back -/
theorem chAll1_in (F : Fence) (m : Nat) (hF : F.fn 30) (hF2 : F.fn 31) (hro : F.round = none) (hd : F.depth = none) (hm : 2 ≤ m) (l Bs : Nat) (c : Int) (p : Nat → Prop) (J Jx : List Nat → World → Prop)
    (W : World) (hp : ∀ k, p k → k < W.heap.size) (hJ : AbidesFrom W.heap.size J)
    (hY : ∀ pre x W1, J pre W1 → pre.length < (Ch.cl c).length → YieldAt F (m - 1) Tryd.prog l (Ch.encR x) W1 fun e W' =>
      (e = .returned (.bool true) ∧ J (pre ++ [x]) W' ∧ KeepsBut p W1 W') ∨ (e = .returned (.bool false) ∧ Jx (pre ++ [x]) W'))
    (hBs : W.cell? ⟨Bs, 0, none⟩ = some (.int .i64 c)) (hBp : ¬ p Bs) (hS : SpansN p W) (h0 : J [] W) :
    CallsIn F m Tryd.prog 30 #[.func (.yield l) #[] #[], .pointer (some ⟨Bs, 0, none⟩)] W fun e W' => (∃ v, e = .returned v) ∧
      ((∃ ys, ys = Ch.cl c ∧ J ys W') ∨ (∃ pre, pre <+: Ch.cl c ∧ Jx pre W')) := by
  obtain ⟨b, o, cap, hnb, hng, hs0, hsc⟩ := hS
  refine callsIn_of_wp Tryd.func30 rfl hF ?_ hro
  simp only [Tryd.ntmps30, List.size_toArray, List.length_cons, List.length_nil, Nat.reduceAdd, Nat.reduceSub, Array.replicate_succ, Array.replicate_zero, List.push_toArray, List.append_toArray, List.nil_append, List.cons_append]
  gi_wp2
  gi_loopw [7] (fun v wr => ∃ (k : Nat) (q : List Nat), v = .int .i64 k ∧ k ≤ 45 ∧ Hid (q ++ Ch.fl (Ch.pick (Ch.tab.drop k) c) = Ch.cl c) ∧ J q wr ∧ KeepsBut p W wr) (fun v _ => 45 - (intOf v).toNat)
  case atStart => exact ⟨0, [], rfl, by omega, rfl, h0, KeepsBut.refl _ _⟩
  case round =>
    obtain ⟨k, q, rfl, hk, hq, hJs, hK⟩ := hrel
    by_cases hlt : k < 45
    · have g1 : (k : Int) < 45 := by omega
      have hkl : k < Ch.tab.length := by rw [Ch.tab_length]; exact hlt
      obtain ⟨d1, d2, d3⟩ := hsc k _ (List.getElem?_eq_getElem hkl)
      have e1 := hK.cell d1 hnb
      have e2 := hK.cell d2 hnb
      have e3 := hK.cell d3 hnb
      have hsm := Ch.tab_bound k _ (List.getElem?_eq_getElem hkl)
      have hq2 := hq.out
      rw [List.drop_eq_getElem_cons hkl, Ch.fl_pick] at hq2
      have HQ := hide' hq2
      clear hq hq2
      generalize Ch.tab[k] = s at *
      obtain ⟨cls, lo, hi⟩ := s
      simp only at e1 e2 e3 hsm HQ
      obtain ⟨hlo, hhi⟩ := hsm
      have eB := hK.cell hBs hBp
      obtain ⟨W1, hW1⟩ : ∃ W1, wr.alloc (.cells #[.int .i64 (cls : Int), .int .i32 (lo : Int), .int .i32 (hi : Int)] 47) = W1 := ⟨_, rfl⟩
      have hg1 : wr.grownBy W1 none := by rw [← hW1]; exact World.grownBy_alloc wr _ none
      have hK1 := hK.trans (KeepsBut.of_grown (p := p) hg1)
      have hJ1 := hJ q wr W1 none hJs hg1 (fun r e => by cases e)
      have hw1 : W1.heap[wr.heap.size]? = some (.cells #[.int .i64 (cls : Int), .int .i32 (lo : Int), .int .i32 (hi : Int)] 47 (0, 0)) := by rw [← hW1]; exact World.alloc_heap_new wr _
      have f0 : W1.cell? ⟨wr.heap.size, 0, none⟩ = some (.int .i64 (cls : Int)) := by rw [Lib.cell_of_heap hw1]; rfl
      have f1 : W1.cell? ⟨wr.heap.size, 1, none⟩ = some (.int .i32 (lo : Int)) := by rw [Lib.cell_of_heap hw1]; rfl
      have f2 : W1.cell? ⟨wr.heap.size, 2, none⟩ = some (.int .i32 (hi : Int)) := by rw [Lib.cell_of_heap hw1]; rfl
      have fB := hK1.cell hBs hBp
      have hs1 := hK1.size
      clear d1 d2 d3 hsc hs0 hkl hBs hJs hK
      by_cases hc : (cls : Int) = c
      · have n1 : ((cls : Int) == c) = true := by simp [hc]
        have hq2 := HQ.out
        rw [if_pos hc] at hq2
        have hln := congrArg List.length hq2
        rw [List.length_append, List.length_append, Ch.rng_length] at hln
        have cY := yieldSpan_in F (m - 1) hF2 hro (by omega) l p J Jx (Ch.cl c).length cls lo hi hlo hhi q (by omega) W1 (fun k h => Nat.lt_of_lt_of_le (hp k h) hs1) W.heap.size hJ (fun pre x W1 h1 h2 => yieldAt_free hd _ (hY pre x W1 h1 h2)) hJ1
        have HQ2 := hide' hq2
        clear HQ hq2 hln hY hc
        gi_wp2_with fail
        refine cY.mono ?_
        rintro e W3 (⟨rfl, hJ3, hK3⟩ | ⟨rfl, q2, ⟨t, ht⟩, hJx3⟩)
        · have hK4 := hK1.trans hK3
          clear cY
          gi_wp2
          go_roundw
          case rel => exact ⟨k + 1, q ++ Ch.rng lo hi, by go_num, by omega, by show _ = _; rw [List.append_assoc]; exact HQ2.out, hJ3, hK4⟩
          case measure => simp [intOf]; omega
        · have HT := hide' ht
          clear cY ht
          gi_wp2
          refine bodyPost_ret (results_none rfl _ _ _) rfl ?_
          exact ⟨⟨_, rfl⟩, .inr ⟨q ++ q2, ⟨t ++ Ch.fl (Ch.pick (Ch.tab.drop (k + 1)) c), by rw [← HQ2.out, ← HT.out]; simp⟩, hJx3⟩⟩
      · have n1 : ((cls : Int) == c) = false := by simp [hc]
        have hq2 := HQ.out
        rw [if_neg hc, List.nil_append] at hq2
        have HQ2 := hide' hq2
        clear HQ hq2 hY hc
        gi_wp2
        go_roundw
        case rel => exact ⟨k + 1, q, by go_num, by omega, HQ2, hJ1, hK1⟩
        case measure => simp [intOf]; omega
    · obtain rfl : k = 45 := by omega
      have hq2 := hq.out
      rw [List.drop_eq_nil_of_le (by rw [Ch.tab_length]; omega), show Ch.fl (Ch.pick [] c) = [] from rfl, List.append_nil] at hq2
      have HQ := hide' hq2
      clear hq hq2 hY
      gi_wp2
      go_end0
      exact ⟨⟨_, rfl⟩, .inl ⟨_, HQ.out, hJs⟩⟩

set_option maxHeartbeats 1000000 in
theorem chAll_in (F : Fence) (m : Nat) (hF : F.fn 22) (hro : F.round = none) (c : Int) (w : World) :
    CallsIn F m Tryd.prog 22 #[.int .i64 c] w fun e w' => e = .returned (.func (.func 30) #[] #[.pointer (some ⟨w.heap.size, 0, none⟩)]) ∧ w' = w.alloc (.cells #[.int .i64 c] 24) := by
  refine callsIn_of_wp Tryd.func22 rfl hF ?_ hro
  simp only [Tryd.ntmps22, List.size_toArray, List.length_cons, List.length_nil, Nat.reduceAdd, Nat.reduceSub, Array.replicate_succ, Array.replicate_zero, List.push_toArray, List.append_toArray, List.nil_append, List.cons_append]
  gi_wp2
  go_ret
  exact ⟨rfl, rfl⟩

theorem SpansN.below {p : Nat → Prop} {w W : World} (h : SpansN p w) (hb : Below w.heap.size w W) : SpansN p W := by
  obtain ⟨b, o, cap, n1, n2, h0, hc⟩ := h
  have k : ∀ {q : Addr} {v}, w.cell? q = some v → W.cell? q = some v := fun {q v} e => (hb.cell (p := q) (block_lt_of_cell e)).trans e
  refine ⟨b, o, cap, n1, n2, k h0, fun i s hs => ?_⟩
  obtain ⟨c1, c2, c3⟩ := hc i s hs
  exact ⟨k c1, k c2, k c3⟩

/-- All gives the characters of the class, in order; or a beginning of them -/
theorem chAll_stops (F : Fence) (m : Nat) (hF : F.fn 30) (hF2 : F.fn 31) (hro : F.round = none) (hd : F.depth = none) (hm : 2 ≤ m) (Bs : Nat) (c : Int) (p : Nat → Prop) (w : World)
    (hp : ∀ k, p k → k < w.heap.size) (hBs : w.cell? ⟨Bs, 0, none⟩ = some (.int .i64 c)) (hBp : ¬ p Bs) (hS : SpansN p w) :
    SeqStopsK F m Tryd.prog 30 #[.pointer (some ⟨Bs, 0, none⟩)] Ch.encR (KeepsBut p) (fun ys => ys = Ch.cl c) (fun pre => pre <+: Ch.cl c) (Ch.cl c).length w := fun l J Jx W hW hJ _ hY h0 =>
  chAll1_in F m hF hF2 hro hd hm l Bs c p J Jx W (fun k h => Nat.lt_of_lt_of_le (hp k h) hW.size) hJ hY ((hW.cell (p := ⟨Bs, 0, none⟩) (block_lt_of_cell hBs)).trans hBs) hBp (hS.below hW) h0
end Go.Proofs.YtploppaocpbnlaaDoor
