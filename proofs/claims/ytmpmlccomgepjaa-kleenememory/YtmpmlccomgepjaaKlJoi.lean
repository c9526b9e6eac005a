/-
  THE WALK over (join).joined.
-/
import Derived.Test.YtmpmlccomgepjaaKlAny
namespace Go.Proofs.Ytmpmlccomgepjaa
open Go.RowKit Go.Lib Go.Sort
namespace Kl
/-- does one of the others differ from the first? -/
def dif (A : List Fm) : Bool := A.tail.any fun a => decide (cmpF a (A.headD default) ≠ 0)
/-- what joined makes of its parts -/
def jnd (op : Int) (ps : List Fm) : Fm := if ps.any (fun p => p.op == op) || dif (spread op ps) then .mk op 0 0 (spread op ps) else (spread op ps).headD default
theorem two_of {l : List Fm} {x y : Fm} (hx : x ∈ l) (hy : y ∈ l) (h : x ≠ y) : 2 ≤ (sr l).length := by
  have h1 := (sr_mem l x).2 hx
  have h2 := (sr_mem l y).2 hy
  generalize sr l = m at h1 h2
  match m, h1, h2 with
  | [], h1, _ => cases h1
  | [z], h1, h2 => simp at h1 h2; exact absurd (h1.trans h2.symm) h
  | _ :: _ :: _, _, _ => simp
theorem of_two {l : List Fm} (h : 2 ≤ (sr l).length) : ∃ x y, x ∈ l ∧ y ∈ l ∧ x ≠ y := by
  have hr := sr_rise l
  have hm := sr_mem l
  generalize sr l = m at h hr hm
  match m, h with
  | x :: y :: m, _ =>
    refine ⟨x, y, (hm x).1 (by simp), (hm y).1 (by simp), fun e => ?_⟩
    have := (List.pairwise_cons.1 hr).1 y (by simp)
    rw [e, cmpF_self] at this
    omega
/-- what came from a part of the same kind is there -/
theorem spread_has (op : Int) : ∀ (ps : List Fm) (a : List Fm), (∀ x ∈ a, x ∈ ps.foldl (sprd op) a) ∧ ∀ p ∈ ps, p.op = op → ∀ x ∈ p.ar, x ∈ ps.foldl (sprd op) a
  | [], a => ⟨fun x h => h, fun p h => by cases h⟩
  | p :: ps, a => by
    obtain ⟨i1, i2⟩ := spread_has op ps (sprd op a p)
    have ha : ∀ x ∈ a, x ∈ sprd op a p := fun x hx => by
      unfold sprd
      split
      · exact List.mem_append_left _ hx
      · split
        · exact List.mem_append_right _ hx
        · exact List.mem_append_left _ hx
    refine ⟨fun x hx => i1 x (ha x hx), fun q hq ho x hx => ?_⟩
    rcases List.mem_cons.1 hq with e | e
    · subst e
      refine i1 x ?_
      unfold sprd
      rw [if_neg (by simp [ho])]
      split
      · exact List.mem_append_left _ hx
      · exact List.mem_append_right _ hx
    · exact i2 q e ho x hx
theorem spread_len (op : Int) : ∀ (ps : List Fm) (a : List Fm), (∀ p ∈ ps, p.op = op → 1 ≤ p.ar.length) → a.length + ps.length ≤ (ps.foldl (sprd op) a).length
  | [], a, _ => by simp
  | p :: ps, a, h => by
    have ih := spread_len op ps (sprd op a p) fun q hq => h q (List.mem_cons_of_mem _ hq)
    have : a.length + 1 ≤ (sprd op a p).length := by
      unfold sprd
      split
      · simp
      · rename_i ho
        have := h p (by simp) (Classical.not_not.1 ho)
        split <;> (rw [List.length_append]; omega)
    rw [List.foldl_cons, List.length_cons]
    omega
/-- what joined answers -/
def JoE (w : World) (op : Int) (l : List Fv) (r : Ending) (w' : World) : Prop :=
  ∃ y : Fv, r = .returned (.agg y.enc.toArray) ∧ Lo w' y ∧ ct y = jnd op (l.map ct) ∧ (∀ b ∈ fp y, b ∈ fps l ∨ w.heap.size ≤ b) ∧ Chs (fps l) w w'
/-- behind spread -/
structure Spd (w : World) (op : Int) (l A : List Fv) (g cap k : Nat) (w1 : World) : Prop where
  len : A.length = k
  two : 2 ≤ k
  row : LoR w1 g cap A
  con : A.map ct = spread op (l.map ct)
  inn : ∀ b, b ∈ fps A ∨ b = g → b ∈ fps l ∨ w.heap.size ≤ b
  ch : Chs (fps l) w w1
  low : (∀ y ∈ l, y.op ≠ op) → ∀ x ∈ A, Lo w1 x
theorem Spd.keep {w : World} {op : Int} {l A : List Fv} {g cap k : Nat} {w1 w2 : World} (h : Spd w op l A g cap k w1) (hb : Below w1.heap.size w1 w2) : Spd w op l A g cap k w2 :=
  ⟨h.len, h.two, h.row.below hb, h.con, h.inn, h.ch.trans (Chs.of_below hb), fun hl x hx => (h.low hl x hx).keep (Chs.of_below (L := []) hb) fun _ _ => by simp⟩
theorem Spd.setc {w : World} {op : Int} {l A : List Fv} {g cap k : Nat} {w1 : World} (h : Spd w op l A g cap k w1) {p : Addr} (hp : w.heap.size ≤ p.block) (hn : p.block ∉ fps A ∧ p.block ≠ g) (v : Value) : Spd w op l A g cap k (w1.setCell p v) := by
  have hc : Chs [p.block] w1 (w1.setCell p v) := Chs.setc (Chs.of_below (Below.refl _ _)) (.inr (by simp)) v
  refine ⟨h.len, h.two, h.row.keep hc (fun c => hn.2 (by simp at c; exact c.symm)) (fun b hb c => hn.1 (by simp at c; rw [← c]; exact hb)), h.con, h.inn, h.ch.setc (.inl hp) v, fun hl x hx => (h.low hl x hx).keep hc fun b hb c => hn.1 (by simp at c; rw [← c]; exact (fps_mem A b).2 ⟨x, hx, hb⟩)⟩
theorem SprE.spd {w : World} {op : Int} {l : List Fv} {r : Ending} {w1 : World} (h : SprE w op l r w1) (h2 : 2 ≤ l.length) (hl : ∀ p ∈ l, p.op = op → 1 ≤ p.ar.length) : ∃ A g cap k, r = .returned (.slice (some ⟨g, 0, none⟩) k cap) ∧ Spd w op l A g cap k w1 := by
  obtain ⟨v, A, e, hs⟩ := h
  have hcon := hs.con
  rw [List.take_length] at hcon
  have hlen : 2 ≤ A.length := by
    have q1 := spread_len op (l.map ct) [] (fun p hp ho => by
      obtain ⟨x, hx, rfl⟩ := List.mem_map.1 hp
      have := hl x hx (by rw [← ct_op]; exact ho)
      obtain ⟨xo, xv, xn, xp, xc, xl⟩ := x
      rw [ct_mk]
      simpa [Fm.ar, Fv.ar] using this)
    have q2 : A.length = (spread op (l.map ct)).length := by rw [← hcon, List.length_map]
    unfold spread at q2
    rw [q2]
    simp at q1
    omega
  rcases hs.row with ⟨_, rfl⟩ | ⟨g, cap, rfl, hr⟩
  · simp at hlen
  · refine ⟨A, g, cap, A.length, e, rfl, hlen, ⟨hr, fun x hx => ⟨(hs.els x hx).1, (hs.els x hx).2 g rfl⟩, hs.dps, hs.dj⟩, hcon, fun b hb => ?_, by have := hs.ch; rw [List.take_length] at this; exact this, fun hn => hs.low (by rw [List.take_length]; exact hn)⟩
    have := hs.inn b (by rcases hb with hb | hb; · exact .inl hb
                         · rw [hb]; exact .inr rfl)
    rw [List.take_length] at this
    exact this
/-- the formula of all -/
theorem Spd.all {w : World} {op : Int} {l A : List Fv} {g cap k : Nat} {w1 : World} (h : Spd w op l A g cap k w1) (ho : op = 2 ∨ op = 3) (hl : ∀ x ∈ l, Lo w x) (hd : l.any (fun x => x.op == op) = true ∨ dif (A.map ct) = true) : Lo w1 (.mk op 0 0 (some ⟨g, 0, none⟩) cap A) := by
  refine .inl (.inr ⟨ho, ?_, g, rfl, h.row⟩)
  rcases hd with hd | hd
  · obtain ⟨x, hx, hxo⟩ := List.any_eq_true.1 hd
    have hxo : x.op = op := by simpa using hxo
    obtain ⟨xo, xv, xn, xp, xc, xl⟩ := x
    have hxo' : xo = op := hxo
    rcases hl _ hx with q | ⟨y, g', c', e, _⟩
    · rcases q with ⟨_, _, _, q⟩ | ⟨_, q2, _⟩
      · omega
      · obtain ⟨a, b, ha, hb, hab⟩ := of_two q2
        have hin := (spread_has op (l.map ct) []).2 (ct (.mk xo xv xn xp xc xl)) (List.mem_map.2 ⟨_, hx, rfl⟩) (by rw [ct_mk]; exact hxo')
        rw [ct_mk] at hin
        rw [h.con]
        exact two_of (hin a ha) (hin b hb) hab
    · cases e; omega
  · unfold dif at hd
    obtain ⟨a, ha, hda⟩ := List.any_eq_true.1 hd
    have hda := of_decide_eq_true hda
    generalize A.map ct = m at ha hda
    cases m with
    | nil => cases ha
    | cons x m =>
      refine two_of (x := a) (y := x) (List.mem_cons_of_mem _ ha) (by simp) fun e => hda ?_
      rw [e]
      exact cmpF_self x
end Kl
end Go.Proofs.Ytmpmlccomgepjaa
