import Derived.Test.YtcmjipgigkalcaaDoorWdFind
import Derived.Test.YtcmjipgigkalcaaDoorRnJoin
import Derived.Laws.AppendOwnNone
import Derived.Deep.QuietTactic
import Derived.BigQuiet
import Derived.WalkSmall
import Derived.Lib.SmallJoins
import Derived.Test.YtcmjipgigkalcaaDoorRnCat
import Derived.Test.YtcmjipgigkalcaaDoorWdFu
import Derived.Test.YtcmjipgigkalcaaDoorWdExt
import Derived.Shelf.RegionOpen
/-
  WALKS over the document's Runes, text, Length, Stands.
-/
namespace Go.Proofs.YtcmjipgigkalcaaDoor
open Go.RowKit Go.Lib

def rc (L : List Nat) : List Value := L.map fun (r : Nat) => .int .i32 (r : Int)
theorem rc_length (L : List Nat) : (rc L).length = L.length := by simp [rc]
theorem rc_snoc (L : List Nat) (r : Nat) : rc (L ++ [r]) = rc L ++ [.int .i32 (r : Int)] := by simp [rc]
theorem infoRune : (Tryd.prog.info? 21).map (fun i => (i.zero, i.size, i.bytes)) = some (some (.int .i32 0), 1, 4) := by kernel_rfl
theorem rc_news (W : World) (r : Nat) : ∀ j u, ([.int .i32 (r : Int)] : List Value)[j]? = some u → (W.alloc (.cells #[.int .i32 (r : Int)] 21)).cell? (Addr.add ⟨W.heap.size, 0, none⟩ j) = some u := by
  intro j u hj
  match j, hj with
  | 0, hj => simp at hj; subst hj; simp [Addr.add]
  | (j + 1), hj => simp at hj
theorem rc_one (r : Nat) : ∀ u ∈ ([.int .i32 (r : Int)] : List Value), u.oneCell' = true := by
  intro u hu
  simp at hu
  subst hu
  rfl

/-- a slice of these runes -/
def RS (w : World) (L : List Nat) (v : Value) : Prop := ∃ pa cap, v = .slice pa L.length cap ∧ L.length ≤ cap ∧ cap ≤ maxLen ∧ (L.length = 0 ∨ ∃ g o, pa = some ⟨g, o, none⟩ ∧ Row .i32 w g o L.length (Wd.lg L))
theorem RS.below {w w' : World} {L : List Nat} {v : Value} (h : RS w L v) {B : Nat} (hb : Below B w w') (hB : w.heap.size ≤ B) : RS w' L v := by
  obtain ⟨pa, cap, h1, h2, h3, h4⟩ := h
  refine ⟨pa, cap, h1, h2, h3, ?_⟩
  rcases h4 with h4 | ⟨g, o, h4, h5⟩
  · exact .inl h4
  · exact .inr ⟨g, o, h4, h5.below hb hB⟩
theorem rs_of_owns {w : World} {B : Nat} {v : Value} {L : List Nat} (h : w.ownsRow B 21 1 v L.length (rc L)) : RS w L v := by
  rcases h.2 with ⟨h1, h2⟩ | ⟨g, cap, cur, h1, h2, h3, h4, h5, h6, h7⟩
  · exact ⟨none, 0, by rw [h1, h2], by omega, by unfold maxLen; omega, .inl h2⟩
  · refine ⟨_, cap, h1, h4, h5, .inr ⟨g, 0, rfl, fun j hj => ?_⟩⟩
    rw [Lib.cell_of_heap h3, Nat.zero_add]
    have e : cur.toList[j]? = (rc L)[j]? := by
      rw [← h7, List.getElem?_take]
      rw [if_pos (by omega)]
    rw [← Array.getElem?_toList, e]
    simp [rc, Wd.lg, hj]

set_option maxRecDepth 100000 in
set_option maxHeartbeats 2000000 in
theorem refRunes_own (f : Nat → Nat) (n : Nat) (w : World) (hf : ∀ j, f j < 256) (hn : n ≤ 1099511627776) :
    Calls Tryd.prog 53 #[.string (Rn.arr f n)] w fun e w' => ∃ v, e = .returned v ∧ w'.ownsRow w.heap.size 21 1 v (Wd.R f n 0).length (rc (Wd.R f n 0)) ∧ Below w.heap.size w w' := by
  have hsz := Rn.arr_size f n
  have hl := Wd.R_length f n 0 hf
  obtain ⟨i0, hi, hz0, hz1, hz2⟩ := info3 infoRune
  go_enter Tryd.func53, Tryd.ntmps53
  go_wp2
  go_loopw [3] (fun a wr => ∃ (pos : Nat) (pre : List Nat), wr.heap[w.heap.size]? = some (.stringIter (Rn.arr f n) pos) ∧ wr.ownsRow (w.heap.size + 1) 21 1 a pre.length (rc pre) ∧ Hid (pre ++ Wd.R f n pos = Wd.R f n 0) ∧ pre.length ≤ pos ∧ Below w.heap.size w wr)
    (fun _ wr => n - wr.iterPos w.heap.size)
  case atStart => exact ⟨0, [], World.iter_heap w _ 0, World.ownsRow_nil _ _ _ _, rfl, Nat.le_refl _, (Below.refl _ _).alloc (Nat.le_refl _) _⟩
  case round =>
    obtain ⟨pos, pre, hit, hown, hpre, hpl, hB⟩ := hrel
    by_cases hlt : pos < n
    · have hnx : ∀ ty, (Instr.next (.pointer (some ⟨w.heap.size, 0, none⟩)) true ty).run Tryd.prog wr = _ := fun ty => Lib.run_next_any_at wr w.heap.size (Rn.arr f n) pos ty hit (by rw [hsz]; exact hlt)
      rw [Rn.arr_decode f n pos hf hlt] at hnx
      have hp := hpre.out
      rw [Wd.R_step f n pos hf hlt] at hp
      have HP := hide' hp
      clear hpre hp
      obtain ⟨hd1, hd2, hd3⟩ := Rn.dec_pos (Rn.off f pos) (n - pos) (fun _ => hf _) (by omega)
      have hit2 := Lib.iterAt_heap wr w.heap.size (Rn.arr f n) pos (pos + (Rn.dec (Rn.off f pos) (n - pos)).2) hit
      have hB2 := Lib.below_iterAt hB (Nat.le_refl _) (Rn.arr f n) (pos + (Rn.dec (Rn.off f pos) (n - pos)).2)
      generalize (Rn.dec (Rn.off f pos) (n - pos)).1 = r at *
      generalize (Rn.dec (Rn.off f pos) (n - pos)).2 = d at *
      have hown2 := ownsRow_iterAt hown (Nat.lt_succ_self _) (Rn.arr f n) (pos + d)
      have hlw : w.heap.size < (wr.iterAt w.heap.size (Rn.arr f n) (pos + d)).heap.size := (Array.getElem?_eq_some_iff.1 hit2).1
      generalize wr.iterAt w.heap.size (Rn.arr f n) (pos + d) = W2 at *
      go_wp2_with (at_builtin; refine wpList_append_own _ rfl _ _ 96 rfl (w.heap.size + 1) 21 i0 (.int .i32 0) 1 4 Tryd.underlying96 hi hz0 hz1 hz2 rfl (by decide) _ pre.length (rc pre) rfl (hown2.alloc _) ⟨W2.heap.size, 0, none⟩ 1 1 [.int .i32 (r : Int)] rfl rfl ?c1 ?c2 ?c3 ?c4 ?c5 ?_)
      case c1 => exact rc_news _ r
      case c2 => exact rc_one r
      case c3 => unfold maxLen; omega
      case c4 => omega
      case c5 => simp; omega
      intro v' w3 hown' hgrow _
      have hB3 : Below w.heap.size w w3 := (hB2.alloc (Nat.le_of_lt hlw) _).grown hgrow (by simp; omega) (fun j hj => by have := (hown2.lt j hj).1; omega)
      have hit3 : w3.heap[w.heap.size]? = some (.stringIter (Rn.arr f n) (pos + d)) := by
        rw [hgrow.block _ (by simp; omega) (fun e => by have := (hown2.lt _ e.symm).1; omega), Lib.alloc_old W2 _ _ hlw]
        exact hit2
      have hown3 : w3.ownsRow (w.heap.size + 1) 21 1 v' (pre ++ [r]).length (rc (pre ++ [r])) := by rw [rc_snoc, List.length_append]; exact hown'
      clear hown hown' hgrow hB
      go_wp2_with fail
      go_roundw
      case rel => exact ⟨pos + d, pre ++ [r], hit3, hown3, by rw [List.append_assoc]; exact HP, by simp; omega, hB3⟩
      case measure => simp only [World.iterPos, hit3, hit]; omega
    · have hnx : ∀ ty, (Instr.next (.pointer (some ⟨w.heap.size, 0, none⟩)) true ty).run Tryd.prog wr = _ := fun ty => Lib.run_next_end_at wr w.heap.size (Rn.arr f n) pos ty hit (by rw [hsz]; exact hlt)
      have hp := hpre.out
      rw [Wd.R_end f n pos hlt, List.append_nil] at hp
      have HP := hide' hp
      clear hp hpre
      go_wp2_with fail
      go_ret
      exact ⟨_, rfl, by rw [← HP.out]; exact Joins.ownsRow_le hown (Nat.le_succ _), hB⟩
theorem refRunes_any (f : Nat → Nat) (n : Nat) (w : World) (hf : ∀ j, f j < 256) (hn : n ≤ 1099511627776) :
    Calls Tryd.prog 53 #[.string (Rn.arr f n)] w fun e w' => ∃ v, e = .returned v ∧ RS w' (Wd.R f n 0) v ∧ Below w.heap.size w w' := by
  refine (refRunes_own f n w hf hn).mono ?_
  rintro e w' ⟨v, rfl, ho, hb⟩
  exact ⟨v, rfl, rs_of_owns ho, hb⟩
end Go.Proofs.YtcmjipgigkalcaaDoor
/-
  THE WALK over words.Sub.
-/
namespace Go.Proofs.YtcmjipgigkalcaaDoor
open Go.RowKit Go.Shelf

namespace Wd
/-- what has been written when k characters have been gone through -/
def sb (L : List Nat) (a X k : Nat) : List Nat := (L.take (min k X)).drop a
theorem sb_skip (L : List Nat) (a X k : Nat) (h : k < a) : sb L a X (k + 1) = sb L a X k := by
  unfold sb
  rw [List.drop_eq_nil_of_le (by simp; omega), List.drop_eq_nil_of_le (by simp; omega)]
theorem sb_put {L M : List Nat} {a X k r : Nat} (h1 : a ≤ k) (h2 : k < X) (h : L.drop k = r :: M) : sb L a X (k + 1) = sb L a X k ++ [r] := by
  obtain ⟨hk, hr, _⟩ := drop_cons h
  unfold sb
  rw [show min (k + 1) X = k + 1 by omega, show min k X = k by omega, List.take_succ_eq_append_getElem hk, List.drop_append_of_le_length (by simp; omega)]
  congr 2
  simp [lg, hk] at hr
  exact hr
theorem sb_past (L : List Nat) (a X k : Nat) (h : X ≤ k) : sb L a X k = (L.take X).drop a := by
  unfold sb
  rw [show min k X = X by omega]
theorem sb_end (L : List Nat) (a X k : Nat) (h : L.length ≤ k) : sb L a X k = (L.take X).drop a := by
  unfold sb
  by_cases e : X ≤ k
  · rw [show min k X = X by omega]
  · rw [show min k X = k by omega, List.take_of_length_le h, List.take_of_length_le (by omega)]
theorem sb_zero (L : List Nat) (a X : Nat) : sb L a X 0 = [] := by simp [sb]
theorem sb_length (L : List Nat) (a X k : Nat) : (sb L a X k).length ≤ k := by simp [sb]; omega
theorem cat_length (L : List Nat) : (Rn.cat L).length ≤ 4 * L.length := by
  induction L with
  | nil => simp [Rn.cat]
  | cons r L ih =>
    rw [Rn.cat_cons, List.length_append, Rn.enc_length]
    have h := Lib.runeCells_le (r : Int)
    rw [Lib.runeCells_length] at h
    rw [Rn.enc_length] at h
    simp
    omega
theorem sub_neg (L : List Nat) (from' count : Int) (h : count ≤ 0) : sub L from' count = [] := by
  unfold sub
  rw [List.drop_eq_nil_of_le (by simp; omega)]
end Wd

theorem tx_eq (L : List Nat) : Rn.tx L = ⟨(Rn.cat L).toArray⟩ := by rw [Rn.tx, Rn.arr_lf]

theorem builder_iterAt {N b K p : Nat} {bs : List Value} {W : World} {s s' : ByteArray} {q : Nat} (h : Lib.IsBuilderF 71 5 N b bs W) (hit : W.heap[K]? = some (.stringIter s' q)) : Lib.IsBuilderF 71 5 N b bs (W.iterAt K s p) :=
  builder_kept h (fun k o h1 h2 => by
    rw [Lib.iterAt_other W K k s p (fun e => by subst e; rw [hit] at h1; cases h1; cases h2)]
    exact h1)

end Go.Proofs.YtcmjipgigkalcaaDoor
/-
  WALKS over slices.Reverse at runes, and words.Reverse.
-/
namespace Go.Proofs.YtcmjipgigkalcaaDoor
open Go.RowKit Go.Shelf

/-- runes in a block of their own -/
structure InBlock (w : World) (g cap m : Nat) (v : Nat → Nat) (cs : Array Value) : Prop where
  blk : w.heap[g]? = some (.cells cs 21 (0, 0))
  size : cs.size = cap
  get : ∀ j, j < m → cs[j]? = some (.int .i32 (v j))
theorem InBlock.cell {w : World} {g cap m : Nat} {v : Nat → Nat} {cs : Array Value} (h : InBlock w g cap m v cs) {j : Nat} (hj : j < m) : w.cell? ⟨g, j, none⟩ = some (.int .i32 (v j)) := by
  rw [Lib.cell_of_heap h.blk]
  exact h.get j hj
theorem InBlock.frozen {w : World} {g cap m : Nat} {v : Nat → Nat} {cs : Array Value} (h : InBlock w g cap m v cs) (j : Nat) : w.frozen? ⟨g, j, none⟩ = false := Lib.frozen_of_heap h.blk j

theorem lg_reverse (L : List Nat) (j : Nat) (hj : j < L.length) : Wd.lg L (L.length - 1 - j) = L.reverse[j]'(by simpa using hj) := by
  unfold Wd.lg
  rw [List.getElem_reverse, List.getElem?_eq_getElem (by omega)]
  rfl
end Go.Proofs.YtcmjipgigkalcaaDoor
/-
  WALKS over the document's Stands, Find, Begins, Ends, Length.
-/
namespace Go.Proofs.YtcmjipgigkalcaaDoor
open Go.RowKit

/-- numbers that lie one behind the other, or none -/
def RowO (w : World) (pa : Option Addr) (n : Nat) (p : Nat → Nat) : Prop := n = 0 ∨ ∃ g o, pa = some ⟨g, o, none⟩ ∧ Row .i32 w g o n p
theorem RowO.below {w w' : World} {pa : Option Addr} {n : Nat} {p : Nat → Nat} (h : RowO w pa n p) {B : Nat} (hb : Below B w w') (hB : w.heap.size ≤ B) : RowO w' pa n p := by
  rcases h with h | ⟨g, o, h1, h2⟩
  · exact .inl h
  · exact .inr ⟨g, o, h1, h2.below hb hB⟩

/-- the answer says whether it is so -/
def SaysB (e : Ending) (P : Prop) : Prop := ∃ b : Bool, e = .returned (.bool b) ∧ (b = true ↔ P)

end Go.Proofs.YtcmjipgigkalcaaDoor
