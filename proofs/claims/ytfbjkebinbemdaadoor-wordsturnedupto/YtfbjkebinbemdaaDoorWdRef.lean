/-
  WALKS over the document's Runes, text, Length, Stands.
-/
import Derived.Test.YtfbjkebinbemdaaDoorWdFind
import Derived.Test.YtfbjkebinbemdaaDoorRnJoin
import Derived.Laws.AppendOwnNone
import Derived.Deep.QuietTactic
import Derived.BigQuiet
import Derived.WalkSmall
import Derived.Lib.SmallJoins
namespace Go.Proofs.YtfbjkebinbemdaaDoor
open Go.RowKit Go.Lib

def rc (L : List Nat) : List Value := L.map fun (r : Nat) => .int .i32 (r : Int)
theorem rc_length (L : List Nat) : (rc L).length = L.length := by simp [rc]
theorem rc_snoc (L : List Nat) (r : Nat) : rc (L ++ [r]) = rc L ++ [.int .i32 (r : Int)] := by simp [rc]
theorem infoRune : (Tryd.prog.info? 21).map (fun i => (i.zero, i.size, i.bytes)) = some (some (.int .i32 0), 1, 4) := by kernel_rfl
theorem rc_news (W : World) (r : Nat) : ∀ j u, ([.int .i32 (r : Int)] : List Value)[j]? = some u → (W.alloc (.cells #[.int .i32 (r : Int)] 21)).cell? (Addr.add ⟨W.heap.size, 0, none⟩ j) = some u := by
  intro j u hj
  match j, hj with
  | 0, hj => simp at hj; subst hj; simp [Addr.add]
  | (j + 1), hj => simp at hj
theorem rc_one (r : Nat) : ∀ u ∈ ([.int .i32 (r : Int)] : List Value), u.oneCell' = true := by
  intro u hu
  simp at hu
  subst hu
  rfl

/-- a slice of these runes -/
def RS (w : World) (L : List Nat) (v : Value) : Prop := ∃ pa cap, v = .slice pa L.length cap ∧ L.length ≤ cap ∧ cap ≤ maxLen ∧ (L.length = 0 ∨ ∃ g o, pa = some ⟨g, o, none⟩ ∧ Row .i32 w g o L.length (Wd.lg L))
theorem RS.below {w w' : World} {L : List Nat} {v : Value} (h : RS w L v) {B : Nat} (hb : Below B w w') (hB : w.heap.size ≤ B) : RS w' L v := by
  obtain ⟨pa, cap, h1, h2, h3, h4⟩ := h
  refine ⟨pa, cap, h1, h2, h3, ?_⟩
  rcases h4 with h4 | ⟨g, o, h4, h5⟩
  · exact .inl h4
  · exact .inr ⟨g, o, h4, h5.below hb hB⟩
theorem rs_of_owns {w : World} {B : Nat} {v : Value} {L : List Nat} (h : w.ownsRow B 21 1 v L.length (rc L)) : RS w L v := by
  rcases h.2 with ⟨h1, h2⟩ | ⟨g, cap, cur, h1, h2, h3, h4, h5, h6, h7⟩
  · exact ⟨none, 0, by rw [h1, h2], by omega, by unfold maxLen; omega, .inl h2⟩
  · refine ⟨_, cap, h1, h4, h5, .inr ⟨g, 0, rfl, fun j hj => ?_⟩⟩
    rw [Lib.cell_of_heap h3, Nat.zero_add]
    have e : cur.toList[j]? = (rc L)[j]? := by
      rw [← h7, List.getElem?_take]
      rw [if_pos (by omega)]
    rw [← Array.getElem?_toList, e]
    simp [rc, Wd.lg, hj]

set_option maxRecDepth 100000 in
set_option maxHeartbeats 2000000 in
theorem refRunes_own (f : Nat → Nat) (n : Nat) (w : World) (hf : ∀ j, f j < 256) (hn : n ≤ 1099511627776) :
    Calls Tryd.prog 34 #[.string (Rn.arr f n)] w fun e w' => ∃ v, e = .returned v ∧ w'.ownsRow w.heap.size 21 1 v (Wd.R f n 0).length (rc (Wd.R f n 0)) ∧ Below w.heap.size w w' := by
  have hsz := Rn.arr_size f n
  have hl := Wd.R_length f n 0 hf
  obtain ⟨i0, hi, hz0, hz1, hz2⟩ := info3 infoRune
  go_enter Tryd.func34, Tryd.ntmps34
  go_wp2
  go_loopw [3] (fun a wr => ∃ (pos : Nat) (pre : List Nat), wr.heap[w.heap.size]? = some (.stringIter (Rn.arr f n) pos) ∧ wr.ownsRow (w.heap.size + 1) 21 1 a pre.length (rc pre) ∧ Hid (pre ++ Wd.R f n pos = Wd.R f n 0) ∧ pre.length ≤ pos ∧ Below w.heap.size w wr)
    (fun _ wr => n - wr.iterPos w.heap.size)
  case atStart => exact ⟨0, [], World.iter_heap w _ 0, World.ownsRow_nil _ _ _ _, rfl, Nat.le_refl _, (Below.refl _ _).alloc (Nat.le_refl _) _⟩
  case round =>
    obtain ⟨pos, pre, hit, hown, hpre, hpl, hB⟩ := hrel
    by_cases hlt : pos < n
    · have hnx : ∀ ty, (Instr.next (.pointer (some ⟨w.heap.size, 0, none⟩)) true ty).run Tryd.prog wr = _ := fun ty => Lib.run_next_any_at wr w.heap.size (Rn.arr f n) pos ty hit (by rw [hsz]; exact hlt)
      rw [Rn.arr_decode f n pos hf hlt] at hnx
      have hp := hpre.out
      rw [Wd.R_step f n pos hf hlt] at hp
      have HP := hide' hp
      clear hpre hp
      obtain ⟨hd1, hd2, hd3⟩ := Rn.dec_pos (Rn.off f pos) (n - pos) (fun _ => hf _) (by omega)
      have hit2 := Lib.iterAt_heap wr w.heap.size (Rn.arr f n) pos (pos + (Rn.dec (Rn.off f pos) (n - pos)).2) hit
      have hB2 := Lib.below_iterAt hB (Nat.le_refl _) (Rn.arr f n) (pos + (Rn.dec (Rn.off f pos) (n - pos)).2)
      generalize (Rn.dec (Rn.off f pos) (n - pos)).1 = r at *
      generalize (Rn.dec (Rn.off f pos) (n - pos)).2 = d at *
      have hown2 := ownsRow_iterAt hown (Nat.lt_succ_self _) (Rn.arr f n) (pos + d)
      have hlw : w.heap.size < (wr.iterAt w.heap.size (Rn.arr f n) (pos + d)).heap.size := (Array.getElem?_eq_some_iff.1 hit2).1
      generalize wr.iterAt w.heap.size (Rn.arr f n) (pos + d) = W2 at *
      go_wp2_with (at_builtin; refine wpList_append_own _ rfl _ _ 38 rfl (w.heap.size + 1) 21 i0 (.int .i32 0) 1 4 Tryd.underlying38 hi hz0 hz1 hz2 rfl (by decide) _ pre.length (rc pre) rfl (hown2.alloc _) ⟨W2.heap.size, 0, none⟩ 1 1 [.int .i32 (r : Int)] rfl rfl ?c1 ?c2 ?c3 ?c4 ?c5 ?_)
      case c1 => exact rc_news _ r
      case c2 => exact rc_one r
      case c3 => unfold maxLen; omega
      case c4 => omega
      case c5 => simp; omega
      intro v' w3 hown' hgrow _
      have hB3 : Below w.heap.size w w3 := (hB2.alloc (Nat.le_of_lt hlw) _).grown hgrow (by simp; omega) (fun j hj => by have := (hown2.lt j hj).1; omega)
      have hit3 : w3.heap[w.heap.size]? = some (.stringIter (Rn.arr f n) (pos + d)) := by
        rw [hgrow.block _ (by simp; omega) (fun e => by have := (hown2.lt _ e.symm).1; omega), Lib.alloc_old W2 _ _ hlw]
        exact hit2
      have hown3 : w3.ownsRow (w.heap.size + 1) 21 1 v' (pre ++ [r]).length (rc (pre ++ [r])) := by rw [rc_snoc, List.length_append]; exact hown'
      clear hown hown' hgrow hB
      go_wp2_with fail
      go_roundw
      case rel => exact ⟨pos + d, pre ++ [r], hit3, hown3, by rw [List.append_assoc]; exact HP, by simp; omega, hB3⟩
      case measure => simp only [World.iterPos, hit3, hit]; omega
    · have hnx : ∀ ty, (Instr.next (.pointer (some ⟨w.heap.size, 0, none⟩)) true ty).run Tryd.prog wr = _ := fun ty => Lib.run_next_end_at wr w.heap.size (Rn.arr f n) pos ty hit (by rw [hsz]; exact hlt)
      have hp := hpre.out
      rw [Wd.R_end f n pos hlt, List.append_nil] at hp
      have HP := hide' hp
      clear hp hpre
      go_wp2_with fail
      go_ret
      exact ⟨_, rfl, by rw [← HP.out]; exact Joins.ownsRow_le hown (Nat.le_succ _), hB⟩
theorem refRunes_any (f : Nat → Nat) (n : Nat) (w : World) (hf : ∀ j, f j < 256) (hn : n ≤ 1099511627776) :
    Calls Tryd.prog 34 #[.string (Rn.arr f n)] w fun e w' => ∃ v, e = .returned v ∧ RS w' (Wd.R f n 0) v ∧ Below w.heap.size w w' := by
  refine (refRunes_own f n w hf hn).mono ?_
  rintro e w' ⟨v, rfl, ho, hb⟩
  exact ⟨v, rfl, rs_of_owns ho, hb⟩
end Go.Proofs.YtfbjkebinbemdaaDoor
