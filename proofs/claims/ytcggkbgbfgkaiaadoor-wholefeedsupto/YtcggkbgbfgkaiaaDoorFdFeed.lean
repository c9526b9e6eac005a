/-
  WALKS over feed.New, End, Place, take, lineEnd and wrong.
-/
import Derived.Test.YtcggkbgbfgkaiaaDoorFdMath
import Derived.Test.YtcggkbgbfgkaiaaDoorRnRefDec
import Derived.Deep.RegionHeld3
import Derived.Deep.QuietTactic
import Derived.BigQuiet
namespace Go.Proofs.YtcggkbgbfgkaiaaDoor
open Go.RowKit Go.Lib

/-- a Feed's block, and the row of its bytes -/
def FeedAt (w : World) (D B : Nat) (v : Value) (g : Nat → Nat) (n k wh pb pr pl pc : Nat) (bad ended : Bool) : Prop :=
  w.heap[D]? = some (.cells #[v, .int .i64 k, .int .i64 wh, .int .i64 pb, .int .i64 pr, .int .i64 pl, .int .i64 pc, .bool bad, .bool ended] 77 (0, 0)) ∧ w.ownsRow B 5 1 v n (xs g n)
theorem FeedAt.block_ne {w : World} {D B : Nat} {v : Value} {g : Nat → Nat} {n k wh pb pr pl pc : Nat} {bad ended : Bool} (h : FeedAt w D B v g n k wh pb pr pl pc bad ended) : v.ownBlock ≠ some D := by
  intro e
  rcases h.2.2 with ⟨h1, _⟩ | ⟨q, cap, cur, hv, hb, hg, rest⟩
  · rw [h1] at e; cases e
  · rw [hv] at e
    have : q = D := Option.some.inj e
    subst this
    have := h.1
    rw [hg] at this
    simp at this
theorem FeedAt.cell {w : World} {D B : Nat} {v : Value} {g : Nat → Nat} {n k wh pb pr pl pc : Nat} {bad ended : Bool} (h : FeedAt w D B v g n k wh pb pr pl pc bad ended) :
    w.cell? ⟨D, 0, none⟩ = some v ∧ w.cell? ⟨D, 1, none⟩ = some (.int .i64 k) ∧ w.cell? ⟨D, 2, none⟩ = some (.int .i64 wh) ∧ w.cell? ⟨D, 3, none⟩ = some (.int .i64 pb) ∧ w.cell? ⟨D, 4, none⟩ = some (.int .i64 pr) ∧ w.cell? ⟨D, 5, none⟩ = some (.int .i64 pl) ∧ w.cell? ⟨D, 6, none⟩ = some (.int .i64 pc) ∧ w.cell? ⟨D, 7, none⟩ = some (.bool bad) ∧ w.cell? ⟨D, 8, none⟩ = some (.bool ended) := by
  refine ⟨?_, ?_, ?_, ?_, ?_, ?_, ?_, ?_, ?_⟩ <;> (rw [Lib.cell_of_heap h.1]; rfl)
theorem FeedAt.fz {w : World} {D B : Nat} {v : Value} {g : Nat → Nat} {n k wh pb pr pl pc : Nat} {bad ended : Bool} (h : FeedAt w D B v g n k wh pb pr pl pc bad ended) (i : Nat) : w.frozen? ⟨D, i, none⟩ = false := Lib.frozen_of_heap h.1 i
theorem FeedAt.lt {w : World} {D B : Nat} {v : Value} {g : Nat → Nat} {n k wh pb pr pl pc : Nat} {bad ended : Bool} (h : FeedAt w D B v g n k wh pb pr pl pc bad ended) : D < w.heap.size := block_lt_of_cell h.cell.1
theorem FeedAt.below {w w' : World} {D B : Nat} {v : Value} {g : Nat → Nat} {n k wh pb pr pl pc : Nat} {bad ended : Bool} (h : FeedAt w D B v g n k wh pb pr pl pc bad ended) (hb : Below w.heap.size w w') : FeedAt w' D B v g n k wh pb pr pl pc bad ended :=
  ⟨(hb.block D h.lt).trans h.1, h.2.kept_below hb⟩

set_option maxHeartbeats 400000 in
theorem feedNew_any (w : World) (g : Nat → Nat) (B : Nat) :
    Calls Tryd.prog 23 #[] w fun e w' => e = .returned (.pointer (some ⟨w.heap.size, 0, none⟩)) ∧ FeedAt w' w.heap.size B (.slice none 0 0) g 0 0 0 0 0 1 1 false false ∧ Below w.heap.size w w' ∧ w.heap.size < w'.heap.size := by
  go_enter Tryd.func23, Tryd.ntmps23
  go_wp2
  go_ret
  refine ⟨rfl, ⟨?_, World.ownsRow_nil _ _ _ _⟩, (Below.refl _ _).alloc (Nat.le_refl _) _, by simp⟩
  show (w.heap.push _)[w.heap.size]? = _
  simp

section
variable {D B : Nat} {v : Value} {g : Nat → Nat} {n k wh pb pr pl pc : Nat} {bad ended : Bool} {w : World}

set_option maxHeartbeats 400000 in
theorem feedPlace_any (h : FeedAt w D B v g n k wh pb pr pl pc bad ended) :
    Calls Tryd.prog 27 #[.pointer (some ⟨D, 0, none⟩)] w fun e w' => e = .returned (.agg #[.int .i64 pb, .int .i64 pr, .int .i64 pl, .int .i64 pc]) ∧ Below w.heap.size w w' := by
  obtain ⟨_, _, _, c3, c4, c5, c6, _, _⟩ := h.cell
  have hlt := h.lt
  clear h
  go_enter Tryd.func27, Tryd.ntmps27
  go_wp2
  exact bodyPost_ret (v := .agg #[.int .i64 pb, .int .i64 pr, .int .i64 pl, .int .i64 pc]) (by simp [results, Tryd.results27, go_sem]) rfl ⟨rfl, (Below.refl _ _).alloc (Nat.le_refl _) _⟩

set_option maxHeartbeats 400000 in
theorem feedEnd_any (h : FeedAt w D B v g n k wh pb pr pl pc bad false) :
    Calls Tryd.prog 25 #[.pointer (some ⟨D, 0, none⟩)] w fun e w' => e = .returned (.int .i64 0) ∧ FeedAt w' D B v g n k wh pb pr pl pc bad true ∧ But D w w' := by
  obtain ⟨_, _, _, _, _, _, _, _, c8⟩ := h.cell
  have H := hide' h
  have f8 := h.fz 8
  clear h
  go_enter Tryd.func25, Tryd.ntmps25
  go_wp2
  go_ret
  exact ⟨rfl, ⟨Go.Joins.block_setCell (i := 8) H.out.1 _, H.out.2.setOther H.out.block_ne _⟩, (But.of_below (Below.refl _ _)).setCell (p := ⟨D, 8, none⟩) rfl _⟩
set_option maxHeartbeats 400000 in
theorem feedEnd_ended (h : FeedAt w D B v g n k wh pb pr pl pc bad true) :
    Calls Tryd.prog 25 #[.pointer (some ⟨D, 0, none⟩)] w fun e w' => e = .returned (.int .i64 5) ∧ w' = w := by
  obtain ⟨_, _, _, _, _, _, _, _, c8⟩ := h.cell
  clear h
  go_enter Tryd.func25, Tryd.ntmps25
  go_wp2
  go_ret
  exact ⟨rfl, rfl⟩

set_option maxHeartbeats 1000000 in
theorem feedWrong_any (h : FeedAt w D B v g n k wh pb pr pl pc bad ended) (m : Nat) (h1 : pb + m < 9223372036854775808) (h2 : pr + m < 9223372036854775808) (h3 : pc + m < 9223372036854775808) :
    Calls Tryd.prog 37 #[.pointer (some ⟨D, 0, none⟩), .int .i64 m] w fun e w' => e = .returned (.tuple #[.agg #[.int .i32 0, .int .i64 (pb + m : Nat), .int .i64 (pr + m : Nat), .int .i64 pl, .int .i64 (pc + m : Nat), .int .i64 0], .int .i64 2]) ∧ Below w.heap.size w w' := by
  obtain ⟨_, _, _, c3, c4, c5, c6, _, _⟩ := h.cell
  have hlt := h.lt
  clear h
  go_enter Tryd.func37, Tryd.ntmps37
  go_wp2
  exact bodyPost_ret (v := .tuple #[.agg #[.int .i32 0, .int .i64 (pb + m : Nat), .int .i64 (pr + m : Nat), .int .i64 pl, .int .i64 (pc + m : Nat), .int .i64 0], .int .i64 2]) (by simp [results, Tryd.results37, go_sem]) rfl ⟨rfl, ((Below.refl _ _).alloc (Nat.le_refl _) _).alloc (by simp) _⟩

set_option maxHeartbeats 2000000 in
/-- take of a line end -/
theorem feedTake_nl (h : FeedAt w D B v g n k wh pb pr pl pc bad ended) (z qb qr ql qc : Nat) (h0 : k + z < 9223372036854775808) (h1 : pb + z < 9223372036854775808) (h2 : pr + z < 9223372036854775808) (h3 : pl + 1 < 9223372036854775808) :
    Calls Tryd.prog 34 #[.pointer (some ⟨D, 0, none⟩), .agg #[.int .i32 10, .int .i64 qb, .int .i64 qr, .int .i64 ql, .int .i64 qc, .int .i64 z]] w fun e w' => e = .returned (.tuple #[]) ∧ FeedAt w' D B v g n (k + z) wh (pb + z) (pr + z) (pl + 1) 1 bad ended ∧ But D w w' := by
  obtain ⟨c0, c1, c2, c3, c4, c5, c6, c7, c8⟩ := h.cell
  have f1 := h.fz 1
  have f3 := h.fz 3
  have f4 := h.fz 4
  have f5 := h.fz 5
  have f6 := h.fz 6
  have hlt := h.lt
  have hne : w.heap.size ≠ D := by omega
  have H := hide' h
  clear h
  go_enter Tryd.func34, Tryd.ntmps34
  go_wp2
  go_region
  go_wp2
  go_region
  go_wp2
  go_region
  go_wp2
  first | go_end0 | (simp only [Exit.inBlock, Exit.then]; refine bodyPost_ret (results_none rfl _ _ _) rfl ?_) | refine bodyPost_ret (results_none rfl _ _ _) rfl ?_
  have hn := H.out.block_ne
  refine ⟨rfl, FeedAt.below ⟨Go.Joins.block_setCell (i := 6) (Go.Joins.block_setCell (i := 5) (Go.Joins.block_setCell (i := 4) (Go.Joins.block_setCell (i := 3) (Go.Joins.block_setCell (i := 1) H.out.1 _) _) _) _) _,
    ((((H.out.2.setOther hn _).setOther hn _).setOther hn _).setOther hn _).setOther hn _⟩ (((((Below.refl _ _).alloc (Nat.le_refl _) _).drew).drew).drew), ?_⟩
  exact (((((((But.of_below (Below.refl _ _)).setCell (p := ⟨D, 1, none⟩) rfl _).setCell (p := ⟨D, 3, none⟩) rfl _).setCell (p := ⟨D, 4, none⟩) rfl _).setCell (p := ⟨D, 5, none⟩) rfl _).setCell (p := ⟨D, 6, none⟩) rfl _)).trans (But.of_below (((((Below.refl _ _).alloc (Nat.le_refl _) _).drew).drew).drew))

set_option maxHeartbeats 2000000 in
/-- take of another character -/
theorem feedTake_ch (h : FeedAt w D B v g n k wh pb pr pl pc bad ended) (r z qb qr ql qc : Nat) (hr : r ≠ 10) (h0 : k + z < 9223372036854775808) (h1 : pb + z < 9223372036854775808) (h2 : pr + 1 < 9223372036854775808) (h3 : pc + 1 < 9223372036854775808) :
    Calls Tryd.prog 34 #[.pointer (some ⟨D, 0, none⟩), .agg #[.int .i32 r, .int .i64 qb, .int .i64 qr, .int .i64 ql, .int .i64 qc, .int .i64 z]] w fun e w' => e = .returned (.tuple #[]) ∧ FeedAt w' D B v g n (k + z) wh (pb + z) (pr + 1) pl (pc + 1) bad ended ∧ But D w w' := by
  obtain ⟨c0, c1, c2, c3, c4, c5, c6, c7, c8⟩ := h.cell
  have f1 := h.fz 1
  have f3 := h.fz 3
  have f4 := h.fz 4
  have f6 := h.fz 6
  have hlt := h.lt
  have hne : w.heap.size ≠ D := by omega
  have hr' : ((r : Int) == 10) = false := by simp; omega
  have H := hide' h
  clear h hr
  go_enter Tryd.func34, Tryd.ntmps34
  go_wp2
  go_region
  go_wp2
  go_region
  go_wp2
  first | go_end0 | (simp only [Exit.inBlock, Exit.then]; refine bodyPost_ret (results_none rfl _ _ _) rfl ?_) | refine bodyPost_ret (results_none rfl _ _ _) rfl ?_
  have hn := H.out.block_ne
  refine ⟨rfl, FeedAt.below ⟨Go.Joins.block_setCell (i := 6) (Go.Joins.block_setCell (i := 4) (Go.Joins.block_setCell (i := 3) (Go.Joins.block_setCell (i := 1) H.out.1 _) _) _) _,
    (((H.out.2.setOther hn _).setOther hn _).setOther hn _).setOther hn _⟩ ((((Below.refl _ _).alloc (Nat.le_refl _) _).drew).drew), ?_⟩
  exact ((((((But.of_below (Below.refl _ _)).setCell (p := ⟨D, 1, none⟩) rfl _).setCell (p := ⟨D, 3, none⟩) rfl _).setCell (p := ⟨D, 4, none⟩) rfl _).setCell (p := ⟨D, 6, none⟩) rfl _)).trans (But.of_below ((((Below.refl _ _).alloc (Nat.le_refl _) _).drew).drew))

theorem owns_row {w : World} {B n : Nat} {v : Value} {f : Nat → Nat} (h : w.ownsRow B 5 1 v n (xs f n)) :
    (v = .slice none 0 0 ∧ n = 0) ∨ ∃ q cap, v = .slice (some ⟨q, 0, none⟩) n cap ∧ B ≤ q ∧ q < w.heap.size ∧ n ≤ cap ∧ cap ≤ maxLen ∧ Bytes w q 0 n f := by
  rcases h.2 with h1 | ⟨q, cap, cur, hv, hb, hg, h2, h3, h4, h5⟩
  · exact .inl h1
  · right
    subst hv
    exact ⟨q, cap, rfl, hb, (h.lt q rfl).2, h2, h3, bytes_of_owns h⟩

end
end Go.Proofs.YtcggkbgbfgkaiaaDoor
