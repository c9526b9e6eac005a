/-
  THE WALK over feed's lineEnd.
-/
import Derived.Test.YtcggkbgbfgkaiaaDoorFdFeed
namespace Go.Proofs.YtcggkbgbfgkaiaaDoor
open Go.RowKit Go.Lib
section
variable {D B : Nat} {v : Value} {g : Nat → Nat} {n k wh pb pr pl pc : Nat} {bad ended : Bool} {w : World}

set_option maxHeartbeats 2000000 in
/-- the U+000D that lies there -/
theorem feedLineEnd_any (h : FeedAt w D B v g n k wh pb pr pl pc bad ended) (hk : k < n) :
    Calls Tryd.prog 36 #[.pointer (some ⟨D, 0, none⟩)] w fun e w' => Below w.heap.size w w' ∧
      e = .returned (if k + 1 < n then (if g (k + 1) = 10 then .tuple #[.agg #[.int .i32 10, .int .i64 pb, .int .i64 pr, .int .i64 pl, .int .i64 pc, .int .i64 2], .int .i64 0] else .tuple #[.agg #[.int .i32 10, .int .i64 pb, .int .i64 pr, .int .i64 pl, .int .i64 pc, .int .i64 1], .int .i64 0])
        else if ended then .tuple #[.agg #[.int .i32 10, .int .i64 pb, .int .i64 pr, .int .i64 pl, .int .i64 pc, .int .i64 1], .int .i64 0] else .tuple #[.agg #[.int .i32 0, .int .i64 0, .int .i64 0, .int .i64 0, .int .i64 0, .int .i64 0], .int .i64 1]) := by
  rcases owns_row h.2 with ⟨rfl, rfl⟩ | ⟨q, cap, rfl, hq1, hq2, hc, hm, hby⟩
  · omega
  have hm' : cap ≤ 9223372036854775807 := by unfold maxLen at hm; omega
  obtain ⟨c0, c1, c2, c3, c4, c5, c6, c7, c8⟩ := h.cell
  have hlt := h.lt
  have b1 := fun h1 => hby (k + 1) h1
  clear h hby hm
  have i1 : ¬ ((k : Int) + 1 < 0) := by omega
  have i2 : ¬ ((n : Int) < (k : Int) + 1) := by omega
  have i3 : (k : Int) + 1 ≤ n := by omega
  by_cases h1 : k + 1 < n
  · have b := b1 h1
    rw [Nat.zero_add] at b
    have j1 : ((n - (k + 1) : Nat) : Int) ≠ 0 := by omega
    have j2 : 0 < n - (k + 1) := by omega
    clear b1
    rw [if_pos h1]
    by_cases hg : g (k + 1) = 10
    · rw [if_pos hg]
      rw [hg] at b
      go_enter Tryd.func36, Tryd.ntmps36
      go_wp2
      go_quiet (fail)
      go_wp2
      all_goals refine bodyPost_ret (v := .tuple #[.agg #[.int .i32 10, .int .i64 pb, .int .i64 pr, .int .i64 pl, .int .i64 pc, .int .i64 2], .int .i64 0]) (by simp [results, Tryd.results36, go_sem]) rfl ⟨?_, rfl⟩
      all_goals (repeat refine Below.setCell ?_ (by simp) _)
      all_goals exact below_drewN (((Below.refl _ _).alloc (Nat.le_refl _) _).alloc (by simp) _) _
    · rw [if_neg hg]
      have hg' : ((g (k + 1) : Int) == 10) = false := by simp; omega
      generalize g (k + 1) = gg at *
      clear hg
      go_enter Tryd.func36, Tryd.ntmps36
      go_wp2
      go_quiet (fail)
      go_wp2
      all_goals refine bodyPost_ret (v := .tuple #[.agg #[.int .i32 10, .int .i64 pb, .int .i64 pr, .int .i64 pl, .int .i64 pc, .int .i64 1], .int .i64 0]) (by simp [results, Tryd.results36, go_sem]) rfl ⟨?_, rfl⟩
      all_goals (repeat refine Below.setCell ?_ (by simp) _)
      all_goals exact below_drewN (((Below.refl _ _).alloc (Nat.le_refl _) _).alloc (by simp) _) _
  · rw [if_neg h1]
    have e1 : n = k + 1 := by omega
    subst e1
    clear b1 h1
    cases ended
    · rw [if_neg (by simp)]
      go_enter Tryd.func36, Tryd.ntmps36
      go_wp2
      go_quiet (fail)
      go_wp2
      all_goals refine bodyPost_ret (v := .tuple #[.agg #[.int .i32 0, .int .i64 0, .int .i64 0, .int .i64 0, .int .i64 0, .int .i64 0], .int .i64 1]) (by simp [results, Tryd.results36, go_sem]) rfl ⟨?_, rfl⟩
      all_goals (repeat refine Below.setCell ?_ (by simp) _)
      all_goals exact below_drewN (((Below.refl _ _).alloc (Nat.le_refl _) _).alloc (by simp) _) _
    · rw [if_pos rfl]
      go_enter Tryd.func36, Tryd.ntmps36
      go_wp2
      go_quiet (fail)
      go_wp2
      all_goals refine bodyPost_ret (v := .tuple #[.agg #[.int .i32 10, .int .i64 pb, .int .i64 pr, .int .i64 pl, .int .i64 pc, .int .i64 1], .int .i64 0]) (by simp [results, Tryd.results36, go_sem]) rfl ⟨?_, rfl⟩
      all_goals (repeat refine Below.setCell ?_ (by simp) _)
      all_goals exact below_drewN (((Below.refl _ _).alloc (Nat.le_refl _) _).alloc (by simp) _) _
end
end Go.Proofs.YtcggkbgbfgkaiaaDoor
