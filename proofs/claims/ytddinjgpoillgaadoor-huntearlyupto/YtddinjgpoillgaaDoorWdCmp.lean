/-
  WALKS over cmp.Compare, words.units, words.Compare, words.CompareUnits, words.Begins.
-/
import Derived.Test.YtddinjgpoillgaaDoorWdFu
import Derived.Laws.ShiftsVarLaws
namespace Go.Proofs.YtddinjgpoillgaaDoor
open Go.RowKit Go.Lib

set_option maxHeartbeats 1000000 in
theorem isNaN32_any (x : Int) (w : World) :
    Calls Tryd.prog 33 #[.int .i32 x] w fun e w' => e = .returned (.bool false) ∧ w' = w := by
  have hx : (x == x) = true := by simp
  go_enter Tryd.func33, Tryd.ntmps33
  go_wp2
  go_ret
  exact ⟨ret_bool (by simp), rfl⟩
set_option maxHeartbeats 1000000 in
theorem cmp32_any (x y : Int) (w : World) :
    Calls Tryd.prog 21 #[.int .i32 x, .int .i32 y] w fun e w' => e = .returned (.int .i64 (Wd.cm x y)) ∧ w' = w := by
  unfold Wd.cm
  by_cases h1 : x < y
  · rw [if_pos h1]
    go_enter Tryd.func21, Tryd.ntmps21
    go_wp2_with (go_at_call 33; refine (isNaN32_any _ _).mono ?_; rintro e w' ⟨rfl, rfl⟩)
    go_ret
    exact ⟨rfl, rfl⟩
  · rw [if_neg h1]
    by_cases h2 : y < x
    · rw [if_pos h2]
      go_enter Tryd.func21, Tryd.ntmps21
      go_wp2_with (go_at_call 33; refine (isNaN32_any _ _).mono ?_; rintro e w' ⟨rfl, rfl⟩)
      go_ret
      exact ⟨rfl, rfl⟩
    · rw [if_neg h2]
      go_enter Tryd.func21, Tryd.ntmps21
      go_wp2_with (go_at_call 33; refine (isNaN32_any _ _).mono ?_; rintro e w' ⟨rfl, rfl⟩)
      go_ret
      exact ⟨rfl, rfl⟩
theorem fu_lt : ∀ L M : List Nat, (∀ r ∈ L, Rn.scal r) → (∀ r ∈ M, Rn.scal r) → (-1 ≤ (Wd.fu L M).1 ∧ (Wd.fu L M).1 < 1114112) ∧ (-1 ≤ (Wd.fu L M).2 ∧ (Wd.fu L M).2 < 1114112)
  | [], [], _, _ => by simp [Wd.fu]
  | [], b :: _, _, h => by
    have := (h b (by simp)).1
    simp only [Wd.fu]
    omega
  | a :: _, [], h, _ => by
    have := (h a (by simp)).1
    simp only [Wd.fu]
    omega
  | a :: L, b :: M, hL, hM => by
    have h1 := (hL a (by simp)).1
    have h2 := (hM b (by simp)).1
    simp only [Wd.fu]
    split
    · exact fu_lt L M (fun r hr => hL r (by simp [hr])) (fun r hr => hM r (by simp [hr]))
    · simp only []
      omega

set_option maxHeartbeats 1000000 in
theorem compare_any (f : Nat → Nat) (n : Nat) (g : Nat → Nat) (m : Nat) (w : World) (hf : ∀ j, f j < 256) (hg : ∀ j, g j < 256)
    (hT : Lib.Utf8Tabs 0 1 w) :
    Calls Tryd.prog 11 #[.string (Rn.arr f n), .string (Rn.arr g m)] w fun e w' => e = .returned (.int .i64 (Wd.cmp (Wd.R f n 0) (Wd.R g m 0))) ∧ Below w.heap.size w w' := by
  have c := firstUnlike_any f n g m w hf hg hT
  unfold Wd.cmp
  generalize (Wd.fu (Wd.R f n 0) (Wd.R g m 0)).1 = a at *
  generalize (Wd.fu (Wd.R f n 0) (Wd.R g m 0)).2 = b at *
  go_enter Tryd.func11, Tryd.ntmps11
  go_wp2_with fail
  refine c.mono ?_
  rintro e w1 ⟨rfl, hb1⟩
  go_wp2_with (go_at_call 21; refine (cmp32_any _ _ _).mono ?_; rintro e w' ⟨rfl, rfl⟩)
  go_ret
  exact ⟨rfl, hb1⟩
set_option maxHeartbeats 1000000 in
theorem wBegins_any (f : Nat → Nat) (n : Nat) (g : Nat → Nat) (m : Nat) (w : World) (hf : ∀ j, f j < 256) (hg : ∀ j, g j < 256)
    (hT : Lib.Utf8Tabs 0 1 w) :
    Calls Tryd.prog 12 #[.string (Rn.arr f n), .string (Rn.arr g m)] w fun e w' => e = .returned (.bool (decide ((Wd.fu (Wd.R f n 0) (Wd.R g m 0)).2 = -1))) ∧ Below w.heap.size w w' := by
  have c := firstUnlike_any f n g m w hf hg hT
  generalize (Wd.fu (Wd.R f n 0) (Wd.R g m 0)).1 = a at *
  generalize (Wd.fu (Wd.R f n 0) (Wd.R g m 0)).2 = b at *
  go_enter Tryd.func12, Tryd.ntmps12
  go_wp2_with fail
  refine c.mono ?_
  rintro e w1 ⟨rfl, hb1⟩
  go_wp2
  go_ret
  exact ⟨ret_bool (by rw [Bool.eq_iff_iff]; simp), hb1⟩
end Go.Proofs.YtddinjgpoillgaaDoor
