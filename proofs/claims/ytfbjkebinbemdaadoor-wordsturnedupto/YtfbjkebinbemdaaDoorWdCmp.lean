/-
  WALKS over cmp.Compare, words.units, words.Compare, words.CompareUnits, words.Begins.
-/
import Derived.Test.YtfbjkebinbemdaaDoorWdFu
import Derived.Laws.ShiftsVarLaws
namespace Go.Proofs.YtfbjkebinbemdaaDoor
open Go.RowKit Go.Lib

set_option maxHeartbeats 1000000 in
theorem isNaN32_any (x : Int) (w : World) :
    Calls Tryd.prog 60 #[.int .i32 x] w fun e w' => e = .returned (.bool false) ∧ w' = w := by
  have hx : (x == x) = true := by simp
  go_enter Tryd.func60, Tryd.ntmps60
  go_wp2
  go_ret
  exact ⟨ret_bool (by simp), rfl⟩
set_option maxHeartbeats 1000000 in
theorem isNaN64_any (x : Int) (w : World) :
    Calls Tryd.prog 61 #[.int .i64 x] w fun e w' => e = .returned (.bool false) ∧ w' = w := by
  have hx : (x == x) = true := by simp
  go_enter Tryd.func61, Tryd.ntmps61
  go_wp2
  go_ret
  exact ⟨ret_bool (by simp), rfl⟩

set_option maxHeartbeats 1000000 in
theorem cmp32_any (x y : Int) (w : World) :
    Calls Tryd.prog 46 #[.int .i32 x, .int .i32 y] w fun e w' => e = .returned (.int .i64 (Wd.cm x y)) ∧ w' = w := by
  unfold Wd.cm
  by_cases h1 : x < y
  · rw [if_pos h1]
    go_enter Tryd.func46, Tryd.ntmps46
    go_wp2_with (go_at_call 60; refine (isNaN32_any _ _).mono ?_; rintro e w' ⟨rfl, rfl⟩)
    go_ret
    exact ⟨rfl, rfl⟩
  · rw [if_neg h1]
    by_cases h2 : y < x
    · rw [if_pos h2]
      go_enter Tryd.func46, Tryd.ntmps46
      go_wp2_with (go_at_call 60; refine (isNaN32_any _ _).mono ?_; rintro e w' ⟨rfl, rfl⟩)
      go_ret
      exact ⟨rfl, rfl⟩
    · rw [if_neg h2]
      go_enter Tryd.func46, Tryd.ntmps46
      go_wp2_with (go_at_call 60; refine (isNaN32_any _ _).mono ?_; rintro e w' ⟨rfl, rfl⟩)
      go_ret
      exact ⟨rfl, rfl⟩
set_option maxHeartbeats 1000000 in
theorem cmp64_any (x y : Int) (w : World) :
    Calls Tryd.prog 48 #[.int .i64 x, .int .i64 y] w fun e w' => e = .returned (.int .i64 (Wd.cm x y)) ∧ w' = w := by
  unfold Wd.cm
  by_cases h1 : x < y
  · rw [if_pos h1]
    go_enter Tryd.func48, Tryd.ntmps48
    go_wp2_with (go_at_call 61; refine (isNaN64_any _ _).mono ?_; rintro e w' ⟨rfl, rfl⟩)
    go_ret
    exact ⟨rfl, rfl⟩
  · rw [if_neg h1]
    by_cases h2 : y < x
    · rw [if_pos h2]
      go_enter Tryd.func48, Tryd.ntmps48
      go_wp2_with (go_at_call 61; refine (isNaN64_any _ _).mono ?_; rintro e w' ⟨rfl, rfl⟩)
      go_ret
      exact ⟨rfl, rfl⟩
    · rw [if_neg h2]
      go_enter Tryd.func48, Tryd.ntmps48
      go_wp2_with (go_at_call 61; refine (isNaN64_any _ _).mono ?_; rintro e w' ⟨rfl, rfl⟩)
      go_ret
      exact ⟨rfl, rfl⟩

set_option maxHeartbeats 1000000 in
theorem units_any (r : Int) (w : World) (h0 : -1 ≤ r) (h1 : r < 1114112) :
    Calls Tryd.prog 49 #[.int .i32 r] w fun e w' => e = .returned (.int .i64 (Wd.un r)) ∧ w' = w := by
  unfold Wd.un
  by_cases h : r ≤ 65535
  · rw [if_pos h]
    go_enter Tryd.func49, Tryd.ntmps49
    go_wp2
    go_ret
    exact ⟨ret_int (by omega), rfl⟩
  · rw [if_neg h]
    have h2 : 65536 ≤ r := by omega
    go_enter Tryd.func49, Tryd.ntmps49
    go_wp2
    go_ret
    exact ⟨ret_int (by omega), rfl⟩

theorem fu_lt : ∀ L M : List Nat, (∀ r ∈ L, Rn.scal r) → (∀ r ∈ M, Rn.scal r) → (-1 ≤ (Wd.fu L M).1 ∧ (Wd.fu L M).1 < 1114112) ∧ (-1 ≤ (Wd.fu L M).2 ∧ (Wd.fu L M).2 < 1114112)
  | [], [], _, _ => by simp [Wd.fu]
  | [], b :: _, _, h => by
    have := (h b (by simp)).1
    simp only [Wd.fu]
    omega
  | a :: _, [], h, _ => by
    have := (h a (by simp)).1
    simp only [Wd.fu]
    omega
  | a :: L, b :: M, hL, hM => by
    have h1 := (hL a (by simp)).1
    have h2 := (hM b (by simp)).1
    simp only [Wd.fu]
    split
    · exact fu_lt L M (fun r hr => hL r (by simp [hr])) (fun r hr => hM r (by simp [hr]))
    · simp only []
      omega

set_option maxHeartbeats 1000000 in
theorem compare_any (f : Nat → Nat) (n : Nat) (g : Nat → Nat) (m : Nat) (w : World) (hf : ∀ j, f j < 256) (hg : ∀ j, g j < 256)
    (hT : Lib.Utf8Tabs 0 1 w) :
    Calls Tryd.prog 18 #[.string (Rn.arr f n), .string (Rn.arr g m)] w fun e w' => e = .returned (.int .i64 (Wd.cmp (Wd.R f n 0) (Wd.R g m 0))) ∧ Below w.heap.size w w' := by
  have c := firstUnlike_any f n g m w hf hg hT
  unfold Wd.cmp
  generalize (Wd.fu (Wd.R f n 0) (Wd.R g m 0)).1 = a at *
  generalize (Wd.fu (Wd.R f n 0) (Wd.R g m 0)).2 = b at *
  go_enter Tryd.func18, Tryd.ntmps18
  go_wp2_with fail
  refine c.mono ?_
  rintro e w1 ⟨rfl, hb1⟩
  go_wp2_with (go_at_call 46; refine (cmp32_any _ _ _).mono ?_; rintro e w' ⟨rfl, rfl⟩)
  go_ret
  exact ⟨rfl, hb1⟩
set_option maxHeartbeats 1000000 in
theorem compareUnits_any (f : Nat → Nat) (n : Nat) (g : Nat → Nat) (m : Nat) (w : World) (hf : ∀ j, f j < 256) (hg : ∀ j, g j < 256)
    (hT : Lib.Utf8Tabs 0 1 w) :
    Calls Tryd.prog 20 #[.string (Rn.arr f n), .string (Rn.arr g m)] w fun e w' => e = .returned (.int .i64 (Wd.cmpU (Wd.R f n 0) (Wd.R g m 0))) ∧ Below w.heap.size w w' := by
  have c := firstUnlike_any f n g m w hf hg hT
  obtain ⟨⟨a1, a2⟩, ⟨b1, b2⟩⟩ := fu_lt _ _ (Wd.R_scal f n 0 hf) (Wd.R_scal g m 0 hg)
  unfold Wd.cmpU
  generalize (Wd.fu (Wd.R f n 0) (Wd.R g m 0)).1 = a at *
  generalize (Wd.fu (Wd.R f n 0) (Wd.R g m 0)).2 = b at *
  go_enter Tryd.func20, Tryd.ntmps20
  go_wp2_with fail
  refine c.mono ?_
  rintro e w1 ⟨rfl, hb1⟩
  go_wp2_with fail
  refine (units_any a _ a1 a2).mono ?_
  rintro e w2 ⟨rfl, rfl⟩
  go_wp2_with fail
  refine (units_any b _ b1 b2).mono ?_
  rintro e w3 ⟨rfl, rfl⟩
  go_wp2_with (go_at_call 48; refine (cmp64_any _ _ _).mono ?_; rintro e w' ⟨rfl, rfl⟩)
  go_ret
  exact ⟨rfl, hb1⟩
set_option maxHeartbeats 1000000 in
theorem wBegins_any (f : Nat → Nat) (n : Nat) (g : Nat → Nat) (m : Nat) (w : World) (hf : ∀ j, f j < 256) (hg : ∀ j, g j < 256)
    (hT : Lib.Utf8Tabs 0 1 w) :
    Calls Tryd.prog 24 #[.string (Rn.arr f n), .string (Rn.arr g m)] w fun e w' => e = .returned (.bool (decide ((Wd.fu (Wd.R f n 0) (Wd.R g m 0)).2 = -1))) ∧ Below w.heap.size w w' := by
  have c := firstUnlike_any f n g m w hf hg hT
  generalize (Wd.fu (Wd.R f n 0) (Wd.R g m 0)).1 = a at *
  generalize (Wd.fu (Wd.R f n 0) (Wd.R g m 0)).2 = b at *
  go_enter Tryd.func24, Tryd.ntmps24
  go_wp2_with fail
  refine c.mono ?_
  rintro e w1 ⟨rfl, hb1⟩
  go_wp2
  go_ret
  exact ⟨ret_bool (by rw [Bool.eq_iff_iff]; simp), hb1⟩
end Go.Proofs.YtfbjkebinbemdaaDoor
