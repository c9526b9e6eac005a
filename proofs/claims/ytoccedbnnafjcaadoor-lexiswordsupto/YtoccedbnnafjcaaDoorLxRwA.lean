/-
  WALKS over gimletref07.Start and Rest, gimletref10.name (made by gen_rw.py).
-/
import Derived.Test.YtoccedbnnafjcaaDoorLxRwI1
import Derived.Test.YtoccedbnnafjcaaDoorLxRwI2
import Derived.Test.YtoccedbnnafjcaaDoorLxRwI3
import Derived.Test.YtoccedbnnafjcaaDoorLxRwI4
import Derived.Test.YtoccedbnnafjcaaDoorLxRwI5
namespace Go.Proofs.YtoccedbnnafjcaaDoor
open Go.RowKit Go.Lib
theorem refStart_any (r : Nat) (w : World) : Calls Tryd.prog 67 #[.int .i64 r] w fun e w' => e = .returned (.bool (Ch.isT Ch.tab 2 r)) ∧ w' = w := by
  have h := Lx.c2_is r
  by_cases g0 : r ≤ 64
  · rw [show Ch.isT Ch.tab 2 r = false from Bool.eq_false_iff.2 (fun g => by have := h.1 g; omega)]
    exact refStart_0 r w (by omega) g0
  by_cases g1 : r ≤ 90
  · rw [show Ch.isT Ch.tab 2 r = true from h.2 (by omega)]
    exact refStart_1 r w (by omega) g1
  by_cases g2 : r ≤ 94
  · rw [show Ch.isT Ch.tab 2 r = false from Bool.eq_false_iff.2 (fun g => by have := h.1 g; omega)]
    exact refStart_2 r w (by omega) g2
  by_cases g3 : r ≤ 95
  · rw [show Ch.isT Ch.tab 2 r = true from h.2 (by omega)]
    exact refStart_3 r w (by omega) g3
  by_cases g4 : r ≤ 96
  · rw [show Ch.isT Ch.tab 2 r = false from Bool.eq_false_iff.2 (fun g => by have := h.1 g; omega)]
    exact refStart_4 r w (by omega) g4
  by_cases g5 : r ≤ 122
  · rw [show Ch.isT Ch.tab 2 r = true from h.2 (by omega)]
    exact refStart_5 r w (by omega) g5
  by_cases g6 : r ≤ 127
  · rw [show Ch.isT Ch.tab 2 r = false from Bool.eq_false_iff.2 (fun g => by have := h.1 g; omega)]
    exact refStart_6 r w (by omega) g6
  by_cases g7 : r ≤ 191
  · rw [show Ch.isT Ch.tab 2 r = false from Bool.eq_false_iff.2 (fun g => by have := h.1 g; omega)]
    exact refStart_7 r w (by omega) g7
  by_cases g8 : r ≤ 214
  · rw [show Ch.isT Ch.tab 2 r = true from h.2 (by omega)]
    exact refStart_8 r w (by omega) g8
  by_cases g9 : r ≤ 215
  · rw [show Ch.isT Ch.tab 2 r = false from Bool.eq_false_iff.2 (fun g => by have := h.1 g; omega)]
    exact refStart_9 r w (by omega) g9
  by_cases g10 : r ≤ 246
  · rw [show Ch.isT Ch.tab 2 r = true from h.2 (by omega)]
    exact refStart_10 r w (by omega) g10
  by_cases g11 : r ≤ 247
  · rw [show Ch.isT Ch.tab 2 r = false from Bool.eq_false_iff.2 (fun g => by have := h.1 g; omega)]
    exact refStart_11 r w (by omega) g11
  by_cases g12 : r ≤ 767
  · rw [show Ch.isT Ch.tab 2 r = true from h.2 (by omega)]
    exact refStart_12 r w (by omega) g12
  by_cases g13 : r ≤ 879
  · rw [show Ch.isT Ch.tab 2 r = false from Bool.eq_false_iff.2 (fun g => by have := h.1 g; omega)]
    exact refStart_13 r w (by omega) g13
  by_cases g14 : r ≤ 893
  · rw [show Ch.isT Ch.tab 2 r = true from h.2 (by omega)]
    exact refStart_14 r w (by omega) g14
  by_cases g15 : r ≤ 894
  · rw [show Ch.isT Ch.tab 2 r = false from Bool.eq_false_iff.2 (fun g => by have := h.1 g; omega)]
    exact refStart_15 r w (by omega) g15
  by_cases g16 : r ≤ 8191
  · rw [show Ch.isT Ch.tab 2 r = true from h.2 (by omega)]
    exact refStart_16 r w (by omega) g16
  by_cases g17 : r ≤ 8203
  · rw [show Ch.isT Ch.tab 2 r = false from Bool.eq_false_iff.2 (fun g => by have := h.1 g; omega)]
    exact refStart_17 r w (by omega) g17
  by_cases g18 : r ≤ 8204
  · rw [show Ch.isT Ch.tab 2 r = true from h.2 (by omega)]
    exact refStart_18 r w (by omega) g18
  by_cases g19 : r ≤ 8205
  · rw [show Ch.isT Ch.tab 2 r = true from h.2 (by omega)]
    exact refStart_19 r w (by omega) g19
  by_cases g20 : r ≤ 8303
  · rw [show Ch.isT Ch.tab 2 r = false from Bool.eq_false_iff.2 (fun g => by have := h.1 g; omega)]
    exact refStart_20 r w (by omega) g20
  by_cases g21 : r ≤ 8591
  · rw [show Ch.isT Ch.tab 2 r = true from h.2 (by omega)]
    exact refStart_21 r w (by omega) g21
  by_cases g22 : r ≤ 11263
  · rw [show Ch.isT Ch.tab 2 r = false from Bool.eq_false_iff.2 (fun g => by have := h.1 g; omega)]
    exact refStart_22 r w (by omega) g22
  by_cases g23 : r ≤ 12271
  · rw [show Ch.isT Ch.tab 2 r = true from h.2 (by omega)]
    exact refStart_23 r w (by omega) g23
  by_cases g24 : r ≤ 12288
  · rw [show Ch.isT Ch.tab 2 r = false from Bool.eq_false_iff.2 (fun g => by have := h.1 g; omega)]
    exact refStart_24 r w (by omega) g24
  by_cases g25 : r ≤ 55295
  · rw [show Ch.isT Ch.tab 2 r = true from h.2 (by omega)]
    exact refStart_25 r w (by omega) g25
  by_cases g26 : r ≤ 63743
  · rw [show Ch.isT Ch.tab 2 r = false from Bool.eq_false_iff.2 (fun g => by have := h.1 g; omega)]
    exact refStart_26 r w (by omega) g26
  by_cases g27 : r ≤ 64975
  · rw [show Ch.isT Ch.tab 2 r = true from h.2 (by omega)]
    exact refStart_27 r w (by omega) g27
  by_cases g28 : r ≤ 65007
  · rw [show Ch.isT Ch.tab 2 r = false from Bool.eq_false_iff.2 (fun g => by have := h.1 g; omega)]
    exact refStart_28 r w (by omega) g28
  by_cases g29 : r ≤ 65533
  · rw [show Ch.isT Ch.tab 2 r = true from h.2 (by omega)]
    exact refStart_29 r w (by omega) g29
  by_cases g30 : r ≤ 65535
  · rw [show Ch.isT Ch.tab 2 r = false from Bool.eq_false_iff.2 (fun g => by have := h.1 g; omega)]
    exact refStart_30 r w (by omega) g30
  by_cases g31 : r ≤ 983039
  · rw [show Ch.isT Ch.tab 2 r = true from h.2 (by omega)]
    exact refStart_31 r w (by omega) g31
  rw [show Ch.isT Ch.tab 2 r = false from Bool.eq_false_iff.2 (fun g => by have := h.1 g; omega)]
  exact refStart_32 r w (by omega)
set_option maxRecDepth 100000 in
theorem refRest_0 (r : Nat) (w : World) (hs : Ch.isT Ch.tab 2 r = false) (h0 : 0 ≤ r) (h1 : r ≤ 44) : Calls Tryd.prog 52 #[.int .i64 r] w fun e w' => e = .returned (.bool false) ∧ w' = w := by
  have f0 : ((r : Int) == 45) = false := by simp; omega
  have f0n : ((r : Int) != 45) = true := by simp; omega
  have f2 : ((r : Int) == 46) = false := by simp; omega
  have f2n : ((r : Int) != 46) = true := by simp; omega
  have f4 : ¬ (48 : Int) ≤ r := by omega
  have f4d : decide ((48 : Int) ≤ r) = false := decide_eq_false f4
  have f6 : (r : Int) ≤ 57 := by omega
  have f7 : ((r : Int) == 183) = false := by simp; omega
  have f7n : ((r : Int) != 183) = true := by simp; omega
  have f9 : ¬ (768 : Int) ≤ r := by omega
  have f9d : decide ((768 : Int) ≤ r) = false := decide_eq_false f9
  have f11 : (r : Int) ≤ 879 := by omega
  have f12 : ((r : Int) == 8255) = false := by simp; omega
  have f12n : ((r : Int) != 8255) = true := by simp; omega
  have f14 : ((r : Int) == 8256) = false := by simp; omega
  have f14n : ((r : Int) != 8256) = true := by simp; omega
  have c := refStart_any r w
  rw [hs] at c
  clear hs h0 h1
  go_enter Tryd.func52, Tryd.ntmps52
  go_wp2_with fail
  refine c.mono ?_
  rintro e w' ⟨rfl, rfl⟩
  clear c
  go_wp2_with (exact absurd (show some undef = some (Value.bool _) by assumption) (by simp [undef]))
  all_goals go_ret
  all_goals exact ⟨rfl, rfl⟩
set_option maxRecDepth 100000 in
theorem refRest_1 (r : Nat) (w : World) (hs : Ch.isT Ch.tab 2 r = false) (h0 : 45 ≤ r) (h1 : r ≤ 45) : Calls Tryd.prog 52 #[.int .i64 r] w fun e w' => e = .returned (.bool true) ∧ w' = w := by
  have f0 : ((r : Int) == 45) = true := by simp; omega
  have f0n : ((r : Int) != 45) = false := by simp; omega
  have f2 : ((r : Int) == 46) = false := by simp; omega
  have f2n : ((r : Int) != 46) = true := by simp; omega
  have f4 : ¬ (48 : Int) ≤ r := by omega
  have f4d : decide ((48 : Int) ≤ r) = false := decide_eq_false f4
  have f6 : (r : Int) ≤ 57 := by omega
  have f7 : ((r : Int) == 183) = false := by simp; omega
  have f7n : ((r : Int) != 183) = true := by simp; omega
  have f9 : ¬ (768 : Int) ≤ r := by omega
  have f9d : decide ((768 : Int) ≤ r) = false := decide_eq_false f9
  have f11 : (r : Int) ≤ 879 := by omega
  have f12 : ((r : Int) == 8255) = false := by simp; omega
  have f12n : ((r : Int) != 8255) = true := by simp; omega
  have f14 : ((r : Int) == 8256) = false := by simp; omega
  have f14n : ((r : Int) != 8256) = true := by simp; omega
  have c := refStart_any r w
  rw [hs] at c
  clear hs h0 h1
  go_enter Tryd.func52, Tryd.ntmps52
  go_wp2_with fail
  refine c.mono ?_
  rintro e w' ⟨rfl, rfl⟩
  clear c
  go_wp2_with (exact absurd (show some undef = some (Value.bool _) by assumption) (by simp [undef]))
  all_goals go_ret
  all_goals exact ⟨rfl, rfl⟩
set_option maxRecDepth 100000 in
theorem refRest_2 (r : Nat) (w : World) (hs : Ch.isT Ch.tab 2 r = false) (h0 : 46 ≤ r) (h1 : r ≤ 46) : Calls Tryd.prog 52 #[.int .i64 r] w fun e w' => e = .returned (.bool true) ∧ w' = w := by
  have f0 : ((r : Int) == 45) = false := by simp; omega
  have f0n : ((r : Int) != 45) = true := by simp; omega
  have f2 : ((r : Int) == 46) = true := by simp; omega
  have f2n : ((r : Int) != 46) = false := by simp; omega
  have f4 : ¬ (48 : Int) ≤ r := by omega
  have f4d : decide ((48 : Int) ≤ r) = false := decide_eq_false f4
  have f6 : (r : Int) ≤ 57 := by omega
  have f7 : ((r : Int) == 183) = false := by simp; omega
  have f7n : ((r : Int) != 183) = true := by simp; omega
  have f9 : ¬ (768 : Int) ≤ r := by omega
  have f9d : decide ((768 : Int) ≤ r) = false := decide_eq_false f9
  have f11 : (r : Int) ≤ 879 := by omega
  have f12 : ((r : Int) == 8255) = false := by simp; omega
  have f12n : ((r : Int) != 8255) = true := by simp; omega
  have f14 : ((r : Int) == 8256) = false := by simp; omega
  have f14n : ((r : Int) != 8256) = true := by simp; omega
  have c := refStart_any r w
  rw [hs] at c
  clear hs h0 h1
  go_enter Tryd.func52, Tryd.ntmps52
  go_wp2_with fail
  refine c.mono ?_
  rintro e w' ⟨rfl, rfl⟩
  clear c
  go_wp2_with (exact absurd (show some undef = some (Value.bool _) by assumption) (by simp [undef]))
  all_goals go_ret
  all_goals exact ⟨rfl, rfl⟩
set_option maxRecDepth 100000 in
theorem refRest_3 (r : Nat) (w : World) (hs : Ch.isT Ch.tab 2 r = false) (h0 : 47 ≤ r) (h1 : r ≤ 47) : Calls Tryd.prog 52 #[.int .i64 r] w fun e w' => e = .returned (.bool false) ∧ w' = w := by
  have f0 : ((r : Int) == 45) = false := by simp; omega
  have f0n : ((r : Int) != 45) = true := by simp; omega
  have f2 : ((r : Int) == 46) = false := by simp; omega
  have f2n : ((r : Int) != 46) = true := by simp; omega
  have f4 : ¬ (48 : Int) ≤ r := by omega
  have f4d : decide ((48 : Int) ≤ r) = false := decide_eq_false f4
  have f6 : (r : Int) ≤ 57 := by omega
  have f7 : ((r : Int) == 183) = false := by simp; omega
  have f7n : ((r : Int) != 183) = true := by simp; omega
  have f9 : ¬ (768 : Int) ≤ r := by omega
  have f9d : decide ((768 : Int) ≤ r) = false := decide_eq_false f9
  have f11 : (r : Int) ≤ 879 := by omega
  have f12 : ((r : Int) == 8255) = false := by simp; omega
  have f12n : ((r : Int) != 8255) = true := by simp; omega
  have f14 : ((r : Int) == 8256) = false := by simp; omega
  have f14n : ((r : Int) != 8256) = true := by simp; omega
  have c := refStart_any r w
  rw [hs] at c
  clear hs h0 h1
  go_enter Tryd.func52, Tryd.ntmps52
  go_wp2_with fail
  refine c.mono ?_
  rintro e w' ⟨rfl, rfl⟩
  clear c
  go_wp2_with (exact absurd (show some undef = some (Value.bool _) by assumption) (by simp [undef]))
  all_goals go_ret
  all_goals exact ⟨rfl, rfl⟩
set_option maxRecDepth 100000 in
theorem refRest_4 (r : Nat) (w : World) (hs : Ch.isT Ch.tab 2 r = false) (h0 : 48 ≤ r) (h1 : r ≤ 57) : Calls Tryd.prog 52 #[.int .i64 r] w fun e w' => e = .returned (.bool true) ∧ w' = w := by
  have f0 : ((r : Int) == 45) = false := by simp; omega
  have f0n : ((r : Int) != 45) = true := by simp; omega
  have f2 : ((r : Int) == 46) = false := by simp; omega
  have f2n : ((r : Int) != 46) = true := by simp; omega
  have f4 : (48 : Int) ≤ r := by omega
  have f5 : (r : Int) ≤ 57 := by omega
  have f6 : ((r : Int) == 183) = false := by simp; omega
  have f6n : ((r : Int) != 183) = true := by simp; omega
  have f8 : ¬ (768 : Int) ≤ r := by omega
  have f8d : decide ((768 : Int) ≤ r) = false := decide_eq_false f8
  have f10 : (r : Int) ≤ 879 := by omega
  have f11 : ((r : Int) == 8255) = false := by simp; omega
  have f11n : ((r : Int) != 8255) = true := by simp; omega
  have f13 : ((r : Int) == 8256) = false := by simp; omega
  have f13n : ((r : Int) != 8256) = true := by simp; omega
  have c := refStart_any r w
  rw [hs] at c
  clear hs h0 h1
  go_enter Tryd.func52, Tryd.ntmps52
  go_wp2_with fail
  refine c.mono ?_
  rintro e w' ⟨rfl, rfl⟩
  clear c
  go_wp2_with (exact absurd (show some undef = some (Value.bool _) by assumption) (by simp [undef]))
  all_goals go_ret
  all_goals exact ⟨rfl, rfl⟩
set_option maxRecDepth 100000 in
theorem refRest_5 (r : Nat) (w : World) (hs : Ch.isT Ch.tab 2 r = false) (h0 : 58 ≤ r) (h1 : r ≤ 182) : Calls Tryd.prog 52 #[.int .i64 r] w fun e w' => e = .returned (.bool false) ∧ w' = w := by
  have f0 : ((r : Int) == 45) = false := by simp; omega
  have f0n : ((r : Int) != 45) = true := by simp; omega
  have f2 : ((r : Int) == 46) = false := by simp; omega
  have f2n : ((r : Int) != 46) = true := by simp; omega
  have f4 : (48 : Int) ≤ r := by omega
  have f5 : ¬ (r : Int) ≤ 57 := by omega
  have f5d : decide ((r : Int) ≤ 57) = false := decide_eq_false f5
  have f7 : ((r : Int) == 183) = false := by simp; omega
  have f7n : ((r : Int) != 183) = true := by simp; omega
  have f9 : ¬ (768 : Int) ≤ r := by omega
  have f9d : decide ((768 : Int) ≤ r) = false := decide_eq_false f9
  have f11 : (r : Int) ≤ 879 := by omega
  have f12 : ((r : Int) == 8255) = false := by simp; omega
  have f12n : ((r : Int) != 8255) = true := by simp; omega
  have f14 : ((r : Int) == 8256) = false := by simp; omega
  have f14n : ((r : Int) != 8256) = true := by simp; omega
  have c := refStart_any r w
  rw [hs] at c
  clear hs h0 h1
  go_enter Tryd.func52, Tryd.ntmps52
  go_wp2_with fail
  refine c.mono ?_
  rintro e w' ⟨rfl, rfl⟩
  clear c
  go_wp2_with (exact absurd (show some undef = some (Value.bool _) by assumption) (by simp [undef]))
  all_goals go_ret
  all_goals exact ⟨rfl, rfl⟩
set_option maxRecDepth 100000 in
theorem refRest_6 (r : Nat) (w : World) (hs : Ch.isT Ch.tab 2 r = false) (h0 : 183 ≤ r) (h1 : r ≤ 183) : Calls Tryd.prog 52 #[.int .i64 r] w fun e w' => e = .returned (.bool true) ∧ w' = w := by
  have f0 : ((r : Int) == 45) = false := by simp; omega
  have f0n : ((r : Int) != 45) = true := by simp; omega
  have f2 : ((r : Int) == 46) = false := by simp; omega
  have f2n : ((r : Int) != 46) = true := by simp; omega
  have f4 : (48 : Int) ≤ r := by omega
  have f5 : ¬ (r : Int) ≤ 57 := by omega
  have f5d : decide ((r : Int) ≤ 57) = false := decide_eq_false f5
  have f7 : ((r : Int) == 183) = true := by simp; omega
  have f7n : ((r : Int) != 183) = false := by simp; omega
  have f9 : ¬ (768 : Int) ≤ r := by omega
  have f9d : decide ((768 : Int) ≤ r) = false := decide_eq_false f9
  have f11 : (r : Int) ≤ 879 := by omega
  have f12 : ((r : Int) == 8255) = false := by simp; omega
  have f12n : ((r : Int) != 8255) = true := by simp; omega
  have f14 : ((r : Int) == 8256) = false := by simp; omega
  have f14n : ((r : Int) != 8256) = true := by simp; omega
  have c := refStart_any r w
  rw [hs] at c
  clear hs h0 h1
  go_enter Tryd.func52, Tryd.ntmps52
  go_wp2_with fail
  refine c.mono ?_
  rintro e w' ⟨rfl, rfl⟩
  clear c
  go_wp2_with (exact absurd (show some undef = some (Value.bool _) by assumption) (by simp [undef]))
  all_goals go_ret
  all_goals exact ⟨rfl, rfl⟩
set_option maxRecDepth 100000 in
theorem refRest_7 (r : Nat) (w : World) (hs : Ch.isT Ch.tab 2 r = false) (h0 : 184 ≤ r) (h1 : r ≤ 767) : Calls Tryd.prog 52 #[.int .i64 r] w fun e w' => e = .returned (.bool false) ∧ w' = w := by
  have f0 : ((r : Int) == 45) = false := by simp; omega
  have f0n : ((r : Int) != 45) = true := by simp; omega
  have f2 : ((r : Int) == 46) = false := by simp; omega
  have f2n : ((r : Int) != 46) = true := by simp; omega
  have f4 : (48 : Int) ≤ r := by omega
  have f5 : ¬ (r : Int) ≤ 57 := by omega
  have f5d : decide ((r : Int) ≤ 57) = false := decide_eq_false f5
  have f7 : ((r : Int) == 183) = false := by simp; omega
  have f7n : ((r : Int) != 183) = true := by simp; omega
  have f9 : ¬ (768 : Int) ≤ r := by omega
  have f9d : decide ((768 : Int) ≤ r) = false := decide_eq_false f9
  have f11 : (r : Int) ≤ 879 := by omega
  have f12 : ((r : Int) == 8255) = false := by simp; omega
  have f12n : ((r : Int) != 8255) = true := by simp; omega
  have f14 : ((r : Int) == 8256) = false := by simp; omega
  have f14n : ((r : Int) != 8256) = true := by simp; omega
  have c := refStart_any r w
  rw [hs] at c
  clear hs h0 h1
  go_enter Tryd.func52, Tryd.ntmps52
  go_wp2_with fail
  refine c.mono ?_
  rintro e w' ⟨rfl, rfl⟩
  clear c
  go_wp2_with (exact absurd (show some undef = some (Value.bool _) by assumption) (by simp [undef]))
  all_goals go_ret
  all_goals exact ⟨rfl, rfl⟩
set_option maxRecDepth 100000 in
theorem refRest_8 (r : Nat) (w : World) (hs : Ch.isT Ch.tab 2 r = false) (h0 : 768 ≤ r) (h1 : r ≤ 879) : Calls Tryd.prog 52 #[.int .i64 r] w fun e w' => e = .returned (.bool true) ∧ w' = w := by
  have f0 : ((r : Int) == 45) = false := by simp; omega
  have f0n : ((r : Int) != 45) = true := by simp; omega
  have f2 : ((r : Int) == 46) = false := by simp; omega
  have f2n : ((r : Int) != 46) = true := by simp; omega
  have f4 : (48 : Int) ≤ r := by omega
  have f5 : ¬ (r : Int) ≤ 57 := by omega
  have f5d : decide ((r : Int) ≤ 57) = false := decide_eq_false f5
  have f7 : ((r : Int) == 183) = false := by simp; omega
  have f7n : ((r : Int) != 183) = true := by simp; omega
  have f9 : (768 : Int) ≤ r := by omega
  have f10 : (r : Int) ≤ 879 := by omega
  have f11 : ((r : Int) == 8255) = false := by simp; omega
  have f11n : ((r : Int) != 8255) = true := by simp; omega
  have f13 : ((r : Int) == 8256) = false := by simp; omega
  have f13n : ((r : Int) != 8256) = true := by simp; omega
  have c := refStart_any r w
  rw [hs] at c
  clear hs h0 h1
  go_enter Tryd.func52, Tryd.ntmps52
  go_wp2_with fail
  refine c.mono ?_
  rintro e w' ⟨rfl, rfl⟩
  clear c
  go_wp2_with (exact absurd (show some undef = some (Value.bool _) by assumption) (by simp [undef]))
  all_goals go_ret
  all_goals exact ⟨rfl, rfl⟩
set_option maxRecDepth 100000 in
theorem refRest_9 (r : Nat) (w : World) (hs : Ch.isT Ch.tab 2 r = false) (h0 : 880 ≤ r) (h1 : r ≤ 8254) : Calls Tryd.prog 52 #[.int .i64 r] w fun e w' => e = .returned (.bool false) ∧ w' = w := by
  have f0 : ((r : Int) == 45) = false := by simp; omega
  have f0n : ((r : Int) != 45) = true := by simp; omega
  have f2 : ((r : Int) == 46) = false := by simp; omega
  have f2n : ((r : Int) != 46) = true := by simp; omega
  have f4 : (48 : Int) ≤ r := by omega
  have f5 : ¬ (r : Int) ≤ 57 := by omega
  have f5d : decide ((r : Int) ≤ 57) = false := decide_eq_false f5
  have f7 : ((r : Int) == 183) = false := by simp; omega
  have f7n : ((r : Int) != 183) = true := by simp; omega
  have f9 : (768 : Int) ≤ r := by omega
  have f10 : ¬ (r : Int) ≤ 879 := by omega
  have f10d : decide ((r : Int) ≤ 879) = false := decide_eq_false f10
  have f12 : ((r : Int) == 8255) = false := by simp; omega
  have f12n : ((r : Int) != 8255) = true := by simp; omega
  have f14 : ((r : Int) == 8256) = false := by simp; omega
  have f14n : ((r : Int) != 8256) = true := by simp; omega
  have c := refStart_any r w
  rw [hs] at c
  clear hs h0 h1
  go_enter Tryd.func52, Tryd.ntmps52
  go_wp2_with fail
  refine c.mono ?_
  rintro e w' ⟨rfl, rfl⟩
  clear c
  go_wp2_with (exact absurd (show some undef = some (Value.bool _) by assumption) (by simp [undef]))
  all_goals go_ret
  all_goals exact ⟨rfl, rfl⟩
set_option maxRecDepth 100000 in
theorem refRest_10 (r : Nat) (w : World) (hs : Ch.isT Ch.tab 2 r = false) (h0 : 8255 ≤ r) (h1 : r ≤ 8255) : Calls Tryd.prog 52 #[.int .i64 r] w fun e w' => e = .returned (.bool true) ∧ w' = w := by
  have f0 : ((r : Int) == 45) = false := by simp; omega
  have f0n : ((r : Int) != 45) = true := by simp; omega
  have f2 : ((r : Int) == 46) = false := by simp; omega
  have f2n : ((r : Int) != 46) = true := by simp; omega
  have f4 : (48 : Int) ≤ r := by omega
  have f5 : ¬ (r : Int) ≤ 57 := by omega
  have f5d : decide ((r : Int) ≤ 57) = false := decide_eq_false f5
  have f7 : ((r : Int) == 183) = false := by simp; omega
  have f7n : ((r : Int) != 183) = true := by simp; omega
  have f9 : (768 : Int) ≤ r := by omega
  have f10 : ¬ (r : Int) ≤ 879 := by omega
  have f10d : decide ((r : Int) ≤ 879) = false := decide_eq_false f10
  have f12 : ((r : Int) == 8255) = true := by simp; omega
  have f12n : ((r : Int) != 8255) = false := by simp; omega
  have f14 : ((r : Int) == 8256) = false := by simp; omega
  have f14n : ((r : Int) != 8256) = true := by simp; omega
  have c := refStart_any r w
  rw [hs] at c
  clear hs h0 h1
  go_enter Tryd.func52, Tryd.ntmps52
  go_wp2_with fail
  refine c.mono ?_
  rintro e w' ⟨rfl, rfl⟩
  clear c
  go_wp2_with (exact absurd (show some undef = some (Value.bool _) by assumption) (by simp [undef]))
  all_goals go_ret
  all_goals exact ⟨rfl, rfl⟩
set_option maxRecDepth 100000 in
theorem refRest_11 (r : Nat) (w : World) (hs : Ch.isT Ch.tab 2 r = false) (h0 : 8256 ≤ r) (h1 : r ≤ 8256) : Calls Tryd.prog 52 #[.int .i64 r] w fun e w' => e = .returned (.bool true) ∧ w' = w := by
  have f0 : ((r : Int) == 45) = false := by simp; omega
  have f0n : ((r : Int) != 45) = true := by simp; omega
  have f2 : ((r : Int) == 46) = false := by simp; omega
  have f2n : ((r : Int) != 46) = true := by simp; omega
  have f4 : (48 : Int) ≤ r := by omega
  have f5 : ¬ (r : Int) ≤ 57 := by omega
  have f5d : decide ((r : Int) ≤ 57) = false := decide_eq_false f5
  have f7 : ((r : Int) == 183) = false := by simp; omega
  have f7n : ((r : Int) != 183) = true := by simp; omega
  have f9 : (768 : Int) ≤ r := by omega
  have f10 : ¬ (r : Int) ≤ 879 := by omega
  have f10d : decide ((r : Int) ≤ 879) = false := decide_eq_false f10
  have f12 : ((r : Int) == 8255) = false := by simp; omega
  have f12n : ((r : Int) != 8255) = true := by simp; omega
  have f14 : ((r : Int) == 8256) = true := by simp; omega
  have f14n : ((r : Int) != 8256) = false := by simp; omega
  have c := refStart_any r w
  rw [hs] at c
  clear hs h0 h1
  go_enter Tryd.func52, Tryd.ntmps52
  go_wp2_with fail
  refine c.mono ?_
  rintro e w' ⟨rfl, rfl⟩
  clear c
  go_wp2_with (exact absurd (show some undef = some (Value.bool _) by assumption) (by simp [undef]))
  all_goals go_ret
  all_goals exact ⟨rfl, rfl⟩
set_option maxRecDepth 100000 in
theorem refRest_12 (r : Nat) (w : World) (hs : Ch.isT Ch.tab 2 r = false) (h0 : 8257 ≤ r) : Calls Tryd.prog 52 #[.int .i64 r] w fun e w' => e = .returned (.bool false) ∧ w' = w := by
  have f0 : ((r : Int) == 45) = false := by simp; omega
  have f0n : ((r : Int) != 45) = true := by simp; omega
  have f2 : ((r : Int) == 46) = false := by simp; omega
  have f2n : ((r : Int) != 46) = true := by simp; omega
  have f4 : (48 : Int) ≤ r := by omega
  have f5 : ¬ (r : Int) ≤ 57 := by omega
  have f5d : decide ((r : Int) ≤ 57) = false := decide_eq_false f5
  have f7 : ((r : Int) == 183) = false := by simp; omega
  have f7n : ((r : Int) != 183) = true := by simp; omega
  have f9 : (768 : Int) ≤ r := by omega
  have f10 : ¬ (r : Int) ≤ 879 := by omega
  have f10d : decide ((r : Int) ≤ 879) = false := decide_eq_false f10
  have f12 : ((r : Int) == 8255) = false := by simp; omega
  have f12n : ((r : Int) != 8255) = true := by simp; omega
  have f14 : ((r : Int) == 8256) = false := by simp; omega
  have f14n : ((r : Int) != 8256) = true := by simp; omega
  have c := refStart_any r w
  rw [hs] at c
  clear hs h0
  go_enter Tryd.func52, Tryd.ntmps52
  go_wp2_with fail
  refine c.mono ?_
  rintro e w' ⟨rfl, rfl⟩
  clear c
  go_wp2_with (exact absurd (show some undef = some (Value.bool _) by assumption) (by simp [undef]))
  all_goals go_ret
  all_goals exact ⟨rfl, rfl⟩
set_option maxRecDepth 100000 in
theorem refRest_any (r : Nat) (w : World) : Calls Tryd.prog 52 #[.int .i64 r] w fun e w' => e = .returned (.bool (Ch.isT Ch.tab 3 r)) ∧ w' = w := by
  have h := Lx.c3_is r
  cases hs : Ch.isT Ch.tab 2 r
  · rw [hs] at h
    by_cases g0 : r ≤ 44
    · rw [show Ch.isT Ch.tab 3 r = false from Bool.eq_false_iff.2 (fun g => by have := h.1 g; simp at this; omega)]
      exact refRest_0 r w hs (by omega) g0
    by_cases g1 : r ≤ 45
    · rw [show Ch.isT Ch.tab 3 r = true from h.2 (.inr (by omega))]
      exact refRest_1 r w hs (by omega) g1
    by_cases g2 : r ≤ 46
    · rw [show Ch.isT Ch.tab 3 r = true from h.2 (.inr (by omega))]
      exact refRest_2 r w hs (by omega) g2
    by_cases g3 : r ≤ 47
    · rw [show Ch.isT Ch.tab 3 r = false from Bool.eq_false_iff.2 (fun g => by have := h.1 g; simp at this; omega)]
      exact refRest_3 r w hs (by omega) g3
    by_cases g4 : r ≤ 57
    · rw [show Ch.isT Ch.tab 3 r = true from h.2 (.inr (by omega))]
      exact refRest_4 r w hs (by omega) g4
    by_cases g5 : r ≤ 182
    · rw [show Ch.isT Ch.tab 3 r = false from Bool.eq_false_iff.2 (fun g => by have := h.1 g; simp at this; omega)]
      exact refRest_5 r w hs (by omega) g5
    by_cases g6 : r ≤ 183
    · rw [show Ch.isT Ch.tab 3 r = true from h.2 (.inr (by omega))]
      exact refRest_6 r w hs (by omega) g6
    by_cases g7 : r ≤ 767
    · rw [show Ch.isT Ch.tab 3 r = false from Bool.eq_false_iff.2 (fun g => by have := h.1 g; simp at this; omega)]
      exact refRest_7 r w hs (by omega) g7
    by_cases g8 : r ≤ 879
    · rw [show Ch.isT Ch.tab 3 r = true from h.2 (.inr (by omega))]
      exact refRest_8 r w hs (by omega) g8
    by_cases g9 : r ≤ 8254
    · rw [show Ch.isT Ch.tab 3 r = false from Bool.eq_false_iff.2 (fun g => by have := h.1 g; simp at this; omega)]
      exact refRest_9 r w hs (by omega) g9
    by_cases g10 : r ≤ 8255
    · rw [show Ch.isT Ch.tab 3 r = true from h.2 (.inr (by omega))]
      exact refRest_10 r w hs (by omega) g10
    by_cases g11 : r ≤ 8256
    · rw [show Ch.isT Ch.tab 3 r = true from h.2 (.inr (by omega))]
      exact refRest_11 r w hs (by omega) g11
    rw [show Ch.isT Ch.tab 3 r = false from Bool.eq_false_iff.2 (fun g => by have := h.1 g; simp at this; omega)]
    exact refRest_12 r w hs (by omega)
  · rw [show Ch.isT Ch.tab 3 r = true from h.2 (.inl hs)]
    have c := refStart_any r w
    rw [hs] at c
    clear hs h
    go_enter Tryd.func52, Tryd.ntmps52
    go_wp2_with fail
    refine c.mono ?_
    rintro e w' ⟨rfl, rfl⟩
    clear c
    go_wp2_with (exact absurd (show some undef = some (Value.bool _) by assumption) (by simp [undef]))
    all_goals go_ret
    all_goals exact ⟨rfl, rfl⟩
theorem refNameS_any (r : Nat) (w : World) : Calls Tryd.prog 51 #[.int .i64 r] w fun e w' => e = .returned (.bool (Ch.isT Ch.tab 2 r)) ∧ w' = w := by
  have c := refStart_any r w
  go_enter Tryd.func51, Tryd.ntmps51
  go_wp2_with fail
  refine c.mono ?_
  rintro e w' ⟨rfl, rfl⟩
  clear c
  go_wp2
  go_ret
  exact ⟨rfl, rfl⟩
end Go.Proofs.YtoccedbnnafjcaaDoor
