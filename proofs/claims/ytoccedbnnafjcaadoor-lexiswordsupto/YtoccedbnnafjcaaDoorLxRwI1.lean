/-
  WALKS over gimletref07.Start, by intervals (made by gen_rw.py).
-/
import Derived.Test.YtoccedbnnafjcaaDoorLxRwH
namespace Go.Proofs.YtoccedbnnafjcaaDoor
open Go.RowKit Go.Lib
set_option maxRecDepth 100000 in
set_option maxHeartbeats 20000000 in
theorem refStart_0 (r : Nat) (w : World) (h0 : 0 ≤ r) (h1 : r ≤ 64) : Calls Tryd.prog 67 #[.int .i64 r] w fun e w' => e = .returned (.bool false) ∧ w' = w := by
  have f0 : (r : Int) < 128 := by omega
  have f1 : ¬ (65 : Int) ≤ r := by omega
  have f2 : (r : Int) ≤ 90 := by omega
  have f3 : ¬ (97 : Int) ≤ r := by omega
  have f4 : (r : Int) ≤ 122 := by omega
  have f5 : ((r : Int) == 95) = false := by simp; omega
  have f5n : ((r : Int) != 95) = true := by simp; omega
  clear h0 h1
  go_enter Tryd.func67, Tryd.ntmps67
  go_wp2_with (exact absurd (show some undef = some (Value.bool _) by assumption) (by simp [undef]))
  all_goals go_ret
  all_goals exact ⟨rfl, rfl⟩
set_option maxRecDepth 100000 in
set_option maxHeartbeats 20000000 in
theorem refStart_1 (r : Nat) (w : World) (h0 : 65 ≤ r) (h1 : r ≤ 90) : Calls Tryd.prog 67 #[.int .i64 r] w fun e w' => e = .returned (.bool true) ∧ w' = w := by
  have f0 : (r : Int) < 128 := by omega
  have f1 : (65 : Int) ≤ r := by omega
  have f2 : (r : Int) ≤ 90 := by omega
  have f3 : ¬ (97 : Int) ≤ r := by omega
  have f4 : (r : Int) ≤ 122 := by omega
  have f5 : ((r : Int) == 95) = false := by simp; omega
  have f5n : ((r : Int) != 95) = true := by simp; omega
  clear h0 h1
  go_enter Tryd.func67, Tryd.ntmps67
  go_wp2_with (exact absurd (show some undef = some (Value.bool _) by assumption) (by simp [undef]))
  all_goals go_ret
  all_goals exact ⟨rfl, rfl⟩
set_option maxRecDepth 100000 in
set_option maxHeartbeats 20000000 in
theorem refStart_2 (r : Nat) (w : World) (h0 : 91 ≤ r) (h1 : r ≤ 94) : Calls Tryd.prog 67 #[.int .i64 r] w fun e w' => e = .returned (.bool false) ∧ w' = w := by
  have f0 : (r : Int) < 128 := by omega
  have f1 : (65 : Int) ≤ r := by omega
  have f2 : ¬ (r : Int) ≤ 90 := by omega
  have f3 : ¬ (97 : Int) ≤ r := by omega
  have f4 : (r : Int) ≤ 122 := by omega
  have f5 : ((r : Int) == 95) = false := by simp; omega
  have f5n : ((r : Int) != 95) = true := by simp; omega
  clear h0 h1
  go_enter Tryd.func67, Tryd.ntmps67
  go_wp2_with (exact absurd (show some undef = some (Value.bool _) by assumption) (by simp [undef]))
  all_goals go_ret
  all_goals exact ⟨rfl, rfl⟩
set_option maxRecDepth 100000 in
set_option maxHeartbeats 20000000 in
theorem refStart_3 (r : Nat) (w : World) (h0 : 95 ≤ r) (h1 : r ≤ 95) : Calls Tryd.prog 67 #[.int .i64 r] w fun e w' => e = .returned (.bool true) ∧ w' = w := by
  have f0 : (r : Int) < 128 := by omega
  have f1 : (65 : Int) ≤ r := by omega
  have f2 : ¬ (r : Int) ≤ 90 := by omega
  have f3 : ¬ (97 : Int) ≤ r := by omega
  have f4 : (r : Int) ≤ 122 := by omega
  have f5 : ((r : Int) == 95) = true := by simp; omega
  have f5n : ((r : Int) != 95) = false := by simp; omega
  clear h0 h1
  go_enter Tryd.func67, Tryd.ntmps67
  go_wp2_with (exact absurd (show some undef = some (Value.bool _) by assumption) (by simp [undef]))
  all_goals go_ret
  all_goals exact ⟨rfl, rfl⟩
set_option maxRecDepth 100000 in
set_option maxHeartbeats 20000000 in
theorem refStart_4 (r : Nat) (w : World) (h0 : 96 ≤ r) (h1 : r ≤ 96) : Calls Tryd.prog 67 #[.int .i64 r] w fun e w' => e = .returned (.bool false) ∧ w' = w := by
  have f0 : (r : Int) < 128 := by omega
  have f1 : (65 : Int) ≤ r := by omega
  have f2 : ¬ (r : Int) ≤ 90 := by omega
  have f3 : ¬ (97 : Int) ≤ r := by omega
  have f4 : (r : Int) ≤ 122 := by omega
  have f5 : ((r : Int) == 95) = false := by simp; omega
  have f5n : ((r : Int) != 95) = true := by simp; omega
  clear h0 h1
  go_enter Tryd.func67, Tryd.ntmps67
  go_wp2_with (exact absurd (show some undef = some (Value.bool _) by assumption) (by simp [undef]))
  all_goals go_ret
  all_goals exact ⟨rfl, rfl⟩
set_option maxRecDepth 100000 in
set_option maxHeartbeats 20000000 in
theorem refStart_5 (r : Nat) (w : World) (h0 : 97 ≤ r) (h1 : r ≤ 122) : Calls Tryd.prog 67 #[.int .i64 r] w fun e w' => e = .returned (.bool true) ∧ w' = w := by
  have f0 : (r : Int) < 128 := by omega
  have f1 : (65 : Int) ≤ r := by omega
  have f2 : ¬ (r : Int) ≤ 90 := by omega
  have f3 : (97 : Int) ≤ r := by omega
  have f4 : (r : Int) ≤ 122 := by omega
  have f5 : ((r : Int) == 95) = false := by simp; omega
  have f5n : ((r : Int) != 95) = true := by simp; omega
  clear h0 h1
  go_enter Tryd.func67, Tryd.ntmps67
  go_wp2_with (exact absurd (show some undef = some (Value.bool _) by assumption) (by simp [undef]))
  all_goals go_ret
  all_goals exact ⟨rfl, rfl⟩
set_option maxRecDepth 100000 in
set_option maxHeartbeats 20000000 in
theorem refStart_6 (r : Nat) (w : World) (h0 : 123 ≤ r) (h1 : r ≤ 127) : Calls Tryd.prog 67 #[.int .i64 r] w fun e w' => e = .returned (.bool false) ∧ w' = w := by
  have f0 : (r : Int) < 128 := by omega
  have f1 : (65 : Int) ≤ r := by omega
  have f2 : ¬ (r : Int) ≤ 90 := by omega
  have f3 : (97 : Int) ≤ r := by omega
  have f4 : ¬ (r : Int) ≤ 122 := by omega
  have f5 : ((r : Int) == 95) = false := by simp; omega
  have f5n : ((r : Int) != 95) = true := by simp; omega
  clear h0 h1
  go_enter Tryd.func67, Tryd.ntmps67
  go_wp2_with (exact absurd (show some undef = some (Value.bool _) by assumption) (by simp [undef]))
  all_goals go_ret
  all_goals exact ⟨rfl, rfl⟩
set_option maxRecDepth 100000 in
set_option maxHeartbeats 20000000 in
theorem refStart_7 (r : Nat) (w : World) (h0 : 128 ≤ r) (h1 : r ≤ 191) : Calls Tryd.prog 67 #[.int .i64 r] w fun e w' => e = .returned (.bool false) ∧ w' = w := by
  have f0 : ¬ (r : Int) < 128 := by omega
  have f1 : (r : Int) < 768 := by omega
  have f2 : ¬ (192 : Int) ≤ r := by omega
  have f3 : ((r : Int) == 215) = false := by simp; omega
  have f3n : ((r : Int) != 215) = true := by simp; omega
  have f5 : ((r : Int) == 247) = false := by simp; omega
  have f5n : ((r : Int) != 247) = true := by simp; omega
  clear h0 h1
  go_enter Tryd.func67, Tryd.ntmps67
  go_wp2_with (exact absurd (show some undef = some (Value.bool _) by assumption) (by simp [undef]))
  all_goals go_ret
  all_goals exact ⟨rfl, rfl⟩
set_option maxRecDepth 100000 in
set_option maxHeartbeats 20000000 in
theorem refStart_8 (r : Nat) (w : World) (h0 : 192 ≤ r) (h1 : r ≤ 214) : Calls Tryd.prog 67 #[.int .i64 r] w fun e w' => e = .returned (.bool true) ∧ w' = w := by
  have f0 : ¬ (r : Int) < 128 := by omega
  have f1 : (r : Int) < 768 := by omega
  have f2 : (192 : Int) ≤ r := by omega
  have f3 : ((r : Int) == 215) = false := by simp; omega
  have f3n : ((r : Int) != 215) = true := by simp; omega
  have f5 : ((r : Int) == 247) = false := by simp; omega
  have f5n : ((r : Int) != 247) = true := by simp; omega
  clear h0 h1
  go_enter Tryd.func67, Tryd.ntmps67
  go_wp2_with (exact absurd (show some undef = some (Value.bool _) by assumption) (by simp [undef]))
  all_goals go_ret
  all_goals exact ⟨rfl, rfl⟩
set_option maxRecDepth 100000 in
set_option maxHeartbeats 20000000 in
theorem refStart_9 (r : Nat) (w : World) (h0 : 215 ≤ r) (h1 : r ≤ 215) : Calls Tryd.prog 67 #[.int .i64 r] w fun e w' => e = .returned (.bool false) ∧ w' = w := by
  have f0 : ¬ (r : Int) < 128 := by omega
  have f1 : (r : Int) < 768 := by omega
  have f2 : (192 : Int) ≤ r := by omega
  have f3 : ((r : Int) == 215) = true := by simp; omega
  have f3n : ((r : Int) != 215) = false := by simp; omega
  have f5 : ((r : Int) == 247) = false := by simp; omega
  have f5n : ((r : Int) != 247) = true := by simp; omega
  clear h0 h1
  go_enter Tryd.func67, Tryd.ntmps67
  go_wp2_with (exact absurd (show some undef = some (Value.bool _) by assumption) (by simp [undef]))
  all_goals go_ret
  all_goals exact ⟨rfl, rfl⟩
set_option maxRecDepth 100000 in
set_option maxHeartbeats 20000000 in
theorem refStart_10 (r : Nat) (w : World) (h0 : 216 ≤ r) (h1 : r ≤ 246) : Calls Tryd.prog 67 #[.int .i64 r] w fun e w' => e = .returned (.bool true) ∧ w' = w := by
  have f0 : ¬ (r : Int) < 128 := by omega
  have f1 : (r : Int) < 768 := by omega
  have f2 : (192 : Int) ≤ r := by omega
  have f3 : ((r : Int) == 215) = false := by simp; omega
  have f3n : ((r : Int) != 215) = true := by simp; omega
  have f5 : ((r : Int) == 247) = false := by simp; omega
  have f5n : ((r : Int) != 247) = true := by simp; omega
  clear h0 h1
  go_enter Tryd.func67, Tryd.ntmps67
  go_wp2_with (exact absurd (show some undef = some (Value.bool _) by assumption) (by simp [undef]))
  all_goals go_ret
  all_goals exact ⟨rfl, rfl⟩
set_option maxRecDepth 100000 in
set_option maxHeartbeats 20000000 in
theorem refStart_11 (r : Nat) (w : World) (h0 : 247 ≤ r) (h1 : r ≤ 247) : Calls Tryd.prog 67 #[.int .i64 r] w fun e w' => e = .returned (.bool false) ∧ w' = w := by
  have f0 : ¬ (r : Int) < 128 := by omega
  have f1 : (r : Int) < 768 := by omega
  have f2 : (192 : Int) ≤ r := by omega
  have f3 : ((r : Int) == 215) = false := by simp; omega
  have f3n : ((r : Int) != 215) = true := by simp; omega
  have f5 : ((r : Int) == 247) = true := by simp; omega
  have f5n : ((r : Int) != 247) = false := by simp; omega
  clear h0 h1
  go_enter Tryd.func67, Tryd.ntmps67
  go_wp2_with (exact absurd (show some undef = some (Value.bool _) by assumption) (by simp [undef]))
  all_goals go_ret
  all_goals exact ⟨rfl, rfl⟩
set_option maxRecDepth 100000 in
set_option maxHeartbeats 20000000 in
theorem refStart_12 (r : Nat) (w : World) (h0 : 248 ≤ r) (h1 : r ≤ 767) : Calls Tryd.prog 67 #[.int .i64 r] w fun e w' => e = .returned (.bool true) ∧ w' = w := by
  have f0 : ¬ (r : Int) < 128 := by omega
  have f1 : (r : Int) < 768 := by omega
  have f2 : (192 : Int) ≤ r := by omega
  have f3 : ((r : Int) == 215) = false := by simp; omega
  have f3n : ((r : Int) != 215) = true := by simp; omega
  have f5 : ((r : Int) == 247) = false := by simp; omega
  have f5n : ((r : Int) != 247) = true := by simp; omega
  clear h0 h1
  go_enter Tryd.func67, Tryd.ntmps67
  go_wp2_with (exact absurd (show some undef = some (Value.bool _) by assumption) (by simp [undef]))
  all_goals go_ret
  all_goals exact ⟨rfl, rfl⟩
end Go.Proofs.YtoccedbnnafjcaaDoor
