/-
  WALKS over gimletref07.Start, by intervals (made by gen_rw.py).
-/
import Derived.Test.YtoccedbnnafjcaaDoorLxRwH
namespace Go.Proofs.YtoccedbnnafjcaaDoor
open Go.RowKit Go.Lib
set_option maxRecDepth 100000 in
set_option maxHeartbeats 20000000 in
theorem refStart_23 (r : Nat) (w : World) (h0 : 11264 ≤ r) (h1 : r ≤ 12271) : Calls Tryd.prog 67 #[.int .i64 r] w fun e w' => e = .returned (.bool true) ∧ w' = w := by
  have f0 : ¬ (r : Int) < 128 := by omega
  have f1 : ¬ (r : Int) < 768 := by omega
  have f2 : (880 : Int) ≤ r := by omega
  have f3 : ¬ (r : Int) ≤ 8191 := by omega
  have f4 : ((r : Int) == 894) = false := by simp; omega
  have f4n : ((r : Int) != 894) = true := by simp; omega
  have f6 : ((r : Int) == 8204) = false := by simp; omega
  have f6n : ((r : Int) != 8204) = true := by simp; omega
  have f8 : ((r : Int) == 8205) = false := by simp; omega
  have f8n : ((r : Int) != 8205) = true := by simp; omega
  have f10 : (8304 : Int) ≤ r := by omega
  have f11 : ¬ (r : Int) ≤ 8591 := by omega
  have f12 : (11264 : Int) ≤ r := by omega
  have f13 : (r : Int) ≤ 12271 := by omega
  have f14 : ¬ (12289 : Int) ≤ r := by omega
  have f15 : (r : Int) ≤ 55295 := by omega
  have f16 : ¬ (63744 : Int) ≤ r := by omega
  have f17 : (r : Int) ≤ 64975 := by omega
  have f18 : ¬ (65008 : Int) ≤ r := by omega
  have f19 : (r : Int) ≤ 65533 := by omega
  have f20 : ¬ (65536 : Int) ≤ r := by omega
  have f21 : (r : Int) ≤ 983039 := by omega
  clear h0 h1
  go_enter Tryd.func67, Tryd.ntmps67
  go_wp2_with (exact absurd (show some undef = some (Value.bool _) by assumption) (by simp [undef]))
  all_goals go_ret
  all_goals exact ⟨rfl, rfl⟩
set_option maxRecDepth 100000 in
set_option maxHeartbeats 20000000 in
theorem refStart_24 (r : Nat) (w : World) (h0 : 12272 ≤ r) (h1 : r ≤ 12288) : Calls Tryd.prog 67 #[.int .i64 r] w fun e w' => e = .returned (.bool false) ∧ w' = w := by
  have f0 : ¬ (r : Int) < 128 := by omega
  have f1 : ¬ (r : Int) < 768 := by omega
  have f2 : (880 : Int) ≤ r := by omega
  have f3 : ¬ (r : Int) ≤ 8191 := by omega
  have f4 : ((r : Int) == 894) = false := by simp; omega
  have f4n : ((r : Int) != 894) = true := by simp; omega
  have f6 : ((r : Int) == 8204) = false := by simp; omega
  have f6n : ((r : Int) != 8204) = true := by simp; omega
  have f8 : ((r : Int) == 8205) = false := by simp; omega
  have f8n : ((r : Int) != 8205) = true := by simp; omega
  have f10 : (8304 : Int) ≤ r := by omega
  have f11 : ¬ (r : Int) ≤ 8591 := by omega
  have f12 : (11264 : Int) ≤ r := by omega
  have f13 : ¬ (r : Int) ≤ 12271 := by omega
  have f14 : ¬ (12289 : Int) ≤ r := by omega
  have f15 : (r : Int) ≤ 55295 := by omega
  have f16 : ¬ (63744 : Int) ≤ r := by omega
  have f17 : (r : Int) ≤ 64975 := by omega
  have f18 : ¬ (65008 : Int) ≤ r := by omega
  have f19 : (r : Int) ≤ 65533 := by omega
  have f20 : ¬ (65536 : Int) ≤ r := by omega
  have f21 : (r : Int) ≤ 983039 := by omega
  clear h0 h1
  go_enter Tryd.func67, Tryd.ntmps67
  go_wp2_with (exact absurd (show some undef = some (Value.bool _) by assumption) (by simp [undef]))
  all_goals go_ret
  all_goals exact ⟨rfl, rfl⟩
set_option maxRecDepth 100000 in
set_option maxHeartbeats 20000000 in
theorem refStart_25 (r : Nat) (w : World) (h0 : 12289 ≤ r) (h1 : r ≤ 55295) : Calls Tryd.prog 67 #[.int .i64 r] w fun e w' => e = .returned (.bool true) ∧ w' = w := by
  have f0 : ¬ (r : Int) < 128 := by omega
  have f1 : ¬ (r : Int) < 768 := by omega
  have f2 : (880 : Int) ≤ r := by omega
  have f3 : ¬ (r : Int) ≤ 8191 := by omega
  have f4 : ((r : Int) == 894) = false := by simp; omega
  have f4n : ((r : Int) != 894) = true := by simp; omega
  have f6 : ((r : Int) == 8204) = false := by simp; omega
  have f6n : ((r : Int) != 8204) = true := by simp; omega
  have f8 : ((r : Int) == 8205) = false := by simp; omega
  have f8n : ((r : Int) != 8205) = true := by simp; omega
  have f10 : (8304 : Int) ≤ r := by omega
  have f11 : ¬ (r : Int) ≤ 8591 := by omega
  have f12 : (11264 : Int) ≤ r := by omega
  have f13 : ¬ (r : Int) ≤ 12271 := by omega
  have f14 : (12289 : Int) ≤ r := by omega
  have f15 : (r : Int) ≤ 55295 := by omega
  have f16 : ¬ (63744 : Int) ≤ r := by omega
  have f17 : (r : Int) ≤ 64975 := by omega
  have f18 : ¬ (65008 : Int) ≤ r := by omega
  have f19 : (r : Int) ≤ 65533 := by omega
  have f20 : ¬ (65536 : Int) ≤ r := by omega
  have f21 : (r : Int) ≤ 983039 := by omega
  clear h0 h1
  go_enter Tryd.func67, Tryd.ntmps67
  go_wp2_with (exact absurd (show some undef = some (Value.bool _) by assumption) (by simp [undef]))
  all_goals go_ret
  all_goals exact ⟨rfl, rfl⟩
set_option maxRecDepth 100000 in
set_option maxHeartbeats 20000000 in
theorem refStart_26 (r : Nat) (w : World) (h0 : 55296 ≤ r) (h1 : r ≤ 63743) : Calls Tryd.prog 67 #[.int .i64 r] w fun e w' => e = .returned (.bool false) ∧ w' = w := by
  have f0 : ¬ (r : Int) < 128 := by omega
  have f1 : ¬ (r : Int) < 768 := by omega
  have f2 : (880 : Int) ≤ r := by omega
  have f3 : ¬ (r : Int) ≤ 8191 := by omega
  have f4 : ((r : Int) == 894) = false := by simp; omega
  have f4n : ((r : Int) != 894) = true := by simp; omega
  have f6 : ((r : Int) == 8204) = false := by simp; omega
  have f6n : ((r : Int) != 8204) = true := by simp; omega
  have f8 : ((r : Int) == 8205) = false := by simp; omega
  have f8n : ((r : Int) != 8205) = true := by simp; omega
  have f10 : (8304 : Int) ≤ r := by omega
  have f11 : ¬ (r : Int) ≤ 8591 := by omega
  have f12 : (11264 : Int) ≤ r := by omega
  have f13 : ¬ (r : Int) ≤ 12271 := by omega
  have f14 : (12289 : Int) ≤ r := by omega
  have f15 : ¬ (r : Int) ≤ 55295 := by omega
  have f16 : ¬ (63744 : Int) ≤ r := by omega
  have f17 : (r : Int) ≤ 64975 := by omega
  have f18 : ¬ (65008 : Int) ≤ r := by omega
  have f19 : (r : Int) ≤ 65533 := by omega
  have f20 : ¬ (65536 : Int) ≤ r := by omega
  have f21 : (r : Int) ≤ 983039 := by omega
  clear h0 h1
  go_enter Tryd.func67, Tryd.ntmps67
  go_wp2_with (exact absurd (show some undef = some (Value.bool _) by assumption) (by simp [undef]))
  all_goals go_ret
  all_goals exact ⟨rfl, rfl⟩
set_option maxRecDepth 100000 in
set_option maxHeartbeats 20000000 in
theorem refStart_27 (r : Nat) (w : World) (h0 : 63744 ≤ r) (h1 : r ≤ 64975) : Calls Tryd.prog 67 #[.int .i64 r] w fun e w' => e = .returned (.bool true) ∧ w' = w := by
  have f0 : ¬ (r : Int) < 128 := by omega
  have f1 : ¬ (r : Int) < 768 := by omega
  have f2 : (880 : Int) ≤ r := by omega
  have f3 : ¬ (r : Int) ≤ 8191 := by omega
  have f4 : ((r : Int) == 894) = false := by simp; omega
  have f4n : ((r : Int) != 894) = true := by simp; omega
  have f6 : ((r : Int) == 8204) = false := by simp; omega
  have f6n : ((r : Int) != 8204) = true := by simp; omega
  have f8 : ((r : Int) == 8205) = false := by simp; omega
  have f8n : ((r : Int) != 8205) = true := by simp; omega
  have f10 : (8304 : Int) ≤ r := by omega
  have f11 : ¬ (r : Int) ≤ 8591 := by omega
  have f12 : (11264 : Int) ≤ r := by omega
  have f13 : ¬ (r : Int) ≤ 12271 := by omega
  have f14 : (12289 : Int) ≤ r := by omega
  have f15 : ¬ (r : Int) ≤ 55295 := by omega
  have f16 : (63744 : Int) ≤ r := by omega
  have f17 : (r : Int) ≤ 64975 := by omega
  have f18 : ¬ (65008 : Int) ≤ r := by omega
  have f19 : (r : Int) ≤ 65533 := by omega
  have f20 : ¬ (65536 : Int) ≤ r := by omega
  have f21 : (r : Int) ≤ 983039 := by omega
  clear h0 h1
  go_enter Tryd.func67, Tryd.ntmps67
  go_wp2_with (exact absurd (show some undef = some (Value.bool _) by assumption) (by simp [undef]))
  all_goals go_ret
  all_goals exact ⟨rfl, rfl⟩
end Go.Proofs.YtoccedbnnafjcaaDoor
