/-
  THE WALK over gimletlaw10.open.
-/
import Derived.Test.YtgcbhegehbkdgaaDoorLxNone
namespace Go.Proofs.YtgcbhegehbkdgaaDoor
open Go.RowKit Go.Lib
set_option maxRecDepth 100000 in
set_option maxHeartbeats 1000000 in
theorem open_any (f : Nat → Nat) (n : Nat) (v : Value) (w : World) (hf : ∀ j, f j < 256) (hbig : n ≤ 1099511627776) (hv : ArgS w f n v) :
    Calls Tryd.prog 15 #[v] w fun e w' => ∃ r : Bool, e = .returned (.bool r) ∧ w' = w ∧ (r = false → ∀ j, j < n → f j ≠ 34 ∧ f j ≠ 39) := by
  obtain ⟨pa, cap, rfl, hc, hb⟩ := hv.span
  have HPA := hide' hb
  clear hv hb
  go_enter Tryd.func15, Tryd.ntmps15
  go_wp2
  go_loopw [3] (fun a wr => ∃ i : Nat, a = .int .i64 i ∧ wr = w ∧ i ≤ n ∧ ∀ j, j < i → f j ≠ 34 ∧ f j ≠ 39) (fun a _ => n - (RowKit.intOf a).toNat)
  case atStart => exact ⟨0, rfl, rfl, Nat.zero_le _, fun j hj => absurd hj (Nat.not_lt_zero _)⟩
  case round =>
    obtain ⟨i, rfl, rfl, hi, hq⟩ := hrel
    have HQ := hide' hq
    clear hq
    by_cases hlt : i < n
    · have g1 : (i : Int) < n := by omega
      rcases HPA.out with h0 | ⟨b, o, rfl, hby⟩
      · omega
      have hx := hby i hlt
      have hfa := hf i
      clear hby HPA
      by_cases h34 : f i = 34
      · rw [h34] at hx
        clear hfa h34
        go_wp2
        go_ret
        exact ⟨true, rfl, rfl, fun h => by cases h⟩
      · by_cases h39 : f i = 39
        · rw [h39] at hx
          clear hfa h34 h39
          go_wp2
          go_ret
          exact ⟨true, rfl, rfl, fun h => by cases h⟩
        · have k1 : (((f i : Nat) : Int) == 34) = false := by simp; omega
          have k2 : (((f i : Nat) : Int) == 39) = false := by simp; omega
          have HN := hide' (And.intro h34 h39)
          clear h34 h39
          go_wp2
          refine ⟨⟨i + 1, rfl, trivial, hlt, fun j hj => ?_⟩, ?_⟩
          · by_cases e : j = i
            · subst e; exact HN.out
            · exact HQ.out j (by omega)
          · simp [RowKit.intOf]; omega
    · have e : i = n := by omega
      subst e
      clear HPA
      go_wp2
      go_ret
      exact ⟨false, rfl, rfl, fun _ => HQ.out⟩
end Go.Proofs.YtgcbhegehbkdgaaDoor
