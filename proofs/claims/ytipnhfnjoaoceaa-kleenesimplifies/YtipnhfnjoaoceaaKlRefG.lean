/-
  WALKS over gimletref14.Good and value.
-/
import Derived.Test.YtipnhfnjoaoceaaKlEvalO
namespace Go.Proofs.Ytipnhfnjoaoceaa
open Go.RowKit Go.Lib Go.Sort
set_option maxRecDepth 100000 in
set_option maxHeartbeats 1000000 in
theorem klRefGood (v : Value) (l : List Int) (w : World) (h : Kl.Ts w v l) : Calls Try.prog 30 #[v] w fun e w' => e = .returned (.bool (Kl.goodL l)) ∧ w' = w := by
  obtain ⟨p, cap, rfl, h1, h2, h3⟩ := h
  obtain ⟨n, hnn⟩ : ∃ n, l.length = n := ⟨_, rfl⟩
  obtain ⟨z, hz⟩ : ∃ z, Kl.goodL l = z := ⟨_, rfl⟩
  have HN := hide' hnn
  rw [hnn] at h1 h3 ⊢
  rw [hz]
  have HR : Hid (Kl.goodL (l.drop 0) = z) := hz
  have H3 := hide' h3
  clear hnn h3 hz
  go_enter Try.func30, Try.ntmps30
  go_wp2_with fail
  go_loopw [7] (fun u wr => ∃ i : Nat, u = .int .i64 i ∧ i ≤ n ∧ Hid (Kl.goodL (l.drop i) = z) ∧ wr = w) (fun u _ => n - (RowKit.intOf u).toNat)
  case atStart => exact ⟨0, rfl, Nat.zero_le _, HR, rfl⟩
  case round =>
    clear HR
    obtain ⟨i, rfl, hi1, HI, rfl⟩ := hrel
    by_cases hlt : i < n
    · have t1 : (i : Int) < (n : Int) := by omega
      obtain ⟨b, o, rfl, k⟩ := H3.out (by omega)
      obtain ⟨x, hx⟩ := Kl.some_of (l := l) (i := i) (by rw [HN.out]; exact hlt)
      have c0 := k i x hx
      have HS := hide' (Kl.good_step hx)
      clear k hx H3
      by_cases x0 : x < 0
      · have hz : z = false := by rw [← HI.out, HS.out]; simp [Kl.isT]; omega
        subst hz
        go_wp2_with fail
        go_ret
        exact ⟨rfl, rfl⟩
      · have x1 : 0 ≤ x := by omega
        by_cases x2 : 2 < x
        · have hz : z = false := by rw [← HI.out, HS.out]; simp [Kl.isT]; omega
          subst hz
          go_wp2_with fail
          go_ret
          exact ⟨rfl, rfl⟩
        · have HE : Hid (Kl.goodL (l.drop (i + 1)) = z) := by
            show _ = z
            rw [← HI.out, HS.out]
            have : Kl.isT x = true := by unfold Kl.isT; exact decide_eq_true ⟨x1, by omega⟩
            rw [this, Bool.true_and]
          have x3 : x ≤ 2 := by omega
          go_wp2_with fail
          go_roundw
          case rel => exact ⟨i + 1, by go_num, by omega, HE, trivial⟩
          case measure => simp [RowKit.intOf]; omega
    · have t1 : ¬ (i : Int) < (n : Int) := by omega
      have hz : z = true := by rw [← HI.out, List.drop_eq_nil_of_le (by rw [HN.out]; omega)]; rfl
      subst hz
      go_wp2_with fail
      go_ret
      exact ⟨rfl, rfl⟩
set_option maxRecDepth 100000 in
theorem klRefValue (n : Int) (v : Value) (l : List Int) (w : World) (h : Kl.Ts w v l) (h0 : 0 ≤ n) : Calls Try.prog 49 #[.int .i64 n, v] w fun e w' => e = .returned (.int .i64 (Kl.valL l n)) ∧ w' = w := by
  obtain ⟨p, cap, rfl, h1, h2, h3⟩ := h
  unfold Kl.valL
  obtain ⟨m, rfl⟩ : ∃ m : Nat, n = m := ⟨n.toNat, by omega⟩
  obtain ⟨k, hk⟩ : ∃ k, l.length = k := ⟨_, rfl⟩
  have HK := hide' hk
  rw [hk] at h1 h3 ⊢
  clear hk
  by_cases c : m < k
  · have t1 : (m : Int) < (k : Int) := by omega
    obtain ⟨b, o, rfl, kx⟩ := h3 (by omega)
    obtain ⟨x, hx⟩ := Kl.some_of (l := l) (i := m) (by rw [HK.out]; exact c)
    have c0 := kx m x hx
    rw [if_pos t1, show ((m : Int)).toNat = m by omega, hx]
    clear kx h3 hx
    go_enter Try.func49, Try.ntmps49
    go_wp2_with fail
    go_ret
    exact ⟨rfl, rfl⟩
  · have t1 : ¬ (m : Int) < (k : Int) := by omega
    rw [if_neg t1]
    clear h3
    go_enter Try.func49, Try.ntmps49
    go_wp2_with fail
    go_ret
    exact ⟨rfl, rfl⟩
end Go.Proofs.Ytipnhfnjoaoceaa
