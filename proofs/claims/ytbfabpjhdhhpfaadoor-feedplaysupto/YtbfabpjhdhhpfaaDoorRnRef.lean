/-
  WALKS over the document's answer for layer 1 (gimletref01): size, goes, Front, value.
-/
import Derived.Test.YtbfabpjhdhhpfaaDoorRnGood
import Derived.LoopTactic
namespace Go.Proofs.YtbfabpjhdhhpfaaDoor
open Go.RowKit Go.Lib

set_option maxHeartbeats 1000000 in
theorem refSize_any (x : Nat) (w : World) :
    Calls Tryd.prog 58 #[.int .u8 x] w fun e w' => e = .returned (.int .i64 (Rn.size x)) ∧ w' = w := by
  by_cases h1 : x < 128
  · have e : Rn.size x = 1 := by simp [Rn.size, h1]
    rw [e]
    have h1' : (x : Int) < 128 := by omega
    go_enter Tryd.func58, Tryd.ntmps58
    go_wp2
    go_ret
    exact ⟨rfl, rfl⟩
  have h1' : ¬ (x : Int) < 128 := by omega
  by_cases h2 : x < 194
  · have e : Rn.size x = 0 := by unfold Rn.size; rw [if_neg h1, if_neg (by omega), if_neg (by omega), if_neg (by omega)]
    rw [e]
    have h2' : ¬ (194 : Int) ≤ x := by omega
    have h3' : ¬ (224 : Int) ≤ x := by omega
    have h4' : ¬ (240 : Int) ≤ x := by omega
    go_enter Tryd.func58, Tryd.ntmps58
    go_wp2
    go_ret
    exact ⟨rfl, rfl⟩
  have h2' : (194 : Int) ≤ x := by omega
  by_cases h3 : x ≤ 223
  · have e : Rn.size x = 2 := by unfold Rn.size; rw [if_neg h1, if_pos (by omega)]
    rw [e]
    have h3' : (x : Int) ≤ 223 := by omega
    go_enter Tryd.func58, Tryd.ntmps58
    go_wp2
    go_ret
    exact ⟨rfl, rfl⟩
  have h3' : ¬ (x : Int) ≤ 223 := by omega
  have h3'' : (224 : Int) ≤ x := by omega
  by_cases h4 : x ≤ 239
  · have e : Rn.size x = 3 := by unfold Rn.size; rw [if_neg h1, if_neg (by omega), if_pos (by omega)]
    rw [e]
    have h4' : (x : Int) ≤ 239 := by omega
    go_enter Tryd.func58, Tryd.ntmps58
    go_wp2
    go_ret
    exact ⟨rfl, rfl⟩
  have h4' : ¬ (x : Int) ≤ 239 := by omega
  have h4'' : (240 : Int) ≤ x := by omega
  by_cases h5 : x ≤ 244
  · have e : Rn.size x = 4 := by unfold Rn.size; rw [if_neg h1, if_neg (by omega), if_neg (by omega), if_pos (by omega)]
    rw [e]
    have h5' : (x : Int) ≤ 244 := by omega
    go_enter Tryd.func58, Tryd.ntmps58
    go_wp2
    go_ret
    exact ⟨rfl, rfl⟩
  · have e : Rn.size x = 0 := by unfold Rn.size; rw [if_neg h1, if_neg (by omega), if_neg (by omega), if_neg (by omega)]
    rw [e]
    have h5' : ¬ (x : Int) ≤ 244 := by omega
    go_enter Tryd.func58, Tryd.ntmps58
    go_wp2
    go_ret
    exact ⟨rfl, rfl⟩

theorem ret_bool' {a b : Bool} (h : a = b) : Ending.returned (.bool a) = .returned (.bool b) := by rw [h]
/-- can y be the second byte behind x? -/
def goesB (x y : Nat) : Bool := decide (Rn.lo x ≤ y ∧ y ≤ Rn.hi x)
set_option maxHeartbeats 1000000 in
theorem goes_of (x y l h : Nat) (w : World) (hl : Rn.lo x = l) (hh : Rn.hi x = h)
    (hx : (x = 224 ∧ l = 160 ∧ h = 191) ∨ (x = 237 ∧ l = 128 ∧ h = 159) ∨ (x = 240 ∧ l = 144 ∧ h = 191) ∨ (x = 244 ∧ l = 128 ∧ h = 143) ∨ (x ≠ 224 ∧ x ≠ 237 ∧ x ≠ 240 ∧ x ≠ 244 ∧ l = 128 ∧ h = 191)) :
    Calls Tryd.prog 59 #[.int .u8 x, .int .u8 y] w fun e w' => e = .returned (.bool (goesB x y)) ∧ w' = w := by
  unfold goesB
  rw [hl, hh]
  clear hl hh
  have x1 : x ≠ 224 → ((x : Int) == 224) = false := fun h => by simp; omega
  have x2 : x ≠ 237 → ((x : Int) == 237) = false := fun h => by simp; omega
  have x3 : x ≠ 240 → ((x : Int) == 240) = false := fun h => by simp; omega
  have x4 : x ≠ 244 → ((x : Int) == 244) = false := fun h => by simp; omega
  rcases hx with ⟨rfl, rfl, rfl⟩ | ⟨rfl, rfl, rfl⟩ | ⟨rfl, rfl, rfl⟩ | ⟨rfl, rfl, rfl⟩ | ⟨a1, a2, a3, a4, rfl, rfl⟩
  all_goals (try (have y1 := x1 (by omega))) <;> (try (have y2 := x2 (by omega))) <;> (try (have y3 := x3 (by omega))) <;> (try (have y4 := x4 (by omega)))
  all_goals
    clear x1 x2 x3 x4
    go_enter Tryd.func59, Tryd.ntmps59
    go_wp2
    all_goals
      go_ret
      refine ⟨ret_bool' ?_, rfl⟩
      rw [Bool.eq_iff_iff]
      simp
      try omega
theorem goes_any (x y : Nat) (w : World) :
    Calls Tryd.prog 59 #[.int .u8 x, .int .u8 y] w fun e w' => e = .returned (.bool (goesB x y)) ∧ w' = w :=
  goes_of x y _ _ w rfl rfl (by unfold Rn.lo Rn.hi; repeat' split
                                all_goals omega)

namespace Rn
theorem lo_ge (x : Nat) : 128 ≤ lo x := by unfold lo; repeat' split
                                           all_goals omega
theorem hi_le (x : Nat) : hi x ≤ 191 := by unfold hi; repeat' split
                                           all_goals omega
/-- the front goes on past k bytes just where the next byte fits -/
theorem fk_step (f : Nat → Nat) (n k : Nat) (h1 : 1 ≤ k) (h2 : k ≤ fk f n) (h3 : k < size (f 0)) (h4 : k < n) :
    k < fk f n ↔ (k = 1 → lo (f 0) ≤ f 1 ∧ f 1 ≤ hi (f 0)) ∧ 128 ≤ f k ∧ f k ≤ 191 := by
  have a := lo_ge (f 0)
  have b := hi_le (f 0)
  have c := size_le (f 0)
  have hk : k = 1 ∨ k = 2 ∨ k = 3 := by omega
  rcases hk with rfl | rfl | rfl
  all_goals
    unfold fk len at h2 ⊢
    revert h2
    repeat' split
    all_goals omega
end Rn

set_option maxRecDepth 100000 in
set_option maxHeartbeats 2000000 in
/-- Front, at a place of the bytes -/
theorem front_in (f : Nat → Nat) (n b off cap a : Nat) (w : World) (ha : a < n) (hn : n ≤ 4611686018427387904) (hp : Bytes w b off n f) :
    Calls Tryd.prog 53 #[.slice (some ⟨b, off, none⟩) n cap, .int .i64 a] w fun e w' => e = .returned (.tuple #[.int .i64 (Rn.fk (Rn.off f a) (n - a)), .int .i64 (Rn.fs (Rn.off f a) (n - a))]) ∧ w' = w := by
  have hs : Rn.fs (Rn.off f a) (n - a) = Rn.size (f a) := by unfold Rn.fs; rw [if_neg (by omega)]; rfl
  have h0 : ¬ (n : Int) ≤ a := by omega
  have h0' : (a : Int) < n := by omega
  have c0 := hp a ha
  rw [hs]
  by_cases hz : Rn.size (f a) = 0
  · have e1 : Rn.fk (Rn.off f a) (n - a) = 0 := Rn.fk_zero _ _ hz
    rw [e1]
    have cs := refSize_any (f a) w
    rw [hz] at cs ⊢
    clear hp hs e1 hz
    go_enter Tryd.func53, Tryd.ntmps53
    go_wp2_with fail
    refine cs.mono ?_
    rintro e w1 ⟨rfl, rfl⟩
    go_wp2_with fail
    go_ret2
    exact ⟨rfl, rfl⟩
  · have cs := refSize_any (f a) w
    have hsl := Rn.size_le (f a)
    have hz2 : ((Rn.size (f a) : Int) == 0) = false := by simp; omega
    have hkp : 0 < Rn.fk (Rn.off f a) (n - a) := Rn.fk_pos _ _ (by rw [hs]; omega)
    have hkn := Rn.fk_le (Rn.off f a) (n - a)
    have hks := Rn.fk_le_fs (Rn.off f a) (n - a)
    rw [hs] at hks
    have hst := fun k h1 h2 h3 h4 => Rn.fk_step (Rn.off f a) (n - a) k h1 h2 h3 h4
    have hcell : ∀ k, k < n - a → w.cell? ⟨b, off + (a + k), none⟩ = some (.int .u8 (f (a + k))) := fun k hk => hp (a + k) (by omega)
    have hof : ∀ k, Rn.off f a k = f (a + k) := fun _ => rfl
    simp only [hof, Nat.add_zero] at hst
    clear hp hs hof
    go_enter Tryd.func53, Tryd.ntmps53
    go_wp2_with fail
    refine cs.mono ?_
    rintro e w1 ⟨rfl, rfl⟩
    clear cs
    go_wp2_with fail
    go_loop [7] (fun t => ∃ k : Nat, t = .int .i64 k ∧ 1 ≤ k ∧ k ≤ Rn.fk (Rn.off f a) (n - a)) (fun t => n - (RowKit.intOf t).toNat)
    case atStart => exact ⟨1, rfl, by omega, hkp⟩
    case round =>
      obtain ⟨k, rfl, hk1, hk2⟩ := hrel
      have hofk : Rn.off f a 1 = f (a + 1) := rfl
      generalize hq : Rn.fk (Rn.off f a) (n - a) = q at *
      generalize hz' : Rn.size (f a) = z at *
      have HQ := hide' hq
      have HZ := hide' hz'
      clear hq hz' hz hofk
      by_cases ht1 : k < z
      · have g1 : (k : Int) < z := by omega
        have g1' : decide ((k : Int) < z) = true := by simp; omega
        by_cases ht2 : a + k < n
        · have g2 : (a : Int) + k < n := by omega
          have st := hst k hk1 hk2 ht1 (by omega)
          have ck := hcell k (by omega)
          have hin : (0 : Int) ≤ (a : Int) + k := by omega
          have eN : ((a : Int) + k).toNat = a + k := by omega
          clear hst hcell
          by_cases hgo : k < q
          · obtain ⟨s1, s2, s3⟩ := st.1 hgo
            have b1 : ¬ ((f (a + k) : Int) < 128) := by omega
            have b2 : ¬ (191 < (f (a + k) : Int)) := by omega
            by_cases hk : k = 1
            · have hk' : ((k : Int) == 1) = true := by simp; omega
              have cg := fun W => goes_any (f a) (f (a + k)) W
              have gb : goesB (f a) (f (a + k)) = true := by unfold goesB; rw [decide_eq_true_eq, hk]; exact s1 hk
              rw [gb] at cg
              clear st s1 gb hk
              go_wp2_with fail
              refine (cg _).mono ?_
              rintro e w2 ⟨rfl, rfl⟩
              go_wp2_with fail
              exact ⟨⟨k + 1, by go_num, by omega, by omega⟩, by simp [RowKit.intOf]; omega⟩
            · have hk' : ((k : Int) == 1) = false := by simp; omega
              clear st s1
              go_wp2_with fail
              exact ⟨⟨k + 1, by go_num, by omega, by omega⟩, by simp [RowKit.intOf]; omega⟩
          · obtain rfl : k = q := by omega
            have hbad : (k = 1 ∧ goesB (f a) (f (a + k)) = false) ∨ (k ≠ 1 ∨ goesB (f a) (f (a + k)) = true) ∧ (f (a + k) < 128 ∨ 191 < f (a + k)) := by
              by_cases hk : k = 1
              · cases hg : goesB (f a) (f (a + k))
                · exact .inl ⟨hk, rfl⟩
                · refine .inr ⟨.inr rfl, ?_⟩
                  unfold goesB at hg
                  rw [decide_eq_true_eq, hk] at hg
                  have : ¬ (128 ≤ f (a + k) ∧ f (a + k) ≤ 191) := fun h => hgo (st.2 ⟨fun _ => hg, h⟩)
                  omega
              · refine .inr ⟨.inl hk, ?_⟩
                have : ¬ (128 ≤ f (a + k) ∧ f (a + k) ≤ 191) := fun h => hgo (st.2 ⟨fun h2 => absurd h2 hk, h⟩)
                omega
            clear st
            have cg := fun W => goes_any (f a) (f (a + k)) W
            rcases hbad with ⟨hk, hg⟩ | ⟨hk, hy⟩
            · have hk' : ((k : Int) == 1) = true := by simp; omega
              rw [hg] at cg
              clear hk hg
              go_wp2_with fail
              refine (cg _).mono ?_
              rintro e w2 ⟨rfl, rfl⟩
              go_wp2_with fail
              go_ret2
              exact ⟨by rw [HQ.out, HZ.out]; rfl, rfl⟩
            · by_cases hk1' : k = 1
              · have hg : goesB (f a) (f (a + k)) = true := by
                  rcases hk with h | h
                  · exact absurd hk1' h
                  · exact h
                have hk' : ((k : Int) == 1) = true := by simp; omega
                rw [hg] at cg
                clear hk hg hk1'
                rcases hy with hy | hy
                · have b1 : (f (a + k) : Int) < 128 := by omega
                  go_wp2_with fail
                  refine (cg _).mono ?_
                  rintro e w2 ⟨rfl, rfl⟩
                  go_wp2_with fail
                  go_ret2
                  exact ⟨by rw [HQ.out, HZ.out]; rfl, rfl⟩
                · have b1 : ¬ (f (a + k) : Int) < 128 := by omega
                  have b2 : 191 < (f (a + k) : Int) := by omega
                  go_wp2_with fail
                  refine (cg _).mono ?_
                  rintro e w2 ⟨rfl, rfl⟩
                  go_wp2_with fail
                  go_ret2
                  exact ⟨by rw [HQ.out, HZ.out]; rfl, rfl⟩
              · have hk' : ((k : Int) == 1) = false := by simp; omega
                clear hk cg
                rcases hy with hy | hy
                · have b1 : (f (a + k) : Int) < 128 := by omega
                  go_wp2_with fail
                  go_ret2
                  exact ⟨by rw [HQ.out, HZ.out]; rfl, rfl⟩
                · have b1 : ¬ (f (a + k) : Int) < 128 := by omega
                  have b2 : 191 < (f (a + k) : Int) := by omega
                  go_wp2_with fail
                  go_ret2
                  exact ⟨by rw [HQ.out, HZ.out]; rfl, rfl⟩
        · have g2 : ¬ ((a : Int) + k < n) := by omega
          obtain rfl : k = q := by omega
          clear hst hcell
          go_wp2_with fail
          go_ret2
          exact ⟨by rw [HQ.out, HZ.out]; rfl, rfl⟩
      · have g1 : ¬ ((k : Int) < z) := by omega
        have g1' : decide ((k : Int) < z) = false := by simp; omega
        obtain rfl : k = q := by omega
        clear hst hcell
        go_wp2_with fail
        go_ret2
        exact ⟨by rw [HQ.out, HZ.out]; rfl, rfl⟩
end Go.Proofs.YtbfabpjhdhhpfaaDoor
