import Derived.Test.YtgbldbohadacmaaRnGood
import Derived.LoopTactic
import Derived.Test.YtgbldbohadacmaaRnAt
/-
  WALKS over the document's answer for layer 1 (gimletref01): size, goes, Front, value.
-/
namespace Go.Proofs.Ytgbldbohadacmaa
open Go.RowKit Go.Lib

set_option maxHeartbeats 1000000 in
theorem refSize_any (x : Nat) (w : World) :
    Calls Try.prog 35 #[.int .u8 x] w fun e w' => e = .returned (.int .i64 (Rn.size x)) ∧ w' = w := by
  by_cases h1 : x < 128
  · have e : Rn.size x = 1 := by simp [Rn.size, h1]
    rw [e]
    have h1' : (x : Int) < 128 := by omega
    go_enter Try.func35, Try.ntmps35
    go_wp2
    go_ret
    exact ⟨rfl, rfl⟩
  have h1' : ¬ (x : Int) < 128 := by omega
  by_cases h2 : x < 194
  · have e : Rn.size x = 0 := by unfold Rn.size; rw [if_neg h1, if_neg (by omega), if_neg (by omega), if_neg (by omega)]
    rw [e]
    have h2' : ¬ (194 : Int) ≤ x := by omega
    have h3' : ¬ (224 : Int) ≤ x := by omega
    have h4' : ¬ (240 : Int) ≤ x := by omega
    go_enter Try.func35, Try.ntmps35
    go_wp2
    go_ret
    exact ⟨rfl, rfl⟩
  have h2' : (194 : Int) ≤ x := by omega
  by_cases h3 : x ≤ 223
  · have e : Rn.size x = 2 := by unfold Rn.size; rw [if_neg h1, if_pos (by omega)]
    rw [e]
    have h3' : (x : Int) ≤ 223 := by omega
    go_enter Try.func35, Try.ntmps35
    go_wp2
    go_ret
    exact ⟨rfl, rfl⟩
  have h3' : ¬ (x : Int) ≤ 223 := by omega
  have h3'' : (224 : Int) ≤ x := by omega
  by_cases h4 : x ≤ 239
  · have e : Rn.size x = 3 := by unfold Rn.size; rw [if_neg h1, if_neg (by omega), if_pos (by omega)]
    rw [e]
    have h4' : (x : Int) ≤ 239 := by omega
    go_enter Try.func35, Try.ntmps35
    go_wp2
    go_ret
    exact ⟨rfl, rfl⟩
  have h4' : ¬ (x : Int) ≤ 239 := by omega
  have h4'' : (240 : Int) ≤ x := by omega
  by_cases h5 : x ≤ 244
  · have e : Rn.size x = 4 := by unfold Rn.size; rw [if_neg h1, if_neg (by omega), if_neg (by omega), if_pos (by omega)]
    rw [e]
    have h5' : (x : Int) ≤ 244 := by omega
    go_enter Try.func35, Try.ntmps35
    go_wp2
    go_ret
    exact ⟨rfl, rfl⟩
  · have e : Rn.size x = 0 := by unfold Rn.size; rw [if_neg h1, if_neg (by omega), if_neg (by omega), if_neg (by omega)]
    rw [e]
    have h5' : ¬ (x : Int) ≤ 244 := by omega
    go_enter Try.func35, Try.ntmps35
    go_wp2
    go_ret
    exact ⟨rfl, rfl⟩

theorem ret_bool' {a b : Bool} (h : a = b) : Ending.returned (.bool a) = .returned (.bool b) := by rw [h]
/-- can y be the second byte behind x? -/
def goesB (x y : Nat) : Bool := decide (Rn.lo x ≤ y ∧ y ≤ Rn.hi x)
set_option maxHeartbeats 1000000 in
theorem goes_of (x y l h : Nat) (w : World) (hl : Rn.lo x = l) (hh : Rn.hi x = h)
    (hx : (x = 224 ∧ l = 160 ∧ h = 191) ∨ (x = 237 ∧ l = 128 ∧ h = 159) ∨ (x = 240 ∧ l = 144 ∧ h = 191) ∨ (x = 244 ∧ l = 128 ∧ h = 143) ∨ (x ≠ 224 ∧ x ≠ 237 ∧ x ≠ 240 ∧ x ≠ 244 ∧ l = 128 ∧ h = 191)) :
    Calls Try.prog 36 #[.int .u8 x, .int .u8 y] w fun e w' => e = .returned (.bool (goesB x y)) ∧ w' = w := by
  unfold goesB
  rw [hl, hh]
  clear hl hh
  have x1 : x ≠ 224 → ((x : Int) == 224) = false := fun h => by simp; omega
  have x2 : x ≠ 237 → ((x : Int) == 237) = false := fun h => by simp; omega
  have x3 : x ≠ 240 → ((x : Int) == 240) = false := fun h => by simp; omega
  have x4 : x ≠ 244 → ((x : Int) == 244) = false := fun h => by simp; omega
  rcases hx with ⟨rfl, rfl, rfl⟩ | ⟨rfl, rfl, rfl⟩ | ⟨rfl, rfl, rfl⟩ | ⟨rfl, rfl, rfl⟩ | ⟨a1, a2, a3, a4, rfl, rfl⟩
  all_goals (try (have y1 := x1 (by omega))) <;> (try (have y2 := x2 (by omega))) <;> (try (have y3 := x3 (by omega))) <;> (try (have y4 := x4 (by omega)))
  all_goals
    clear x1 x2 x3 x4
    go_enter Try.func36, Try.ntmps36
    go_wp2
    all_goals
      go_ret
      refine ⟨ret_bool' ?_, rfl⟩
      rw [Bool.eq_iff_iff]
      simp
      try omega
theorem goes_any (x y : Nat) (w : World) :
    Calls Try.prog 36 #[.int .u8 x, .int .u8 y] w fun e w' => e = .returned (.bool (goesB x y)) ∧ w' = w :=
  goes_of x y _ _ w rfl rfl (by unfold Rn.lo Rn.hi; repeat' split
                                all_goals omega)

namespace Rn
theorem lo_ge (x : Nat) : 128 ≤ lo x := by unfold lo; repeat' split
                                           all_goals omega
theorem hi_le (x : Nat) : hi x ≤ 191 := by unfold hi; repeat' split
                                           all_goals omega
/-- the front goes on past k bytes just where the next byte fits -/
theorem fk_step (f : Nat → Nat) (n k : Nat) (h1 : 1 ≤ k) (h2 : k ≤ fk f n) (h3 : k < size (f 0)) (h4 : k < n) :
    k < fk f n ↔ (k = 1 → lo (f 0) ≤ f 1 ∧ f 1 ≤ hi (f 0)) ∧ 128 ≤ f k ∧ f k ≤ 191 := by
  have a := lo_ge (f 0)
  have b := hi_le (f 0)
  have c := size_le (f 0)
  have hk : k = 1 ∨ k = 2 ∨ k = 3 := by omega
  rcases hk with rfl | rfl | rfl
  all_goals
    unfold fk len at h2 ⊢
    revert h2
    repeat' split
    all_goals omega
end Rn

set_option maxRecDepth 100000 in
set_option maxHeartbeats 2000000 in
/-- Front, at a place of the bytes -/
theorem front_in (f : Nat → Nat) (n b off cap a : Nat) (w : World) (ha : a < n) (hn : n ≤ 4611686018427387904) (hp : Bytes w b off n f) :
    Calls Try.prog 33 #[.slice (some ⟨b, off, none⟩) n cap, .int .i64 a] w fun e w' => e = .returned (.tuple #[.int .i64 (Rn.fk (Rn.off f a) (n - a)), .int .i64 (Rn.fs (Rn.off f a) (n - a))]) ∧ w' = w := by
  have hs : Rn.fs (Rn.off f a) (n - a) = Rn.size (f a) := by unfold Rn.fs; rw [if_neg (by omega)]; rfl
  have h0 : ¬ (n : Int) ≤ a := by omega
  have h0' : (a : Int) < n := by omega
  have c0 := hp a ha
  rw [hs]
  by_cases hz : Rn.size (f a) = 0
  · have e1 : Rn.fk (Rn.off f a) (n - a) = 0 := Rn.fk_zero _ _ hz
    rw [e1]
    have cs := refSize_any (f a) w
    rw [hz] at cs ⊢
    clear hp hs e1 hz
    go_enter Try.func33, Try.ntmps33
    go_wp2_with fail
    refine cs.mono ?_
    rintro e w1 ⟨rfl, rfl⟩
    go_wp2_with fail
    go_ret2
    exact ⟨rfl, rfl⟩
  · have cs := refSize_any (f a) w
    have hsl := Rn.size_le (f a)
    have hz2 : ((Rn.size (f a) : Int) == 0) = false := by simp; omega
    have hkp : 0 < Rn.fk (Rn.off f a) (n - a) := Rn.fk_pos _ _ (by rw [hs]; omega)
    have hkn := Rn.fk_le (Rn.off f a) (n - a)
    have hks := Rn.fk_le_fs (Rn.off f a) (n - a)
    rw [hs] at hks
    have hst := fun k h1 h2 h3 h4 => Rn.fk_step (Rn.off f a) (n - a) k h1 h2 h3 h4
    have hcell : ∀ k, k < n - a → w.cell? ⟨b, off + (a + k), none⟩ = some (.int .u8 (f (a + k))) := fun k hk => hp (a + k) (by omega)
    have hof : ∀ k, Rn.off f a k = f (a + k) := fun _ => rfl
    simp only [hof, Nat.add_zero] at hst
    clear hp hs hof
    go_enter Try.func33, Try.ntmps33
    go_wp2_with fail
    refine cs.mono ?_
    rintro e w1 ⟨rfl, rfl⟩
    clear cs
    go_wp2_with fail
    go_loop [7] (fun t => ∃ k : Nat, t = .int .i64 k ∧ 1 ≤ k ∧ k ≤ Rn.fk (Rn.off f a) (n - a)) (fun t => n - (RowKit.intOf t).toNat)
    case atStart => exact ⟨1, rfl, by omega, hkp⟩
    case round =>
      obtain ⟨k, rfl, hk1, hk2⟩ := hrel
      have hofk : Rn.off f a 1 = f (a + 1) := rfl
      generalize hq : Rn.fk (Rn.off f a) (n - a) = q at *
      generalize hz' : Rn.size (f a) = z at *
      have HQ := hide' hq
      have HZ := hide' hz'
      clear hq hz' hz hofk
      by_cases ht1 : k < z
      · have g1 : (k : Int) < z := by omega
        have g1' : decide ((k : Int) < z) = true := by simp; omega
        by_cases ht2 : a + k < n
        · have g2 : (a : Int) + k < n := by omega
          have st := hst k hk1 hk2 ht1 (by omega)
          have ck := hcell k (by omega)
          have hin : (0 : Int) ≤ (a : Int) + k := by omega
          have eN : ((a : Int) + k).toNat = a + k := by omega
          clear hst hcell
          by_cases hgo : k < q
          · obtain ⟨s1, s2, s3⟩ := st.1 hgo
            have b1 : ¬ ((f (a + k) : Int) < 128) := by omega
            have b2 : ¬ (191 < (f (a + k) : Int)) := by omega
            by_cases hk : k = 1
            · have hk' : ((k : Int) == 1) = true := by simp; omega
              have cg := fun W => goes_any (f a) (f (a + k)) W
              have gb : goesB (f a) (f (a + k)) = true := by unfold goesB; rw [decide_eq_true_eq, hk]; exact s1 hk
              rw [gb] at cg
              clear st s1 gb hk
              go_wp2_with fail
              refine (cg _).mono ?_
              rintro e w2 ⟨rfl, rfl⟩
              go_wp2_with fail
              exact ⟨⟨k + 1, by go_num, by omega, by omega⟩, by simp [RowKit.intOf]; omega⟩
            · have hk' : ((k : Int) == 1) = false := by simp; omega
              clear st s1
              go_wp2_with fail
              exact ⟨⟨k + 1, by go_num, by omega, by omega⟩, by simp [RowKit.intOf]; omega⟩
          · obtain rfl : k = q := by omega
            have hbad : (k = 1 ∧ goesB (f a) (f (a + k)) = false) ∨ (k ≠ 1 ∨ goesB (f a) (f (a + k)) = true) ∧ (f (a + k) < 128 ∨ 191 < f (a + k)) := by
              by_cases hk : k = 1
              · cases hg : goesB (f a) (f (a + k))
                · exact .inl ⟨hk, rfl⟩
                · refine .inr ⟨.inr rfl, ?_⟩
                  unfold goesB at hg
                  rw [decide_eq_true_eq, hk] at hg
                  have : ¬ (128 ≤ f (a + k) ∧ f (a + k) ≤ 191) := fun h => hgo (st.2 ⟨fun _ => hg, h⟩)
                  omega
              · refine .inr ⟨.inl hk, ?_⟩
                have : ¬ (128 ≤ f (a + k) ∧ f (a + k) ≤ 191) := fun h => hgo (st.2 ⟨fun h2 => absurd h2 hk, h⟩)
                omega
            clear st
            have cg := fun W => goes_any (f a) (f (a + k)) W
            rcases hbad with ⟨hk, hg⟩ | ⟨hk, hy⟩
            · have hk' : ((k : Int) == 1) = true := by simp; omega
              rw [hg] at cg
              clear hk hg
              go_wp2_with fail
              refine (cg _).mono ?_
              rintro e w2 ⟨rfl, rfl⟩
              go_wp2_with fail
              go_ret2
              exact ⟨by rw [HQ.out, HZ.out]; rfl, rfl⟩
            · by_cases hk1' : k = 1
              · have hg : goesB (f a) (f (a + k)) = true := by
                  rcases hk with h | h
                  · exact absurd hk1' h
                  · exact h
                have hk' : ((k : Int) == 1) = true := by simp; omega
                rw [hg] at cg
                clear hk hg hk1'
                rcases hy with hy | hy
                · have b1 : (f (a + k) : Int) < 128 := by omega
                  go_wp2_with fail
                  refine (cg _).mono ?_
                  rintro e w2 ⟨rfl, rfl⟩
                  go_wp2_with fail
                  go_ret2
                  exact ⟨by rw [HQ.out, HZ.out]; rfl, rfl⟩
                · have b1 : ¬ (f (a + k) : Int) < 128 := by omega
                  have b2 : 191 < (f (a + k) : Int) := by omega
                  go_wp2_with fail
                  refine (cg _).mono ?_
                  rintro e w2 ⟨rfl, rfl⟩
                  go_wp2_with fail
                  go_ret2
                  exact ⟨by rw [HQ.out, HZ.out]; rfl, rfl⟩
              · have hk' : ((k : Int) == 1) = false := by simp; omega
                clear hk cg
                rcases hy with hy | hy
                · have b1 : (f (a + k) : Int) < 128 := by omega
                  go_wp2_with fail
                  go_ret2
                  exact ⟨by rw [HQ.out, HZ.out]; rfl, rfl⟩
                · have b1 : ¬ (f (a + k) : Int) < 128 := by omega
                  have b2 : 191 < (f (a + k) : Int) := by omega
                  go_wp2_with fail
                  go_ret2
                  exact ⟨by rw [HQ.out, HZ.out]; rfl, rfl⟩
        · have g2 : ¬ ((a : Int) + k < n) := by omega
          obtain rfl : k = q := by omega
          clear hst hcell
          go_wp2_with fail
          go_ret2
          exact ⟨by rw [HQ.out, HZ.out]; rfl, rfl⟩
      · have g1 : ¬ ((k : Int) < z) := by omega
        have g1' : decide ((k : Int) < z) = false := by simp; omega
        obtain rfl : k = q := by omega
        clear hst hcell
        go_wp2_with fail
        go_ret2
        exact ⟨by rw [HQ.out, HZ.out]; rfl, rfl⟩
end Go.Proofs.Ytgbldbohadacmaa
/-
  THE WALK over gimletref01.value, of a whole character's bytes.
-/
namespace Go.Proofs.Ytgbldbohadacmaa
open Go.RowKit Go.Lib

namespace Rn
/-- the value of the first k bytes -/
def pv (f : Nat → Nat) (base : Int) : Nat → Int
  | 0 => 0
  | 1 => f 0 - base
  | k + 2 => 64 * pv f base (k + 1) + f (k + 1) - 128
theorem pv_succ (f : Nat → Nat) (base : Int) {k : Nat} (hk : 1 ≤ k) : pv f base (k + 1) = 64 * pv f base k + f k - 128 := by
  obtain ⟨j, rfl⟩ : ∃ j, k = j + 1 := ⟨k - 1, by omega⟩
  rfl
/-- what is known of the bytes of a whole character -/
inductive Whl (f : Nat → Nat) (n : Nat) : Prop
  | one (hn : n = 1) (h : fv f = f 0)
  | two (hn : n = 2) (h0 : 194 ≤ f 0) (h0' : f 0 ≤ 223) (h1 : 128 ≤ f 1) (h1' : f 1 ≤ 191) (h : (fv f : Int) = pv f 192 2)
  | three (hn : n = 3) (h0 : 224 ≤ f 0) (h0' : f 0 ≤ 239) (h1 : 128 ≤ f 1) (h1' : f 1 ≤ 191) (h2 : 128 ≤ f 2) (h2' : f 2 ≤ 191) (h : (fv f : Int) = pv f 224 3)
  | four (hn : n = 4) (h0 : 240 ≤ f 0) (h0' : f 0 ≤ 244) (h1 : 128 ≤ f 1) (h1' : f 1 ≤ 191) (h2 : 128 ≤ f 2) (h2' : f 2 ≤ 191) (h3 : 128 ≤ f 3) (h3' : f 3 ≤ 191) (h : (fv f : Int) = pv f 240 4)
theorem whl_of {f : Nat → Nat} {n : Nat} (h : whole f n = true) (hs : fs f n = n) : Whl f n := by
  simp only [whole, decide_eq_true_eq] at h
  have hn : ¬ n = 0 := by omega
  have e0 : fs f n = size (f 0) := by unfold fs; rw [if_neg hn]
  have hk : fk f n = n := by omega
  have hz : size (f 0) = n := by omega
  have a := lo_ge (f 0)
  have b := hi_le (f 0)
  unfold fk at hk
  rcases size_cases (f 0) with ⟨e, c⟩ | ⟨e, c, d, _⟩ | ⟨e, c, d, _⟩ | ⟨e, c, d, _⟩ | ⟨e, c⟩
  · exact .one (by omega) (by simp [fv, val, e])
  · obtain rfl : n = 2 := by omega
    have := (len2 e).1 hk
    refine .two rfl c d (by omega) (by omega) ?_
    simp only [fv, val, e, pv, Nat.reduceAdd, Nat.reduceEqDiff, if_false, if_true]
    omega
  · obtain rfl : n = 3 := by omega
    have := (len3 e).1 hk
    refine .three rfl c d (by omega) (by omega) (by omega) (by omega) ?_
    simp only [fv, val, e, pv, Nat.reduceAdd, Nat.reduceEqDiff, if_false, if_true]
    omega
  · obtain rfl : n = 4 := by omega
    have := (len4 e).1 hk
    refine .four rfl c d (by omega) (by omega) (by omega) (by omega) (by omega) (by omega) ?_
    simp only [fv, val, e, pv, Nat.reduceAdd, Nat.reduceEqDiff, if_false]
    omega
  · omega
/-- a whole character, alone -/
theorem whole_self {f : Nat → Nat} {n : Nat} (h : whole f n = true) : whole f (fs f n) = true ∧ fs f (fs f n) = fs f n := by
  simp only [whole, decide_eq_true_eq] at h
  have hle := fk_le f n
  have hn : ¬ n = 0 := by
    intro e
    subst e
    simp [fs] at h
  have e0 : fs f n = size (f 0) := by unfold fs; rw [if_neg hn]
  have e1 : fs f (fs f n) = size (f 0) := by rw [e0]; unfold fs; rw [if_neg (by omega)]
  have e2 := fk_min f (m := fs f n) (n := n) (by omega) (by omega)
  refine ⟨?_, by omega⟩
  simp only [whole, decide_eq_true_eq]
  omega
theorem pv_bound {f : Nat → Nat} {base : Int} {n : Nat} (hn : n ≤ 4) (h0 : base ≤ f 0) (h0' : (f 0 : Int) ≤ base + 31) (h : ∀ j, 1 ≤ j → j < n → 128 ≤ f j ∧ f j ≤ 191) {k : Nat} (hk : 1 ≤ k) (hkn : k ≤ n) : 0 ≤ pv f base k ∧ pv f base k ≤ 8388607 := by
  have : k = 1 ∨ k = 2 ∨ k = 3 ∨ k = 4 := by omega
  have g1 := fun g => h 1 (by omega) g
  have g2 := fun g => h 2 (by omega) g
  have g3 := fun g => h 3 (by omega) g
  rcases this with rfl | rfl | rfl | rfl
  · simp only [pv]; omega
  · have := g1 (by omega); simp only [pv, Nat.reduceAdd]; omega
  · have := g1 (by omega); have := g2 (by omega); simp only [pv, Nat.reduceAdd]; omega
  · have := g1 (by omega); have := g2 (by omega); have := g3 (by omega); simp only [pv, Nat.reduceAdd]; omega
end Rn

set_option maxRecDepth 100000 in
set_option maxHeartbeats 2000000 in
theorem value_loop (f : Nat → Nat) (n b off cap : Nat) (base : Int) (w : World) (hn : 2 ≤ n) (hn4 : n ≤ 4) (hb : (n = 2 ∧ base = 192) ∨ (n = 3 ∧ base = 224) ∨ (n = 4 ∧ base = 240))
    (h0 : base ≤ f 0) (h0' : (f 0 : Int) ≤ base + 31) (hj : ∀ j, 1 ≤ j → j < n → 128 ≤ f j ∧ f j ≤ 191) (hp : Bytes w b off n f) :
    Calls Try.prog 34 #[.slice (some ⟨b, off, none⟩) n cap] w fun e w' => e = .returned (.int .i64 (Rn.pv f base n)) ∧ w' = w := by
  have c0 : w.cell? ⟨b, off, none⟩ = some (.int .u8 (f 0)) := hp 0 (by omega)
  have hz : (0 : Int) < n := by omega
  have hcell : ∀ k, k < n → w.cell? ⟨b, off + k, none⟩ = some (.int .u8 (f k)) := hp
  have e1 : ((n : Int) == 1) = false := by simp; omega
  have hbd := fun k h1 h2 => Rn.pv_bound hn4 h0 h0' hj (k := k) h1 h2
  have hb0 : 0 ≤ base ∧ base ≤ 240 := by omega
  clear hp
  rcases hb with ⟨hnn, rfl⟩ | ⟨hnn, rfl⟩ | ⟨hnn, rfl⟩
  all_goals
    have e2 : ((n : Int) == 2) = true ∨ ((n : Int) == 2) = false := by cases ((n : Int) == 2) <;> simp
    have e2' : n = 2 → ((n : Int) == 2) = true := fun h => by simp; omega
    have e2'' : n ≠ 2 → ((n : Int) == 2) = false := fun h => by simp; omega
    have e3' : n = 3 → ((n : Int) == 3) = true := fun h => by simp; omega
    have e3'' : n ≠ 3 → ((n : Int) == 3) = false := fun h => by simp; omega
    clear e2
    first
      | (have q2 := e2' hnn)
      | (have q2 := e2'' (by omega); first | (have q3 := e3' hnn) | (have q3 := e3'' (by omega)))
    have HN := hide' hnn
    clear hnn e2' e2'' e3' e3''
    go_enter Try.func34, Try.ntmps34
    go_wp2
    go_loop [4, 5] (fun r i => ∃ k : Nat, i = .int .i64 k ∧ 1 ≤ k ∧ k ≤ n ∧ r = .int .i64 (Rn.pv f _ k)) (fun _ i => n - (RowKit.intOf i).toNat)
    case atStart => exact ⟨1, rfl, by omega, by omega, rfl⟩
    case round =>
      obtain ⟨k, rfl, hk1, hk2, rfl⟩ := hrel
      have hbk := hbd k hk1 hk2
      have hbk1 := hbk.1
      have hbk2 := hbk.2
      by_cases hlt : k < n
      · have g1 : (k : Int) < n := by omega
        have ck := hcell k hlt
        obtain ⟨y1, y2⟩ := hj k hk1 hlt
        clear hcell hbd hj hbk
        go_wp2
        exact ⟨⟨k + 1, by go_num, by omega, by omega, by rw [Rn.pv_succ f _ hk1]⟩, by simp [RowKit.intOf]; omega⟩
      · have g1 : ¬ (k : Int) < n := by omega
        obtain rfl : k = n := by omega
        clear hcell hbd hj hbk
        go_wp2
        go_ret
        exact ⟨rfl, rfl⟩

theorem value_any (f : Nat → Nat) (n b off cap : Nat) (w : World) (hf : ∀ j, f j < 256) (hw : Rn.whole f n = true) (hs : Rn.fs f n = n) (hp : Bytes w b off n f) :
    Calls Try.prog 34 #[.slice (some ⟨b, off, none⟩) n cap] w fun e w' => e = .returned (.int .i64 (Rn.fv f)) ∧ w' = w := by
  rcases Rn.whl_of hw hs with ⟨rfl, h⟩ | ⟨rfl, h0, h0', h1, h1', h⟩ | ⟨rfl, h0, h0', h1, h1', h2, h2', h⟩ | ⟨rfl, h0, h0', h1, h1', h2, h2', h3, h3', h⟩
  · rw [h]
    have c0 : w.cell? ⟨b, off, none⟩ = some (.int .u8 (f 0)) := hp 0 (by omega)
    have hf0 := hf 0
    clear hp h hw hs
    go_enter Try.func34, Try.ntmps34
    go_wp2
    go_ret
    exact ⟨rfl, rfl⟩
  · rw [h]
    exact value_loop f 2 b off cap 192 w (by omega) (by omega) (by omega) (by omega) (by omega) (fun j g1 g2 => by
      have : j = 1 := by omega
      rcases this with rfl
      omega) hp
  · rw [h]
    exact value_loop f 3 b off cap 224 w (by omega) (by omega) (by omega) (by omega) (by omega) (fun j g1 g2 => by
      have : j = 1 ∨ j = 2 := by omega
      rcases this with rfl | rfl <;> omega) hp
  · rw [h]
    exact value_loop f 4 b off cap 240 w (by omega) (by omega) (by omega) (by omega) (by omega) (fun j g1 g2 => by
      have : j = 1 ∨ j = 2 ∨ j = 3 := by omega
      rcases this with rfl | rfl | rfl <;> omega) hp
end Go.Proofs.Ytgbldbohadacmaa
/-
  WALKS over the document's Next and Good.
-/
namespace Go.Proofs.Ytgbldbohadacmaa
open Go.RowKit Go.Lib

end Go.Proofs.Ytgbldbohadacmaa
/-
  THE WALK over the document's Chars: each character's place, rune and width.
-/
namespace Go.Proofs.Ytgbldbohadacmaa
open Go.RowKit Go.Lib

namespace Rn
/-- place, rune and width of the characters from a place on, by at most so many -/
def chlFrom (f : Nat → Nat) (n : Nat) : Nat → Nat → List (Nat × Nat × Nat)
  | 0, _ => []
  | fuel + 1, p => if p < n then (p, (dec (off f p) (n - p)).1, (dec (off f p) (n - p)).2) :: chlFrom f n fuel (p + (dec (off f p) (n - p)).2) else []
def chl (f : Nat → Nat) (n : Nat) : List (Nat × Nat × Nat) := chlFrom f n n 0
theorem chlFrom_end (f : Nat → Nat) (n fuel p : Nat) (h : ¬ p < n) : chlFrom f n fuel p = [] := by
  cases fuel with
  | zero => rfl
  | succ m => unfold chlFrom; rw [if_neg h]
end Rn
/-- a character's three cells -/
def chOne (x : Nat × Nat × Nat) : List Value := [.int .i64 x.1, .int .i64 x.2.1, .int .i64 x.2.2]
def chCells (l : List (Nat × Nat × Nat)) : List Value := l.flatMap chOne
theorem chCells_snoc (l : List (Nat × Nat × Nat)) (x : Nat × Nat × Nat) : chCells (l ++ [x]) = chCells l ++ chOne x := by simp [chCells]
theorem chCells_length (l : List (Nat × Nat × Nat)) : (chCells l).length = 3 * l.length := by
  induction l with
  | nil => rfl
  | cons a l ih =>
    have : chCells (a :: l) = chOne a ++ chCells l := by simp [chCells]
    rw [this, List.length_append, ih]
    simp [chOne]
    omega

theorem infoCh : (Try.prog.info? 64).map (fun i => (i.zero, i.size, i.bytes)) = some (some (.agg #[.int .i64 0, .int .i64 0, .int .i64 0]), 3, 24) := by kernel_rfl
theorem ch_news (W : World) (a r d : Nat) : ∀ j u, ([.int .i64 a, .int .i64 r, .int .i64 d] : List Value)[j]? = some u → (W.alloc (.cells #[.int .i64 a, .int .i64 r, .int .i64 d] 64)).cell? (Addr.add ⟨W.heap.size, 0, none⟩ j) = some u := by
  intro j u hj
  match j, hj with
  | 0, hj => simp at hj; subst hj; simp [Addr.add]
  | 1, hj => simp at hj; subst hj; simp [Addr.add]
  | 2, hj => simp at hj; subst hj; simp [Addr.add]
  | (j + 3), hj => simp at hj
theorem ch_cell (a r d : Nat) : ∀ u ∈ ([.int .i64 a, .int .i64 r, .int .i64 d] : List Value), u.oneCell' = true := by
  intro u hu
  simp at hu
  rcases hu with rfl | rfl | rfl <;> rfl

set_option maxRecDepth 100000 in
set_option maxHeartbeats 2000000 in
theorem chars_any (f : Nat → Nat) (pa : Option Addr) (n cap : Nat) (w : World) (hf : ∀ j, f j < 256) (hc : n ≤ cap) (_hm : cap ≤ maxLen) (hbig : n ≤ 1099511627776) (hp : n = 0 ∨ ∃ b o, pa = some ⟨b, o, none⟩ ∧ Bytes w b o n f) :
    Calls Try.prog 26 #[.slice pa n cap] w fun e w' => ∃ v, e = .returned v ∧ w'.ownsRow w.heap.size 64 3 v (Rn.chl f n).length (chCells (Rn.chl f n)) ∧ (Rn.chl f n).length ≤ n ∧ Below w.heap.size w w' := by
  have hm : cap ≤ 9223372036854775807 := by unfold maxLen at _hm; omega
  obtain ⟨i0, hi, hz0, hz1, hz2⟩ := info_parts infoCh
  go_enter Try.func26, Try.ntmps26
  go_wp2
  go_loopw [3, 4] (fun out i wr => ∃ (k fuel : Nat) (pre : List (Nat × Nat × Nat)), i = .int .i64 k ∧ wr.ownsRow w.heap.size 64 3 out pre.length (chCells pre) ∧ pre ++ Rn.chlFrom f n fuel k = Rn.chl f n ∧ n ≤ k + fuel ∧ k ≤ n ∧ pre.length ≤ k ∧ Below w.heap.size w wr) (fun _ i _ => n - (RowKit.intOf i).toNat)
  case atStart => exact ⟨0, n, [], rfl, World.ownsRow_nil _ _ _ _, rfl, by omega, by omega, by simp, Below.refl _ _⟩
  case round =>
    obtain ⟨k, fuel, pre, rfl, hown, hpre, hfu, hk, hpl, hB⟩ := hrel
    by_cases hlt : k < n
    · have g1 : (k : Int) < n := by omega
      rcases hp with h0 | ⟨b, o, rfl, hby0⟩
      · omega
      obtain ⟨m, rfl⟩ : ∃ m, fuel = m + 1 := ⟨fuel - 1, by omega⟩
      have hby := hby0.below hB (Nat.le_refl _)
      have cF := front_in f n b o cap k wr hlt (by omega) hby
      unfold Rn.chlFrom at hpre
      rw [if_pos hlt, Rn.dec_whole (Rn.off f k) (n - k) (fun _ => hf _) (show 0 < n - k by omega)] at hpre
      have hfl := Rn.fk_le (Rn.off f k) (n - k)
      have hfs := Rn.fk_le_fs (Rn.off f k) (n - k)
      have hs4 := Rn.fs_le (Rn.off f k) (n - k)
      have hbs := hB.size
      cases hwh : Rn.whole (Rn.off f k) (n - k)
      · simp only [hwh, Bool.false_eq_true, if_false] at hpre
        have hx1 : Rn.fs (Rn.off f k) (n - k) = 0 ∨ Rn.fk (Rn.off f k) (n - k) < Rn.fs (Rn.off f k) (n - k) := by
          simp only [Rn.whole, decide_eq_false_iff_not] at hwh
          omega
        have HP := hide' hpre
        clear hpre hwh hby hby0
        generalize Rn.fk (Rn.off f k) (n - k) = q at *
        generalize Rn.fs (Rn.off f k) (n - k) = z at *
        have hsp : z = 0 ∨ (0 < z ∧ q < z) := by omega
        rcases hsp with hz | ⟨hz, hqz⟩
        · subst hz
          go_wp2_with fail
          refine cF.mono ?_
          rintro e w1 ⟨rfl, rfl⟩
          go_wp2_with (at_builtin; refine wpList_append_own _ rfl _ _ 60 rfl w.heap.size 64 i0 (.agg #[.int .i64 0, .int .i64 0, .int .i64 0]) 3 24 Try.underlying60 hi hz0 hz1 hz2 rfl (by decide) _ pre.length (chCells pre) rfl (hown.alloc _) ⟨w1.heap.size, 0, none⟩ 1 1 [.int .i64 k, .int .i64 (65533 : Nat), .int .i64 (1 : Nat)] rfl rfl ?c1 ?c2 ?c3 ?c4 ?c5 ?_)
          case c1 => exact ch_news _ k 65533 1
          case c2 => exact ch_cell k 65533 1
          case c3 => unfold maxLen; omega
          case c4 => omega
          case c5 => simp; omega
          intro v' w3 hown' hgrow _
          have hB3 : Below w.heap.size w w3 := (hB.alloc hbs _).grown hgrow (by simp; omega) (fun j hj => (hown.lt j hj).1)
          have hown3 : w3.ownsRow w.heap.size 64 3 v' (pre ++ [(k, 65533, 1)]).length (chCells (pre ++ [(k, 65533, 1)])) := by rw [chCells_snoc, List.length_append]; exact hown'
          clear hown hown' hgrow hB
          go_wp2_with fail
          go_roundw
          case rel => exact ⟨k + 1, m, pre ++ [(k, 65533, 1)], by go_num, hown3, by rw [List.append_assoc]; exact HP.out, by omega, by omega, by simp; omega, hB3⟩
          case measure => simp [RowKit.intOf]; omega
        · have e1 : (0 : Int) < z := by omega
          have e2 : ((q : Int) == z) = false := by simp; omega
          go_wp2_with fail
          refine cF.mono ?_
          rintro e w1 ⟨rfl, rfl⟩
          go_wp2_with (at_builtin; refine wpList_append_own _ rfl _ _ 60 rfl w.heap.size 64 i0 (.agg #[.int .i64 0, .int .i64 0, .int .i64 0]) 3 24 Try.underlying60 hi hz0 hz1 hz2 rfl (by decide) _ pre.length (chCells pre) rfl (hown.alloc _) ⟨w1.heap.size, 0, none⟩ 1 1 [.int .i64 k, .int .i64 (65533 : Nat), .int .i64 (1 : Nat)] rfl rfl ?c1 ?c2 ?c3 ?c4 ?c5 ?_)
          case c1 => exact ch_news _ k 65533 1
          case c2 => exact ch_cell k 65533 1
          case c3 => unfold maxLen; omega
          case c4 => omega
          case c5 => simp; omega
          intro v' w3 hown' hgrow _
          have hB3 : Below w.heap.size w w3 := (hB.alloc hbs _).grown hgrow (by simp; omega) (fun j hj => (hown.lt j hj).1)
          have hown3 : w3.ownsRow w.heap.size 64 3 v' (pre ++ [(k, 65533, 1)]).length (chCells (pre ++ [(k, 65533, 1)])) := by rw [chCells_snoc, List.length_append]; exact hown'
          clear hown hown' hgrow hB
          go_wp2_with fail
          go_roundw
          case rel => exact ⟨k + 1, m, pre ++ [(k, 65533, 1)], by go_num, hown3, by rw [List.append_assoc]; exact HP.out, by omega, by omega, by simp; omega, hB3⟩
          case measure => simp [RowKit.intOf]; omega
      · simp only [hwh, if_true] at hpre
        have hww := Rn.whole_self hwh
        simp only [Rn.whole, decide_eq_true_eq] at hwh
        rw [hwh.2] at cF
        have cV := value_any (Rn.off f k) (Rn.fs (Rn.off f k) (n - k)) b (o + k) (cap - k) wr (fun _ => hf _) hww.1 hww.2 ((hby.off (by omega)).le (by omega))
        have HP := hide' hpre
        clear hpre hby hby0 hww
        generalize Rn.fs (Rn.off f k) (n - k) = z at *
        generalize Rn.fv (Rn.off f k) = r at *
        have e1 : (0 : Int) < z := by omega
        have e2 : ((z : Int) == z) = true := by simp
        have hzp := hwh.1
        have hzn : k + z ≤ n := by omega
        go_wp2_with fail
        refine cF.mono ?_
        rintro e w1 ⟨rfl, rfl⟩
        go_wp2_with fail
        refine cV.mono ?_
        rintro e w2 ⟨rfl, rfl⟩
        go_wp2_with (at_builtin; refine wpList_append_own _ rfl _ _ 60 rfl w.heap.size 64 i0 (.agg #[.int .i64 0, .int .i64 0, .int .i64 0]) 3 24 Try.underlying60 hi hz0 hz1 hz2 rfl (by decide) _ pre.length (chCells pre) rfl (hown.alloc _) ⟨w2.heap.size, 0, none⟩ 1 1 [.int .i64 k, .int .i64 (r : Nat), .int .i64 (z : Nat)] rfl rfl ?c1 ?c2 ?c3 ?c4 ?c5 ?_)
        case c1 => exact ch_news _ k r z
        case c2 => exact ch_cell k r z
        case c3 => unfold maxLen; omega
        case c4 => omega
        case c5 => simp; omega
        intro v' w3 hown' hgrow _
        have hB3 : Below w.heap.size w w3 := (hB.alloc hbs _).grown hgrow (by simp; omega) (fun j hj => (hown.lt j hj).1)
        have hown3 : w3.ownsRow w.heap.size 64 3 v' (pre ++ [(k, r, z)]).length (chCells (pre ++ [(k, r, z)])) := by rw [chCells_snoc, List.length_append]; exact hown'
        clear hown hown' hgrow hB
        go_wp2_with fail
        go_roundw
        case rel => exact ⟨k + z, m, pre ++ [(k, r, z)], by go_num, hown3, by rw [List.append_assoc]; exact HP.out, by omega, by omega, by simp; omega, hB3⟩
        case measure => simp [RowKit.intOf]; omega
    · have g1 : ¬ (k : Int) < n := by omega
      rw [Rn.chlFrom_end _ _ _ _ hlt, List.append_nil] at hpre
      have HP := hide' hpre
      clear hpre
      go_wp2_with fail
      go_ret
      exact ⟨_, rfl, by rw [← HP.out]; exact hown, by rw [← HP.out]; omega, hB⟩
end Go.Proofs.Ytgbldbohadacmaa
