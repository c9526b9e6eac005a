/-
  THE WALK over runes.Good.
-/
import Derived.Test.YtoccedbnnafjcaaDoorRnBeg
namespace Go.Proofs.YtoccedbnnafjcaaDoor
open Go.RowKit Go.Lib
set_option maxHeartbeats 2000000 in
/-- Good AT EVERY SLICE OF BYTES THAT IS NOT nil -/
theorem good_any (f : Nat → Nat) (n b off cap : Nat) (w : World) (hT : Lib.Utf8Tabs 1 2 w) (hf : ∀ j, f j < 256) (hc : n ≤ cap) (hm : cap ≤ maxLen)
    (hp : Bytes w b off n f) :
    Calls Tryd.prog 19 #[.slice (some ⟨b, off, none⟩) n cap] w fun e w' => e = .returned (.int .i64 (Rn.good f n)) ∧ Below w.heap.size w w' := by
  have hm' : cap ≤ 9223372036854775807 := by unfold maxLen at hm; omega
  have hgl := Rn.good_le f n
  have cN : ∀ k w1, k < n → Below w.heap.size w w1 → _ := fun k w1 hk hb => next_in f n b off cap k w1 (tabs_below hT hb (Nat.le_refl _)) hf hk hc hm (hp.below hb (Nat.le_refl _))
  have cE : ∀ w1, _ := fun w1 => next_done b off n cap w1 hc hm
  have cB : ∀ k w1, k < n → Below w.heap.size w w1 → Rn.whole (Rn.off f k) (n - k) = false → _ := fun k w1 hk hb hw => beginning_any (Rn.off f k) (n - k) b (off + k) (cap - k) w1 (tabs_below hT hb (Nat.le_refl _)) (fun j => hf _) (by omega) (by omega) ((hp.below hb (Nat.le_refl _)).off (by omega)) hw
  clear hT hp
  go_enter Tryd.func19, Tryd.ntmps19
  go_wp2
  go_loopw [3] (fun i wr => ∃ (k fuel : Nat), i = .int .i64 k ∧ k ≤ n ∧ n ≤ k + fuel ∧ Rn.goodFrom f n fuel k = Rn.good f n ∧ Below w.heap.size w wr) (fun i _ => n - (RowKit.intOf i).toNat)
  case atStart => exact ⟨0, n, rfl, Nat.zero_le _, by omega, rfl, Below.refl _ _⟩
  case round =>
    obtain ⟨k, fuel, rfl, hk, hfu, hg, hb⟩ := hrel
    by_cases hlt : k < n
    · obtain ⟨m, rfl⟩ : ∃ m, fuel = m + 1 := ⟨fuel - 1, by omega⟩
      have c := cN k wr hlt hb
      unfold Rn.goodFrom at hg
      rw [if_neg (by omega)] at hg
      clear cN cE
      cases hwh : Rn.whole (Rn.off f k) (n - k)
      · simp only [hwh, Bool.false_eq_true, if_false] at hg
        have cb := fun w1 hb1 => cB k w1 hlt hb1 hwh
        clear cB
        cases hwa : Rn.waits (Rn.off f k) (n - k)
        · rw [Rn.nx_bad (by omega) hwa hwh] at c
          have HG : Hid (k + Rn.fk (Rn.off f k) (n - k) = Rn.good f n) := hg
          clear hwa hwh hg
          have hle := Rn.fk_le (Rn.off f k) (n - k)
          go_wp2_with fail
          refine c.mono ?_
          rintro e w1 ⟨rfl, hb1⟩
          go_wp2_with fail
          refine (cb w1 (hb.trans (hb1.mono hb.size))).mono ?_
          rintro e w2 ⟨rfl, hb2⟩
          go_wp2_with fail
          go_ret
          exact ⟨by rw [← HG.out]; go_num, (hb.trans (hb1.mono hb.size)).trans (hb2.mono (hb.trans (hb1.mono hb.size)).size)⟩
        · obtain ⟨e1, e2⟩ := Rn.nx_waits hwa
          rw [e1] at c
          rw [e2] at hg
          have HG : Hid (k + (n - k) = Rn.good f n) := hg
          clear hwa hwh hg e1 e2 cb
          go_wp2_with fail
          refine c.mono ?_
          rintro e w1 ⟨rfl, hb1⟩
          go_wp2_with fail
          go_roundw
          case rel => exact ⟨n, m, by go_num, Nat.le_refl _, by omega, by rw [Rn.goodFrom_end _ _ _ _ (Nat.le_refl _), ← HG.out]; omega, hb.trans (hb1.mono hb.size)⟩
          case measure => simp [RowKit.intOf]; omega
      · simp only [hwh, if_true] at hg
        rw [Rn.nx_whole hwh] at c
        have HG : Hid (Rn.goodFrom f n m (k + Rn.fs (Rn.off f k) (n - k)) = Rn.good f n) := hg
        have hle := Rn.fk_le (Rn.off f k) (n - k)
        simp only [Rn.whole, decide_eq_true_eq] at hwh
        have hpos := hwh.1
        have hle2 : Rn.fs (Rn.off f k) (n - k) ≤ n - k := by omega
        clear hg hwh cB hle
        generalize Rn.fs (Rn.off f k) (n - k) = q at *
        go_wp2_with fail
        refine c.mono ?_
        rintro e w1 ⟨rfl, hb1⟩
        go_wp2_with fail
        go_roundw
        case rel => exact ⟨k + q, m, by go_num, by omega, by omega, HG.out, hb.trans (hb1.mono hb.size)⟩
        case measure => simp [RowKit.intOf]; omega
    · obtain rfl : k = n := by omega
      rw [Rn.goodFrom_end _ _ _ _ (Nat.le_refl _)] at hg
      have HG : Hid (k = Rn.good f k) := hg
      clear hg cN cB
      go_wp2_with fail
      refine (cE wr).mono ?_
      rintro e w1 ⟨rfl, rfl⟩
      go_wp2_with fail
      go_ret
      exact ⟨by rw [← HG.out]; rfl, hb⟩
end Go.Proofs.YtoccedbnnafjcaaDoor
