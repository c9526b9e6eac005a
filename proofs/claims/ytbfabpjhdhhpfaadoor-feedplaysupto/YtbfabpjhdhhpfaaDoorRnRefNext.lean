/-
  WALKS over the document's Next and Good.
-/
import Derived.Test.YtbfabpjhdhhpfaaDoorRnVal
namespace Go.Proofs.YtbfabpjhdhhpfaaDoor
open Go.RowKit Go.Lib

set_option maxHeartbeats 1000000 in
theorem refNext_out (v : Option Addr) (n cap : Nat) (k : Int) (w : World) (h : k < 0 ∨ (n : Int) < k) :
    Calls Tryd.prog 52 #[.slice v n cap, .int .i64 k] w fun e w' => e = .returned (.tuple #[.int .i64 0, .int .i64 0, .int .i64 0, .int .i64 2]) ∧ w' = w := by
  rcases h with h | h
  · go_enter Tryd.func52, Tryd.ntmps52
    go_wp2
    exact bodyPost_ret (v := .tuple #[.int .i64 0, .int .i64 0, .int .i64 0, .int .i64 2]) (by simp [results, Tryd.results52, go_sem]) rfl ⟨rfl, rfl⟩
  · have h0 : ¬ k < 0 := by omega
    go_enter Tryd.func52, Tryd.ntmps52
    go_wp2
    exact bodyPost_ret (v := .tuple #[.int .i64 0, .int .i64 0, .int .i64 0, .int .i64 2]) (by simp [results, Tryd.results52, go_sem]) rfl ⟨rfl, rfl⟩
set_option maxHeartbeats 1000000 in
theorem refNext_done (v : Option Addr) (n cap : Nat) (w : World) :
    Calls Tryd.prog 52 #[.slice v n cap, .int .i64 n] w fun e w' => e = .returned (.tuple #[.int .i64 0, .int .i64 0, .int .i64 3, .int .i64 0]) ∧ w' = w := by
  have h0 : ¬ (n : Int) < 0 := by omega
  have h1 : ¬ (n : Int) < (n : Int) := by omega
  have h2 : ((n : Int) == n) = true := by simp
  go_enter Tryd.func52, Tryd.ntmps52
  go_wp2
  exact bodyPost_ret (v := .tuple #[.int .i64 0, .int .i64 0, .int .i64 3, .int .i64 0]) (by simp [results, Tryd.results52, go_sem]) rfl ⟨rfl, rfl⟩

set_option maxRecDepth 100000 in
set_option maxHeartbeats 2000000 in
theorem refNext_in (f : Nat → Nat) (n b o cap k : Nat) (w : World) (hf : ∀ j, f j < 256) (hk : k < n) (hc : n ≤ cap) (_hm : cap ≤ maxLen) (hbig : n ≤ 4611686018427387904) (hp : Bytes w b o n f) :
    Calls Tryd.prog 52 #[.slice (some ⟨b, o, none⟩) n cap, .int .i64 k] w fun e w' =>
      e = .returned (.tuple #[.int .i64 (Rn.nx (Rn.off f k) (n - k)).1, .int .i64 (Rn.nx (Rn.off f k) (n - k)).2.1, .int .i64 (Rn.nx (Rn.off f k) (n - k)).2.2, .int .i64 0]) ∧ w' = w := by
  have hm : cap ≤ 9223372036854775807 := by unfold maxLen at _hm; omega
  have h0 : ¬ (k : Int) < 0 := by omega
  have h1 : ¬ (n : Int) < (k : Int) := by omega
  have h2 : ((k : Int) == n) = false := by simp; omega
  have cF := front_in f n b o cap k w hk hbig hp
  have hfl := Rn.fk_le (Rn.off f k) (n - k)
  have hfs := Rn.fk_le_fs (Rn.off f k) (n - k)
  have hs4 := Rn.fs_le (Rn.off f k) (n - k)
  cases hwh : Rn.whole (Rn.off f k) (n - k)
  · cases hwa : Rn.waits (Rn.off f k) (n - k)
    · rw [Rn.nx_bad (by omega) hwa hwh]
      have hx1 : Rn.fs (Rn.off f k) (n - k) = 0 ∨ (Rn.fk (Rn.off f k) (n - k) ≠ Rn.fs (Rn.off f k) (n - k) ∧ Rn.fk (Rn.off f k) (n - k) ≠ n - k) := by
        simp only [Rn.whole, Rn.waits, decide_eq_false_iff_not] at hwh hwa
        omega
      generalize Rn.fk (Rn.off f k) (n - k) = q at *
      generalize Rn.fs (Rn.off f k) (n - k) = z at *
      clear hwh hwa hp
      rcases hx1 with hz | ⟨hz1, hz2⟩
      · subst hz
        go_enter Tryd.func52, Tryd.ntmps52
        go_wp2_with fail
        refine cF.mono ?_
        rintro e w1 ⟨rfl, rfl⟩
        go_wp2_with fail
        exact bodyPost_ret (v := .tuple #[.int .i64 65533, .int .i64 1, .int .i64 2, .int .i64 0]) (by simp [results, Tryd.results52, go_sem]) rfl ⟨rfl, rfl⟩
      · have e1 : ((q : Int) == z) = false := by simp; omega
        have e2 : ((k : Int) + q == n) = false := by simp; omega
        by_cases hz : z = 0
        · subst hz
          go_enter Tryd.func52, Tryd.ntmps52
          go_wp2_with fail
          refine cF.mono ?_
          rintro e w1 ⟨rfl, rfl⟩
          go_wp2_with fail
          exact bodyPost_ret (v := .tuple #[.int .i64 65533, .int .i64 1, .int .i64 2, .int .i64 0]) (by simp [results, Tryd.results52, go_sem]) rfl ⟨rfl, rfl⟩
        · have e3 : (0 : Int) < z := by omega
          go_enter Tryd.func52, Tryd.ntmps52
          go_wp2_with fail
          refine cF.mono ?_
          rintro e w1 ⟨rfl, rfl⟩
          go_wp2_with fail
          exact bodyPost_ret (v := .tuple #[.int .i64 65533, .int .i64 1, .int .i64 2, .int .i64 0]) (by simp [results, Tryd.results52, go_sem]) rfl ⟨rfl, rfl⟩
    · obtain ⟨e1, e2⟩ := Rn.nx_waits hwa
      rw [e1]
      simp only [Rn.waits, decide_eq_true_eq] at hwa
      rw [e2] at cF
      generalize Rn.fs (Rn.off f k) (n - k) = z at *
      have e3 : (0 : Int) < z := by omega
      have e4 : (((n - k : Nat) : Int) == z) = false := by simp; omega
      have e5 : ((k : Int) + ((n - k : Nat) : Int) == n) = true := by simp; omega
      clear hwh hp e1 e2
      go_enter Tryd.func52, Tryd.ntmps52
      go_wp2_with fail
      refine cF.mono ?_
      rintro e w1 ⟨rfl, rfl⟩
      go_wp2_with fail
      exact bodyPost_ret (v := .tuple #[.int .i64 0, .int .i64 (n - k : Nat), .int .i64 1, .int .i64 0]) (by simp [results, Tryd.results52, go_sem]) rfl ⟨rfl, rfl⟩
  · rw [Rn.nx_whole hwh]
    have hww := hwh
    simp only [Rn.whole, decide_eq_true_eq] at hwh
    rw [hwh.2] at cF
    have hcg : ∀ j, j < Rn.fs (Rn.off f k) (n - k) → Rn.off f k j = Rn.off f k j := fun _ _ => rfl
    have hwz : Rn.whole (Rn.off f k) (Rn.fs (Rn.off f k) (n - k)) = true ∧ Rn.fs (Rn.off f k) (Rn.fs (Rn.off f k) (n - k)) = Rn.fs (Rn.off f k) (n - k) := Rn.whole_self hww
    have cV := value_any (Rn.off f k) (Rn.fs (Rn.off f k) (n - k)) b (o + k) (cap - k) w (fun _ => hf _) hwz.1 hwz.2 ((hp.off (by omega)).le (by omega))
    generalize Rn.fs (Rn.off f k) (n - k) = z at *
    generalize Rn.fv (Rn.off f k) = v at *
    have e3 : (0 : Int) < z := by omega
    have e4 : ((z : Int) == z) = true := by simp
    clear hp hcg hwz hww
    go_enter Tryd.func52, Tryd.ntmps52
    go_wp2_with fail
    refine cF.mono ?_
    rintro e w1 ⟨rfl, rfl⟩
    go_wp2_with fail
    refine cV.mono ?_
    rintro e w2 ⟨rfl, rfl⟩
    go_wp2_with fail
    exact bodyPost_ret (v := .tuple #[.int .i64 v, .int .i64 z, .int .i64 0, .int .i64 0]) (by simp [results, Tryd.results52, go_sem]) rfl ⟨rfl, rfl⟩

end Go.Proofs.YtbfabpjhdhhpfaaDoor
