/-
  THE WALK over gimletref01.value, of a whole character's bytes.
-/
import Derived.Test.YtbfabpjhdhhpfaaDoorRnRef
namespace Go.Proofs.YtbfabpjhdhhpfaaDoor
open Go.RowKit Go.Lib

namespace Rn
/-- the value of the first k bytes -/
def pv (f : Nat → Nat) (base : Int) : Nat → Int
  | 0 => 0
  | 1 => f 0 - base
  | k + 2 => 64 * pv f base (k + 1) + f (k + 1) - 128
theorem pv_succ (f : Nat → Nat) (base : Int) {k : Nat} (hk : 1 ≤ k) : pv f base (k + 1) = 64 * pv f base k + f k - 128 := by
  obtain ⟨j, rfl⟩ : ∃ j, k = j + 1 := ⟨k - 1, by omega⟩
  rfl
/-- what is known of the bytes of a whole character -/
inductive Whl (f : Nat → Nat) (n : Nat) : Prop
  | one (hn : n = 1) (h : fv f = f 0)
  | two (hn : n = 2) (h0 : 194 ≤ f 0) (h0' : f 0 ≤ 223) (h1 : 128 ≤ f 1) (h1' : f 1 ≤ 191) (h : (fv f : Int) = pv f 192 2)
  | three (hn : n = 3) (h0 : 224 ≤ f 0) (h0' : f 0 ≤ 239) (h1 : 128 ≤ f 1) (h1' : f 1 ≤ 191) (h2 : 128 ≤ f 2) (h2' : f 2 ≤ 191) (h : (fv f : Int) = pv f 224 3)
  | four (hn : n = 4) (h0 : 240 ≤ f 0) (h0' : f 0 ≤ 244) (h1 : 128 ≤ f 1) (h1' : f 1 ≤ 191) (h2 : 128 ≤ f 2) (h2' : f 2 ≤ 191) (h3 : 128 ≤ f 3) (h3' : f 3 ≤ 191) (h : (fv f : Int) = pv f 240 4)
theorem whl_of {f : Nat → Nat} {n : Nat} (h : whole f n = true) (hs : fs f n = n) : Whl f n := by
  simp only [whole, decide_eq_true_eq] at h
  have hn : ¬ n = 0 := by omega
  have e0 : fs f n = size (f 0) := by unfold fs; rw [if_neg hn]
  have hk : fk f n = n := by omega
  have hz : size (f 0) = n := by omega
  have a := lo_ge (f 0)
  have b := hi_le (f 0)
  unfold fk at hk
  rcases size_cases (f 0) with ⟨e, c⟩ | ⟨e, c, d, _⟩ | ⟨e, c, d, _⟩ | ⟨e, c, d, _⟩ | ⟨e, c⟩
  · exact .one (by omega) (by simp [fv, val, e])
  · obtain rfl : n = 2 := by omega
    have := (len2 e).1 hk
    refine .two rfl c d (by omega) (by omega) ?_
    simp only [fv, val, e, pv, Nat.reduceAdd, Nat.reduceEqDiff, if_false, if_true]
    omega
  · obtain rfl : n = 3 := by omega
    have := (len3 e).1 hk
    refine .three rfl c d (by omega) (by omega) (by omega) (by omega) ?_
    simp only [fv, val, e, pv, Nat.reduceAdd, Nat.reduceEqDiff, if_false, if_true]
    omega
  · obtain rfl : n = 4 := by omega
    have := (len4 e).1 hk
    refine .four rfl c d (by omega) (by omega) (by omega) (by omega) (by omega) (by omega) ?_
    simp only [fv, val, e, pv, Nat.reduceAdd, Nat.reduceEqDiff, if_false]
    omega
  · omega
/-- a whole character, alone -/
theorem whole_self {f : Nat → Nat} {n : Nat} (h : whole f n = true) : whole f (fs f n) = true ∧ fs f (fs f n) = fs f n := by
  simp only [whole, decide_eq_true_eq] at h
  have hle := fk_le f n
  have hn : ¬ n = 0 := by
    intro e
    subst e
    simp [fs] at h
  have e0 : fs f n = size (f 0) := by unfold fs; rw [if_neg hn]
  have e1 : fs f (fs f n) = size (f 0) := by rw [e0]; unfold fs; rw [if_neg (by omega)]
  have e2 := fk_min f (m := fs f n) (n := n) (by omega) (by omega)
  refine ⟨?_, by omega⟩
  simp only [whole, decide_eq_true_eq]
  omega
theorem pv_bound {f : Nat → Nat} {base : Int} {n : Nat} (hn : n ≤ 4) (h0 : base ≤ f 0) (h0' : (f 0 : Int) ≤ base + 31) (h : ∀ j, 1 ≤ j → j < n → 128 ≤ f j ∧ f j ≤ 191) {k : Nat} (hk : 1 ≤ k) (hkn : k ≤ n) : 0 ≤ pv f base k ∧ pv f base k ≤ 8388607 := by
  have : k = 1 ∨ k = 2 ∨ k = 3 ∨ k = 4 := by omega
  have g1 := fun g => h 1 (by omega) g
  have g2 := fun g => h 2 (by omega) g
  have g3 := fun g => h 3 (by omega) g
  rcases this with rfl | rfl | rfl | rfl
  · simp only [pv]; omega
  · have := g1 (by omega); simp only [pv, Nat.reduceAdd]; omega
  · have := g1 (by omega); have := g2 (by omega); simp only [pv, Nat.reduceAdd]; omega
  · have := g1 (by omega); have := g2 (by omega); have := g3 (by omega); simp only [pv, Nat.reduceAdd]; omega
end Rn

set_option maxRecDepth 100000 in
set_option maxHeartbeats 2000000 in
theorem value_loop (f : Nat → Nat) (n b off cap : Nat) (base : Int) (w : World) (hn : 2 ≤ n) (hn4 : n ≤ 4) (hb : (n = 2 ∧ base = 192) ∨ (n = 3 ∧ base = 224) ∨ (n = 4 ∧ base = 240))
    (h0 : base ≤ f 0) (h0' : (f 0 : Int) ≤ base + 31) (hj : ∀ j, 1 ≤ j → j < n → 128 ≤ f j ∧ f j ≤ 191) (hp : Bytes w b off n f) :
    Calls Tryd.prog 57 #[.slice (some ⟨b, off, none⟩) n cap] w fun e w' => e = .returned (.int .i64 (Rn.pv f base n)) ∧ w' = w := by
  have c0 : w.cell? ⟨b, off, none⟩ = some (.int .u8 (f 0)) := hp 0 (by omega)
  have hz : (0 : Int) < n := by omega
  have hcell : ∀ k, k < n → w.cell? ⟨b, off + k, none⟩ = some (.int .u8 (f k)) := hp
  have e1 : ((n : Int) == 1) = false := by simp; omega
  have hbd := fun k h1 h2 => Rn.pv_bound hn4 h0 h0' hj (k := k) h1 h2
  have hb0 : 0 ≤ base ∧ base ≤ 240 := by omega
  clear hp
  rcases hb with ⟨hnn, rfl⟩ | ⟨hnn, rfl⟩ | ⟨hnn, rfl⟩
  all_goals
    have e2 : ((n : Int) == 2) = true ∨ ((n : Int) == 2) = false := by cases ((n : Int) == 2) <;> simp
    have e2' : n = 2 → ((n : Int) == 2) = true := fun h => by simp; omega
    have e2'' : n ≠ 2 → ((n : Int) == 2) = false := fun h => by simp; omega
    have e3' : n = 3 → ((n : Int) == 3) = true := fun h => by simp; omega
    have e3'' : n ≠ 3 → ((n : Int) == 3) = false := fun h => by simp; omega
    clear e2
    first
      | (have q2 := e2' hnn)
      | (have q2 := e2'' (by omega); first | (have q3 := e3' hnn) | (have q3 := e3'' (by omega)))
    have HN := hide' hnn
    clear hnn e2' e2'' e3' e3''
    go_enter Tryd.func57, Tryd.ntmps57
    go_wp2
    go_loop [4, 5] (fun r i => ∃ k : Nat, i = .int .i64 k ∧ 1 ≤ k ∧ k ≤ n ∧ r = .int .i64 (Rn.pv f _ k)) (fun _ i => n - (RowKit.intOf i).toNat)
    case atStart => exact ⟨1, rfl, by omega, by omega, rfl⟩
    case round =>
      obtain ⟨k, rfl, hk1, hk2, rfl⟩ := hrel
      have hbk := hbd k hk1 hk2
      have hbk1 := hbk.1
      have hbk2 := hbk.2
      by_cases hlt : k < n
      · have g1 : (k : Int) < n := by omega
        have ck := hcell k hlt
        obtain ⟨y1, y2⟩ := hj k hk1 hlt
        clear hcell hbd hj hbk
        go_wp2
        exact ⟨⟨k + 1, by go_num, by omega, by omega, by rw [Rn.pv_succ f _ hk1]⟩, by simp [RowKit.intOf]; omega⟩
      · have g1 : ¬ (k : Int) < n := by omega
        obtain rfl : k = n := by omega
        clear hcell hbd hj hbk
        go_wp2
        go_ret
        exact ⟨rfl, rfl⟩

theorem value_any (f : Nat → Nat) (n b off cap : Nat) (w : World) (hf : ∀ j, f j < 256) (hw : Rn.whole f n = true) (hs : Rn.fs f n = n) (hp : Bytes w b off n f) :
    Calls Tryd.prog 57 #[.slice (some ⟨b, off, none⟩) n cap] w fun e w' => e = .returned (.int .i64 (Rn.fv f)) ∧ w' = w := by
  rcases Rn.whl_of hw hs with ⟨rfl, h⟩ | ⟨rfl, h0, h0', h1, h1', h⟩ | ⟨rfl, h0, h0', h1, h1', h2, h2', h⟩ | ⟨rfl, h0, h0', h1, h1', h2, h2', h3, h3', h⟩
  · rw [h]
    have c0 : w.cell? ⟨b, off, none⟩ = some (.int .u8 (f 0)) := hp 0 (by omega)
    have hf0 := hf 0
    clear hp h hw hs
    go_enter Tryd.func57, Tryd.ntmps57
    go_wp2
    go_ret
    exact ⟨rfl, rfl⟩
  · rw [h]
    exact value_loop f 2 b off cap 192 w (by omega) (by omega) (by omega) (by omega) (by omega) (fun j g1 g2 => by
      have : j = 1 := by omega
      rcases this with rfl
      omega) hp
  · rw [h]
    exact value_loop f 3 b off cap 224 w (by omega) (by omega) (by omega) (by omega) (by omega) (fun j g1 g2 => by
      have : j = 1 ∨ j = 2 := by omega
      rcases this with rfl | rfl <;> omega) hp
  · rw [h]
    exact value_loop f 4 b off cap 240 w (by omega) (by omega) (by omega) (by omega) (by omega) (fun j g1 g2 => by
      have : j = 1 ∨ j = 2 ∨ j = 3 := by omega
      rcases this with rfl | rfl | rfl <;> omega) hp
end Go.Proofs.YtbfabpjhdhhpfaaDoor
