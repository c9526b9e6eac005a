/-
  WALKS over gimletlaw01.same, kept and place, where they answer true.
-/
import Derived.Test.YtacmenmneilamaaDoorRnLaid
namespace Go.Proofs.YtacmenmneilamaaDoor
open Go.RowKit Go.Lib

theorem SlB.below {w w' : World} {pa : Option Addr} {n : Nat} {f : Nat → Nat} (h : SlB w pa n f) {B : Nat} (hb : Below B w w') (hB : w.heap.size ≤ B) : SlB w' pa n f := by
  rcases h with h | ⟨b, o, e, hlt, hby⟩
  · exact .inl h
  · exact .inr ⟨b, o, e, by have := hb.size; omega, hby.below hb hB⟩
theorem slb_bytes {w : World} {b o n : Nat} {f : Nat → Nat} (h : Bytes w b o n f) : SlB w (some ⟨b, o, none⟩) n f := by
  by_cases h0 : n = 0
  · exact .inl h0
  · exact .inr ⟨b, o, rfl, by have := block_lt_of_cell (h 0 (by omega)); exact this, h⟩

set_option maxRecDepth 100000 in
set_option maxHeartbeats 2000000 in
theorem same_true (pa pb : Option Addr) (n ca cb : Nat) (f : Nat → Nat) (w : World) (hn : n ≤ 9223372036854775807) (ha : SlB w pa n f) (hb : SlB w pb n f) :
    Calls Tryd.prog 27 #[.slice pa n ca, .slice pb n cb] w fun e w' => e = .returned (.bool true) ∧ Below w.heap.size w w' := by
  have hne : ((n : Int) != n) = false := by simp
  go_enter Tryd.func27, Tryd.ntmps27
  go_wp2
  go_loopw [5] (fun i wr => ∃ k : Nat, i = .int .i64 k ∧ k ≤ n ∧ Below w.heap.size w wr) (fun i _ => n - (RowKit.intOf i).toNat)
  case atStart => exact ⟨0, rfl, Nat.zero_le _, Below.refl _ _⟩
  case round =>
    obtain ⟨k, rfl, hk, hB⟩ := hrel
    by_cases hlt : k < n
    · rcases ha with h0 | ⟨ba, oa, rfl, hla, hba⟩
      · omega
      rcases hb with h0 | ⟨bb, ob, rfl, hlb, hbb⟩
      · omega
      have g1 : (k : Int) < n := by omega
      have c1 := (hba.below hB (Nat.le_refl _)) k hlt
      have c2 := (hbb.below hB (Nat.le_refl _)) k hlt
      have c3 : ((f k : Int) != f k) = false := by simp
      clear hba hbb
      go_wp2
      go_quiet (fail)
      go_wp2
      go_roundw
      case rel => exact ⟨k + 1, by go_num, by omega, below_drewN hB _⟩
      case measure => simp [RowKit.intOf]; omega
    · have g1 : ¬ (k : Int) < n := by omega
      go_wp2
      go_ret
      exact ⟨rfl, hB⟩

set_option maxRecDepth 100000 in
set_option maxHeartbeats 2000000 in
theorem kept_true (g cap : Nat) (pb : Option Addr) (n cb : Nat) (f : Nat → Nat) (w : World) (hc : n + 3 ≤ cap) (_hm : cap ≤ maxLen) (ha : Bytes w g 0 (n + 3) (mk f n)) (hb : SlB w pb n f) :
    Calls Tryd.prog 18 #[.slice (some ⟨g, 0, none⟩) n cap, .slice pb n cb] w fun e w' => e = .returned (.bool true) ∧ Below w.heap.size w w' := by
  have hm : cap ≤ 9223372036854775807 := by unfold maxLen at _hm; omega
  have haf : Bytes w g 0 n f := fun j hj => by have := ha j (by omega); simpa [mk, hj] using this
  have cS := same_true (some ⟨g, 0, none⟩) pb n cap cb f w (by omega) (slb_bytes haf) hb
  have d0 := ha n (by omega)
  have d1 := ha (n + 1) (by omega)
  have d2 := ha (n + 2) (by omega)
  simp only [mk, Nat.zero_add, Nat.lt_irrefl, if_false, if_true] at d0
  simp only [mk, Nat.zero_add, show ¬ n + 1 < n by omega, show ¬ n + 1 = n by omega, if_false, if_true] at d1
  simp only [mk, Nat.zero_add, show ¬ n + 2 < n by omega, show ¬ n + 2 = n by omega, show ¬ n + 2 = n + 1 by omega, if_false] at d2
  have hg := block_lt_of_cell d0
  clear ha haf hb
  go_enter Tryd.func18, Tryd.ntmps18
  go_wp2_with fail
  refine cS.mono ?_
  rintro e w1 ⟨rfl, hb1⟩
  have e0 := (hb1.cell (p := ⟨g, n, none⟩) hg).trans d0
  have e1 := (hb1.cell (p := ⟨g, n + 1, none⟩) hg).trans d1
  have e2 := (hb1.cell (p := ⟨g, n + 2, none⟩) hg).trans d2
  clear cS d0 d1 d2
  go_wp2_with fail
  go_ret
  exact ⟨rfl, hb1⟩

set_option maxHeartbeats 1000000 in
theorem place_true (a b c d : Int) (w : World) :
    Calls Tryd.prog 15 #[.agg #[.int .i64 a, .int .i64 b, .int .i64 c, .int .i64 d], .agg #[.int .i64 a, .int .i64 b, .int .i64 c, .int .i64 d]] w fun e w' => e = .returned (.bool true) ∧ Below w.heap.size w w' := by
  go_enter Tryd.func15, Tryd.ntmps15
  go_wp2
  go_ret
  exact ⟨rfl, ((Below.refl w.heap.size w).alloc (Nat.le_refl _) _).alloc (by simp) _⟩
end Go.Proofs.YtacmenmneilamaaDoor
