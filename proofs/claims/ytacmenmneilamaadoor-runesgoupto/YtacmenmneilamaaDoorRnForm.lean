/-
  WALKS over the document's Form: the bytes of a character.
-/
import Derived.Test.YtacmenmneilamaaDoorRnCat
namespace Go.Proofs.YtacmenmneilamaaDoor
open Go.RowKit Go.Lib

theorem bytes_alloc (w : World) (cs : Array Value) (f : Nat → Nat) (n : Nat) (h : ∀ j, j < n → cs[j]? = some (.int .u8 (f j))) : Bytes (w.alloc (.cells cs 5)) w.heap.size 0 n f := by
  intro j hj
  rw [Lib.cell_of_heap (World.alloc_heap_new w _), Nat.zero_add]
  exact h j hj
theorem some_u8 {a b : Int} (h : a = b) : some (Value.int .u8 a) = some (.int .u8 b) := by rw [h]
theorem below_alloc1 (w : World) (o : Obj) : Below w.heap.size w (w.alloc o) := (Below.refl _ _).alloc (Nat.le_refl _) o

set_option maxHeartbeats 1000000 in
theorem refForm_none (r : Int) (w : World) (h : r < 0 ∨ 1114111 < r ∨ (55296 ≤ r ∧ r ≤ 57343)) :
    Calls Tryd.prog 46 #[.int .i64 r] w fun e w' => e = .returned (.slice none 0 0) ∧ w' = w := by
  by_cases h1 : r < 0
  · go_enter Tryd.func46, Tryd.ntmps46
    go_wp2
    go_ret
    exact ⟨rfl, rfl⟩
  by_cases h2 : 1114111 < r
  · go_enter Tryd.func46, Tryd.ntmps46
    go_wp2
    go_ret
    exact ⟨rfl, rfl⟩
  have h3 : 55296 ≤ r := by omega
  have h4 : r ≤ 57343 := by omega
  go_enter Tryd.func46, Tryd.ntmps46
  go_wp2
  go_ret
  exact ⟨rfl, rfl⟩

set_option maxHeartbeats 1000000 in
theorem refForm_some (r : Nat) (w : World) (h : Rn.scal r) :
    Calls Tryd.prog 46 #[.int .i64 r] w fun e w' => e = .returned (.slice (some ⟨w.heap.size, 0, none⟩) (Rn.el r) (Rn.el r)) ∧ Bytes w' w.heap.size 0 (Rn.el r) (Rn.eb r) ∧ Below w.heap.size w w' := by
  have hw : (Rn.want r).toNat = r := by
    unfold Rn.want
    unfold Rn.scal at h
    rw [if_neg (by omega)]
    omega
  have E := Rn.eb_enc r
  rw [hw] at E
  have hs := h
  unfold Rn.scal at hs
  have g1 : ¬ (r : Int) < 0 := by omega
  have g2 : ¬ 1114111 < (r : Int) := by omega
  cases E with
  | one hn h0 hv =>
    rw [hn]
    have g3 : ¬ 55296 ≤ (r : Int) := by omega
    have g4 : (r : Int) < 128 := by omega
    have H0 := hide' h0
    clear h0
    go_enter Tryd.func46, Tryd.ntmps46
    go_wp2
    go_ret
    refine ⟨rfl, bytes_alloc _ _ _ _ fun j hj => ?_, below_alloc1 _ _⟩
    obtain rfl : j = 0 := by omega
    exact some_u8 (by rw [H0.out])
  | two hn h0 h1 hv hv2 =>
    rw [hn]
    have g3 : ¬ 55296 ≤ (r : Int) := by omega
    have g4 : ¬ (r : Int) < 128 := by omega
    have g5 : (r : Int) < 2048 := by omega
    have H0 := hide' h0
    have H1 := hide' h1
    clear h0 h1
    go_enter Tryd.func46, Tryd.ntmps46
    go_wp2
    go_ret
    refine ⟨rfl, bytes_alloc _ _ _ _ fun j hj => ?_, below_alloc1 _ _⟩
    have : j = 0 ∨ j = 1 := by omega
    rcases this with rfl | rfl
    · exact some_u8 (by rw [H0.out]; omega)
    · exact some_u8 (by rw [H1.out]; omega)
  | three hn h0 h1 h2 hv hv2 hv3 =>
    rw [hn]
    have g4 : ¬ (r : Int) < 128 := by omega
    have g5 : ¬ (r : Int) < 2048 := by omega
    have g6 : (r : Int) < 65536 := by omega
    have H0 := hide' h0
    have H1 := hide' h1
    have H2 := hide' h2
    clear h0 h1 h2
    by_cases g3 : 55296 ≤ (r : Int)
    · have g7 : ¬ (r : Int) ≤ 57343 := by omega
      go_enter Tryd.func46, Tryd.ntmps46
      go_wp2
      go_ret
      refine ⟨rfl, bytes_alloc _ _ _ _ fun j hj => ?_, below_alloc1 _ _⟩
      have : j = 0 ∨ j = 1 ∨ j = 2 := by omega
      rcases this with rfl | rfl | rfl
      · exact some_u8 (by rw [H0.out]; omega)
      · exact some_u8 (by rw [H1.out]; omega)
      · exact some_u8 (by rw [H2.out]; omega)
    · go_enter Tryd.func46, Tryd.ntmps46
      go_wp2
      go_ret
      refine ⟨rfl, bytes_alloc _ _ _ _ fun j hj => ?_, below_alloc1 _ _⟩
      have : j = 0 ∨ j = 1 ∨ j = 2 := by omega
      rcases this with rfl | rfl | rfl
      · exact some_u8 (by rw [H0.out]; omega)
      · exact some_u8 (by rw [H1.out]; omega)
      · exact some_u8 (by rw [H2.out]; omega)
  | four hn h0 h1 h2 h3 hv hv2 =>
    rw [hn]
    have g3 : 55296 ≤ (r : Int) := by omega
    have g7 : ¬ (r : Int) ≤ 57343 := by omega
    have g4 : ¬ (r : Int) < 128 := by omega
    have g5 : ¬ (r : Int) < 2048 := by omega
    have g6 : ¬ (r : Int) < 65536 := by omega
    have H0 := hide' h0
    have H1 := hide' h1
    have H2 := hide' h2
    have H3 := hide' h3
    clear h0 h1 h2 h3
    go_enter Tryd.func46, Tryd.ntmps46
    go_wp2
    go_ret
    refine ⟨rfl, bytes_alloc _ _ _ _ fun j hj => ?_, below_alloc1 _ _⟩
    have : j = 0 ∨ j = 1 ∨ j = 2 ∨ j = 3 := by omega
    rcases this with rfl | rfl | rfl | rfl
    · exact some_u8 (by rw [H0.out]; omega)
    · exact some_u8 (by rw [H1.out]; omega)
    · exact some_u8 (by rw [H2.out]; omega)
    · exact some_u8 (by rw [H3.out]; omega)
end Go.Proofs.YtacmenmneilamaaDoor
