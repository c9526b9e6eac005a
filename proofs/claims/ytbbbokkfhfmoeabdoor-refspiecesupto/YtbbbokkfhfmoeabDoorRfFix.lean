/-
  WALKS over refs.Read where a number stands, and over gimletlaw05.fixed.
-/
import Derived.Test.YtbbbokkfhfmoeabDoorRfNum
import Derived.Test.YtbbbokkfhfmoeabDoorRfEsc
import Derived.Lib.SlBytesConst
namespace Go.Proofs.YtbbbokkfhfmoeabDoor
open Go.RowKit Go.Lib

namespace Rf
/-- what Read answers where a number stands -/
def rdN (f : Nat → Nat) (n : Nat) : Nat × Nat × Nat := if 2 < n ∧ f 2 = 120 then rn f 16 5 (n - 3) 3 0 else rn f 10 4 (n - 2) 2 0
/-- the bytes of '&#x41;' -/
def f41 : Nat → Nat := fun j => ([38, 35, 120, 52, 49, 59] : List Nat)[j]?.getD 0
theorem f41_lt : ∀ j, f41 j < 256 := by
  intro j
  match j with
  | 0 => decide
  | 1 => decide
  | 2 => decide
  | 3 => decide
  | 4 => decide
  | 5 => decide
  | (j + 6) => simp [f41]
theorem f41_rd : rdN f41 6 = (65, 6, 0) := by decide +kernel
theorem lt_esc : esc inT [60] = [38, 108, 116, 59] := by decide +kernel
end Rf

set_option maxHeartbeats 1000000 in
theorem rfRead_num (f : Nat → Nat) (pa : Option Addr) (n cap : Nat) (w : World) (hS : Spans w) (hf : ∀ j, f j < 256) (hn : n ≤ 9223372036854775806) (h2 : 2 ≤ n) (h0 : f 0 = 38) (h1 : f 1 = 35)
    (hpa : 0 < n → ∃ b o, pa = some ⟨b, o, none⟩ ∧ Bytes w b o n f ∧ b < w.heap.size) :
    Calls Tryd.prog 6 #[.slice pa n cap] w fun e w' => e = .returned (Rf.rdV (Rf.rdN f n)) ∧ Below w.heap.size w w' := by
  obtain ⟨b, o, rfl, hby, hbl⟩ := hpa (by omega)
  have b0 := hby 0 (by omega)
  have b1 := hby 1 (by omega)
  rw [h0] at b0
  rw [h1] at b1
  rw [Nat.add_zero] at b0
  have g1 : (0 : Int) < (n : Int) := by omega
  have g2 : ¬ (n : Int) < 2 := by omega
  by_cases h : 2 < n ∧ f 2 = 120
  · have c := readNumber_any f (some ⟨b, o, none⟩) n cap 3 16 5 w hS hf hn (.inr ⟨rfl, rfl⟩) (by omega) (fun _ => ⟨b, o, rfl, hby, hbl⟩)
    have b2 := hby 2 h.1
    rw [h.2] at b2
    have g3 : (2 : Int) < (n : Int) := by omega
    unfold Rf.rdN
    rw [if_pos h]
    obtain ⟨V, hV⟩ : ∃ V, Rf.rn f 16 5 (n - 3) 3 0 = V := ⟨_, rfl⟩
    rw [hV] at c ⊢
    clear hV hby hpa h h0 h1
    unfold Rf.rdV at c
    go_enter Tryd.func6, Tryd.ntmps6
    go_wp2_with fail
    refine c.mono ?_
    rintro e w1 ⟨rfl, hb1⟩
    go_wp2
    refine bodyPost_ret (v := Rf.rdV V) (by simp [Rf.rdV, results, Tryd.results6, go_sem]) rfl ⟨rfl, hb1⟩
  · have c := readNumber_any f (some ⟨b, o, none⟩) n cap 2 10 4 w hS hf hn (.inl ⟨rfl, rfl⟩) (by omega) (fun _ => ⟨b, o, rfl, hby, hbl⟩)
    unfold Rf.rdN
    rw [if_neg h]
    obtain ⟨V, hV⟩ : ∃ V, Rf.rn f 10 4 (n - 2) 2 0 = V := ⟨_, rfl⟩
    rw [hV] at c ⊢
    unfold Rf.rdV at c
    by_cases g3 : 2 < n
    · have g4 : (2 : Int) < (n : Int) := by omega
      have b2 := hby 2 g3
      have hx : f 2 ≠ 120 := fun e => h ⟨g3, e⟩
      generalize f 2 = x at *
      have g5 : ((x : Int) == 120) = false := by simp; omega
      clear hV hby hpa h h0 h1
      go_enter Tryd.func6, Tryd.ntmps6
      go_wp2_with fail
      refine c.mono ?_
      rintro e w1 ⟨rfl, hb1⟩
      go_wp2
      refine bodyPost_ret (v := Rf.rdV V) (by simp [Rf.rdV, results, Tryd.results6, go_sem]) rfl ⟨rfl, hb1⟩
    · have g4 : ¬ (2 : Int) < (n : Int) := by omega
      clear hV hby hpa h h0 h1
      go_enter Tryd.func6, Tryd.ntmps6
      go_wp2_with fail
      refine c.mono ?_
      rintro e w1 ⟨rfl, hb1⟩
      go_wp2
      refine bodyPost_ret (v := Rf.rdV V) (by simp [Rf.rdV, results, Tryd.results6, go_sem]) rfl ⟨rfl, hb1⟩

set_option maxHeartbeats 1000000 in
theorem rfFixed_any (w : World) (hS : Spans w) :
    Calls Tryd.prog 5 #[] w fun e w' => e = .returned (.bool true) ∧ Below w.heap.size w w' := by
  have hb0 : Below w.heap.size w (w.alloc (.cells #[.int .u8 38, .int .u8 35, .int .u8 120, .int .u8 52, .int .u8 49, .int .u8 59] 5 (6, 7))) := (Below.refl _ _).alloc (Nat.le_refl _) _
  have hh : (w.alloc (.cells #[.int .u8 38, .int .u8 35, .int .u8 120, .int .u8 52, .int .u8 49, .int .u8 59] 5 (6, 7))).heap[w.heap.size]? = some (.cells #[.int .u8 38, .int .u8 35, .int .u8 120, .int .u8 52, .int .u8 49, .int .u8 59] 5 (6, 7)) := by show (w.heap.push _)[w.heap.size]? = _; simp
  have c := rfRead_num Rf.f41 (some ⟨w.heap.size, 0, none⟩) 6 6 (w.alloc (.cells #[.int .u8 38, .int .u8 35, .int .u8 120, .int .u8 52, .int .u8 49, .int .u8 59] 5 (6, 7))) (hS.below hb0 (Nat.le_refl _)) Rf.f41_lt (by omega) (by omega) rfl rfl (fun _ => ⟨w.heap.size, 0, rfl, (fun j hj => by
    match j, hj with
    | 0, _ => exact (Lib.cell_of_heap hh _).trans rfl
    | 1, _ => exact (Lib.cell_of_heap hh _).trans rfl
    | 2, _ => exact (Lib.cell_of_heap hh _).trans rfl
    | 3, _ => exact (Lib.cell_of_heap hh _).trans rfl
    | 4, _ => exact (Lib.cell_of_heap hh _).trans rfl
    | 5, _ => exact (Lib.cell_of_heap hh _).trans rfl
    | (j + 6), h => omega), by simp⟩)
  rw [Rf.f41_rd] at c
  unfold Rf.rdV at c
  have cT := fun W => rfText_any [60] W (by simp)
  rw [Rf.lt_esc] at cT
  have kc := fun (w : World) (C : Array Value) (n c : Nat) => Lib.run_convert_bytes_const (P := Tryd.prog) w 22 5 C n c Tryd.underlying22 Tryd.underlying5
  clear hS hh
  go_enter Tryd.func5, Tryd.ntmps5
  go_wp2_with fail
  refine c.mono ?_
  rintro e w1 ⟨rfl, hb1⟩
  have cT1 := cT w1
  clear c cT
  go_wp2_with fail
  refine cT1.mono ?_
  rintro e w2 ⟨rfl, hb2⟩
  go_wp2
  go_ret
  exact ⟨rfl, (hb0.trans (hb1.mono (by simp))).trans (hb2.mono (by have := hb1.size; simp at this; omega))⟩
end Go.Proofs.YtbbbokkfhfmoeabDoor
