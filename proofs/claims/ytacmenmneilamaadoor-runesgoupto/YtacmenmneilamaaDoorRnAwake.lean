/-
  THE WALK over gimletlaw01.awake: three calls whose answers the document fixes.
-/
import Derived.Test.YtacmenmneilamaaDoorRnMend
import Derived.Lib.SlBytesConst
namespace Go.Proofs.YtacmenmneilamaaDoor
open Go.RowKit Go.Lib

namespace Rn
/-- a list's bytes by their place -/
def ofList (l : List Nat) : Nat → Nat := fun j => l[j]?.getD 0
def euro : Nat → Nat := ofList [226, 130, 172]
def crlf : Nat → Nat := ofList [97, 13, 10, 98]
def part : Nat → Nat := ofList [226, 130, 65]
theorem euro_lt : ∀ j, euro j < 256 := by
  intro j
  unfold euro ofList
  match j with
  | 0 => decide
  | 1 => decide
  | 2 => decide
  | (k + 3) => simp
theorem crlf_lt : ∀ j, crlf j < 256 := by
  intro j
  unfold crlf ofList
  match j with
  | 0 => decide
  | 1 => decide
  | 2 => decide
  | 3 => decide
  | (k + 4) => simp
theorem part_lt : ∀ j, part j < 256 := by
  intro j
  unfold part ofList
  match j with
  | 0 => decide
  | 1 => decide
  | 2 => decide
  | (k + 3) => simp
theorem euro_nx : nx euro 3 = (8364, 3, 0) := by decide +kernel
theorem crlf_plc : plc crlf 4 3 = (3, 2, 1) := by decide +kernel
theorem part_mp : (mp part 3 (chs part 3 part_lt)).1 = [239, 191, 189, 65] := by decide +kernel
theorem part_arr : arr part 3 = ⟨#[226, 130, 65]⟩ := by decide +kernel
end Rn

set_option maxRecDepth 100000 in
set_option maxHeartbeats 2000000 in
theorem awake_any (w : World) (hT : Lib.Utf8Tabs 0 1 w) :
    Calls Tryd.prog 9 #[] w fun e w' => e = .returned (.bool true) ∧ Below w.heap.size w w' := by
  have kc := fun (w : World) (C : Array Value) (n c : Nat) => Lib.run_convert_bytes_const (P := Tryd.prog) w 22 5 C n c Tryd.underlying22 Tryd.underlying5
  have c1 := next_first Rn.euro 3 w.heap.size 0 3 (w.alloc (.cells #[.int .u8 226, .int .u8 130, .int .u8 172] 5)) (tabs_below hT ((Below.refl w.heap.size w).alloc (Nat.le_refl _) _) (Nat.le_refl _)) Rn.euro_lt (by omega) (by omega) (by decide) (by
    intro j hj
    have : j = 0 ∨ j = 1 ∨ j = 2 := by omega
    rcases this with rfl | rfl | rfl <;> simp [Rn.euro, Rn.ofList])
  rw [Rn.euro_nx] at c1
  go_enter Tryd.func9, Tryd.ntmps9
  go_wp2_with fail
  refine c1.mono ?_
  rintro e w1 ⟨rfl, hb1⟩
  go_wp2_with fail
  have hB1 : Below w.heap.size w w1 := ((Below.refl w.heap.size w).alloc (Nat.le_refl _) _).trans (hb1.mono (by simp))
  have c2 : Calls Tryd.prog 13 #[.slice (some ⟨w1.heap.size, 0, none⟩) 4 4, .int .i64 3] (w1.alloc (.cells #[.int .u8 97, .int .u8 13, .int .u8 10, .int .u8 98] 5 (4, 5))) fun e w' =>
      e = .returned (.tuple #[.agg #[.int .i64 3, .int .i64 3, .int .i64 2, .int .i64 1], .int .i64 0]) ∧ Below (w1.alloc (.cells #[.int .u8 97, .int .u8 13, .int .u8 10, .int .u8 98] 5 (4, 5))).heap.size (w1.alloc (.cells #[.int .u8 97, .int .u8 13, .int .u8 10, .int .u8 98] 5 (4, 5))) w' := by
    have h := at_in Rn.crlf 4 w1.heap.size 0 4 3 (w1.alloc (.cells #[.int .u8 97, .int .u8 13, .int .u8 10, .int .u8 98] 5 (4, 5))) Rn.crlf_lt (by omega) (by omega) (by decide) (by omega) (by
      intro j hj
      have : j = 0 ∨ j = 1 ∨ j = 2 ∨ j = 3 := by omega
      rcases this with rfl | rfl | rfl | rfl <;> rw [World.cell?_alloc_mark] <;> simp [Rn.crlf, Rn.ofList])
    rw [Rn.crlf_plc] at h
    exact h
  clear c1 kc
  refine c2.mono ?_
  rintro e w2 ⟨rfl, hb2⟩
  clear c2
  have hB2 : Below w.heap.size w w2 := hB1.trans (((Below.refl w1.heap.size w1).alloc (Nat.le_refl _) _).mono hB1.size |>.trans (hb2.mono (by have := hB1.size; simp; omega)))
  have c3 : ∀ o, Calls Tryd.prog 21 #[.string ⟨#[226, 130, 65]⟩] (w2.alloc o) fun e w' => e = .returned (.string ⟨#[239, 191, 189, 65]⟩) ∧ Below (w2.alloc o).heap.size (w2.alloc o) w' := fun o => by
    have h := mendParts_any Rn.part 3 (w2.alloc o) Rn.part_lt (tabs_below (tabs_below hT hB2 (Nat.le_refl _)) ((Below.refl w2.heap.size w2).alloc (Nat.le_refl _) _) (Nat.le_refl _)) (by omega)
    rw [Rn.part_mp, Rn.part_arr] at h
    exact h
  go_wp2_with fail
  refine (c3 _).mono ?_
  rintro e w3 ⟨rfl, hb3⟩
  go_wp2_with fail
  go_ret
  exact ⟨rfl, hB2.trans (((Below.refl w2.heap.size w2).alloc (Nat.le_refl _) _).mono hB2.size |>.trans (hb3.mono (by have := hB2.size; simp; omega)))⟩
end Go.Proofs.YtacmenmneilamaaDoor
