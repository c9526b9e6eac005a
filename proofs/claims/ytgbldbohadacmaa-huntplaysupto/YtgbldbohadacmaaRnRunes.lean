/-
  WALKS over runes.Runes and runes.Join: Go's own conversions, in the words of this proof.
-/
import Derived.Test.YtgbldbohadacmaaRnByte
import Derived.Laws.IdiomStrings
import Derived.Laws.Cover4
namespace Go.Proofs.Ytgbldbohadacmaa
open Go.RowKit Go.Shelf

namespace Rn
/-- the runes of these characters -/
def rl {n : Nat} (xs : List (Chr n)) : List Nat := xs.map fun x => x.1.2
def rv (l : List Nat) : List Value := l.map fun (r : Nat) => .int .i32 (r : Int)
theorem runesFrom_eq (f : Nat → Nat) (n : Nat) (hf : ∀ j, f j < 256) : ∀ (bound i : Nat) (acc : Array Value), Conv.runesFrom (arr f n) bound i acc = acc ++ (rv (rl (chFrom f n hf bound i))).toArray
  | 0, _, acc => by simp [Conv.runesFrom, chFrom, rl, rv]
  | bound + 1, i, acc => by
    unfold Conv.runesFrom chFrom
    rw [arr_size]
    by_cases h : i < n
    · rw [if_pos h, dif_pos h, arr_decode f n i hf h]
      simp only []
      rw [runesFrom_eq f n hf bound _ _]
      simp [rl, rv, ← Array.append_singleton, Array.append_assoc]
    · rw [if_neg h, dif_neg h]
      simp [rl, rv]
theorem chFrom_length (f : Nat → Nat) (n : Nat) (hf : ∀ j, f j < 256) : ∀ bound i, (chFrom f n hf bound i).length ≤ bound
  | 0, _ => by simp [chFrom]
  | bound + 1, i => by
    unfold chFrom
    split
    · have := chFrom_length f n hf bound
      simp
      exact this _
    · simp
theorem chs_length (f : Nat → Nat) (n : Nat) (hf : ∀ j, f j < 256) : (chs f n hf).length ≤ n := chFrom_length f n hf n 0
end Rn

/-- runes that lie one behind the other -/
def Lie (w : World) (g : Nat) (l : List Nat) : Prop := ∀ j (h : j < l.length), w.cell? ⟨g, 0 + j, none⟩ = some (.int .i32 (l[j] : Nat))
theorem Lie.below {w w' : World} {g : Nat} {l : List Nat} (h : Lie w g l) {B : Nat} (hb : Below B w w') (hB : w.heap.size ≤ B) : Lie w' g l := fun j hj =>
  (hb.cell (p := ⟨g, 0 + j, none⟩) (Nat.lt_of_lt_of_le (block_lt_of_cell (h j hj)) hB)).trans (h j hj)

theorem conv_runes (f : Nat → Nat) (n : Nat) (w : World) (hf : ∀ j, f j < 256) (hbig : n ≤ 70368744177664) :
    ∃ cap W, (convert 9 43 (.string (Rn.arr f n))).run Try.prog w = .ok (.slice (some ⟨w.heap.size, 0, none⟩) (Rn.rl (Rn.chs f n hf)).length cap) W ∧ (Rn.rl (Rn.chs f n hf)).length ≤ cap ∧ cap ≤ maxLen ∧ Lie W w.heap.size (Rn.rl (Rn.chs f n hf)) ∧ Below w.heap.size w W ∧ W.heap.size = w.heap.size + 1 ∧
      ∃ cs, W.heap[w.heap.size]? = some (.cells cs 21 (0, 0)) ∧ cs.size = cap := by
  have hle := Rn.chs_length f n hf
  have hr : Conv.runesFrom (Rn.arr f n) (Rn.arr f n).size 0 #[] = (Rn.rv (Rn.rl (Rn.chs f n hf))).toArray := by
    rw [Rn.runesFrom_eq f n hf, Rn.arr_size]
    simp [Rn.chs]
  have hsz : (Conv.runesFrom (Rn.arr f n) (Rn.arr f n).size 0 #[]).size = (Rn.rl (Rn.chs f n hf)).length := by rw [hr]; simp [Rn.rv]
  have hl2 : (Rn.rl (Rn.chs f n hf)).length ≤ n := by simp [Rn.rl]; exact hle
  have h := run_runes_of_string (P := Try.prog) w 9 43 21 (Rn.arr f n) Try.underlying9 Try.underlying43 Try.underlying21 (by rw [hsz]; omega)
  rw [hsz, hr] at h
  refine ⟨_, _, h, grownCap_ge _ _ _ _, grownCap_le_maxLen _ _ _ _ (by unfold maxLen; omega), ?_, ?_, by simp, ?_⟩
  · intro j hj
    have hh : (w.drew.alloc (.cells ((Rn.rv (Rn.rl (Rn.chs f n hf))).toArray ++ Array.replicate (grownCap w (Rn.rl (Rn.chs f n hf)).length 0 21 - (Rn.rl (Rn.chs f n hf)).length) (.int .i32 0)) 21)).heap[w.heap.size]? = some _ := World.alloc_heap_new w.drew _
    rw [Lib.cell_of_heap hh]
    simp only [Nat.zero_add]
    rw [Array.getElem?_append_left (by simp [Rn.rv]; exact hj)]
    simp [Rn.rv, hj]
  · exact (Below.refl w.heap.size w).drew.alloc (Nat.le_refl _) _
  · refine ⟨_, World.alloc_heap_new w.drew _, ?_⟩
    have := grownCap_ge w (Rn.rl (Rn.chs f n hf)).length 0 21
    simp [Rn.rv] at *
    omega

set_option maxHeartbeats 1000000 in
theorem runes_any (f : Nat → Nat) (n : Nat) (w : World) (hf : ∀ j, f j < 256) (hbig : n ≤ 70368744177664) :
    Calls Try.prog 25 #[.string (Rn.arr f n)] w fun e W => ∃ cap, e = .returned (.slice (some ⟨w.heap.size, 0, none⟩) (Rn.rl (Rn.chs f n hf)).length cap) ∧ (Rn.rl (Rn.chs f n hf)).length ≤ cap ∧ cap ≤ maxLen ∧ Lie W w.heap.size (Rn.rl (Rn.chs f n hf)) ∧ Below w.heap.size w W ∧ W.heap.size = w.heap.size + 1 ∧
      ∃ cs, W.heap[w.heap.size]? = some (.cells cs 21 (0, 0)) ∧ cs.size = cap := by
  obtain ⟨cap, W, hr, h1⟩ := conv_runes f n w hf hbig
  go_enter Try.func25, Try.ntmps25
  go_wp2
  go_ret
  exact ⟨cap, rfl, h1⟩
end Go.Proofs.Ytgbldbohadacmaa
