/-
  WALKS over runes.Runes and runes.Join: Go's own conversions, in the words of this proof.
-/
import Derived.Test.YtbfabpjhdhhpfaaDoorRnByte
import Derived.Laws.IdiomStrings
import Derived.Laws.Cover4
namespace Go.Proofs.YtbfabpjhdhhpfaaDoor
open Go.RowKit Go.Shelf

namespace Rn
/-- the runes of these characters -/
def rl {n : Nat} (xs : List (Chr n)) : List Nat := xs.map fun x => x.1.2
def rv (l : List Nat) : List Value := l.map fun (r : Nat) => .int .i32 (r : Int)
theorem runesFrom_eq (f : Nat → Nat) (n : Nat) (hf : ∀ j, f j < 256) : ∀ (bound i : Nat) (acc : Array Value), Conv.runesFrom (arr f n) bound i acc = acc ++ (rv (rl (chFrom f n hf bound i))).toArray
  | 0, _, acc => by simp [Conv.runesFrom, chFrom, rl, rv]
  | bound + 1, i, acc => by
    unfold Conv.runesFrom chFrom
    rw [arr_size]
    by_cases h : i < n
    · rw [if_pos h, dif_pos h, arr_decode f n i hf h]
      simp only []
      rw [runesFrom_eq f n hf bound _ _]
      simp [rl, rv, ← Array.append_singleton, Array.append_assoc]
    · rw [if_neg h, dif_neg h]
      simp [rl, rv]
theorem chFrom_length (f : Nat → Nat) (n : Nat) (hf : ∀ j, f j < 256) : ∀ bound i, (chFrom f n hf bound i).length ≤ bound
  | 0, _ => by simp [chFrom]
  | bound + 1, i => by
    unfold chFrom
    split
    · have := chFrom_length f n hf bound
      simp
      exact this _
    · simp
theorem chs_length (f : Nat → Nat) (n : Nat) (hf : ∀ j, f j < 256) : (chs f n hf).length ≤ n := chFrom_length f n hf n 0
end Rn

/-- runes that lie one behind the other -/
def Lie (w : World) (g : Nat) (l : List Nat) : Prop := ∀ j (h : j < l.length), w.cell? ⟨g, 0 + j, none⟩ = some (.int .i32 (l[j] : Nat))
theorem Lie.below {w w' : World} {g : Nat} {l : List Nat} (h : Lie w g l) {B : Nat} (hb : Below B w w') (hB : w.heap.size ≤ B) : Lie w' g l := fun j hj =>
  (hb.cell (p := ⟨g, 0 + j, none⟩) (Nat.lt_of_lt_of_le (block_lt_of_cell (h j hj)) hB)).trans (h j hj)

end Go.Proofs.YtbfabpjhdhhpfaaDoor
