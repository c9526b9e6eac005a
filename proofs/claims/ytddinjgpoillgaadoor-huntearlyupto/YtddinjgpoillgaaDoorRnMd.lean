/-
  THE WALK over runes.Mend: each character's bytes, one behind the other.
-/
import Derived.Test.YtddinjgpoillgaaDoorRnMend
namespace Go.Proofs.YtddinjgpoillgaaDoor
open Go.RowKit Go.Shelf
attribute [local go_sem] Oper.semAt_some

namespace Rn
/-- the bytes of these characters, one behind the other -/
def md {n : Nat} (xs : List (Chr n)) : List UInt8 := xs.flatMap fun x => Lib.encodeRune x.1.2
theorem md_snoc {n : Nat} (xs : List (Chr n)) (x : Chr n) : md (xs ++ [x]) = md xs ++ Lib.encodeRune x.1.2 := by simp [md]
end Rn

/-- between two rounds of Mend -/
structure MD (n N : Nat) (w : World) (pre : List (Rn.Chr n)) (W : World) : Prop where
  below : Below N w W
  out : Lib.IsBuilderF 62 5 N N (Lib.byteCells (Rn.md pre)) W
  len : (Rn.md pre).length ≤ 4 * pre.length
  cnt : pre.length ≤ n
  big : N < W.heap.size
theorem MD.own (n N : Nat) (w : World) (B : Nat) (hB : N ≤ B) : OwnFrom B (MD n N w) := by
  intro pre W W' row h hg hr
  have hk : ∀ (k : Nat) (o : Obj), W.heap[k]? = some o → o.isCells = true → W'.heap[k]? = some o := fun k o h1 h2 => kept_cells hg (fun r e => (hr r e).2) h1 h2
  refine ⟨?_, builder_kept h.out hk, h.len, h.cnt, Nat.lt_of_lt_of_le h.big hg.size⟩
  exact h.below.trans ⟨hg.os, hg.tape, hg.output, hg.size, fun k hk' => hg.block k (by have := h.big; omega) (fun e => by have := (hr k e.symm).1; omega)⟩

end Go.Proofs.YtddinjgpoillgaaDoor
