/-
  WALKS over words.Border, the document's Stands (what it draws), Border, and the statement's same.
-/
import Derived.Test.YtgbldbohadacmaaWdStands
namespace Go.Proofs.Ytgbldbohadacmaa
open Go.RowKit

namespace Wd
def stB (l p : Nat → Nat) (ll m n : Nat) : Bool := decide (n + m ≤ ll ∧ ∀ i, i < m → l (n + i) = p i)
theorem stB_true {l p : Nat → Nat} {ll m n : Nat} : stB l p ll m n = true ↔ n + m ≤ ll ∧ St l p m n := by
  unfold stB St
  rw [decide_eq_true_eq]
theorem stB_no {l p : Nat → Nat} {ll m n k : Nat} (hk : k < m) (h : l (n + k) ≠ p k) : stB l p ll m n = false := by
  rw [Bool.eq_false_iff]
  intro h1
  exact h ((stB_true.1 h1).2 k hk)
end Wd

/-- numbers in a block of their own -/
structure IB (w : World) (b m : Nat) (bf : Nat → Nat) (cur : Array Value) : Prop where
  blk : w.heap[b]? = some (.cells cur 3 (0, 0))
  size : cur.size = m
  get : ∀ j, j < m → cur[j]? = some (.int .i64 (bf j))
theorem IB.row {w : World} {b m : Nat} {bf : Nat → Nat} {cur : Array Value} (h : IB w b m bf cur) : Row .i64 w b 0 m bf := fun j hj => by
  rw [Lib.cell_of_heap h.blk, Nat.zero_add]
  exact h.get j hj
theorem IB.below {w w' : World} {b m : Nat} {bf : Nat → Nat} {cur : Array Value} (h : IB w b m bf cur) {B : Nat} (hb : Below B w w') (hB : w.heap.size ≤ B) : IB w' b m bf cur :=
  ⟨(hb.block b (Nat.lt_of_lt_of_le (Array.getElem?_eq_some_iff.1 h.blk).1 hB)).trans h.blk, h.size, h.get⟩

set_option maxRecDepth 100000 in
set_option maxHeartbeats 1000000 in
theorem border_any (f : Nat → Nat) (n : Nat) (w : World) (hf : ∀ j, f j < 256) (hn : n ≤ 1099511627776) :
    Calls Try.prog 13 #[.string (Rn.arr f n)] w fun e w' => ∃ b, e = .returned (.slice (some ⟨b, 0, none⟩) (Wd.R f n 0).length (Wd.R f n 0).length) ∧ w.heap.size ≤ b ∧ (∃ bf, (∃ cur, IB w' b (Wd.R f n 0).length bf cur) ∧ ∀ j, j < (Wd.R f n 0).length → Wd.Bd (Wd.lg (Wd.R f n 0)) (bf j) j) ∧ Below w.heap.size w w' := by
  have cR := runes_any f n w hf (by omega)
  rw [Wd.R_rl] at cR
  have hl := Wd.R_length f n 0 hf
  generalize Wd.R f n 0 = P at *
  go_enter Try.func13, Try.ntmps13
  go_wp2_with fail
  refine cR.mono ?_
  rintro e w1 ⟨cap, rfl, hc1, hc2, hlie, hb1, hs1, _⟩
  go_wp2_with fail
  refine (borders_any (Wd.lg P) P.length w.heap.size 0 cap w1 (by omega) hc2 hlie.row).mono ?_
  rintro e w2 ⟨rfl, cur, hw2, hcs, bf, hBd⟩
  have hb12 : Below w1.heap.size w1 w2 := by
    rw [hw2]
    exact (Below.refl _ _).alloc (Nat.le_refl _) _
  have hblk : w2.heap[w1.heap.size]? = some (.cells cur 3 (0, 0)) := by
    rw [hw2]
    exact World.alloc_heap_new w1 _
  have hx : ∃ bf, (∃ cur, IB w2 w1.heap.size P.length bf cur) ∧ ∀ j, j < P.length → Wd.Bd (Wd.lg P) (bf j) j := ⟨bf, ⟨cur, hblk, hcs, hBd.get⟩, hBd.bd⟩
  rw [hs1] at hx
  have HX := hide' hx
  clear hw2 hcs hBd hlie cR hblk hx
  go_wp2_with fail
  go_ret
  exact ⟨_, rfl, by omega, HX.out, hb1.trans (hb12.mono hb1.size)⟩

end Go.Proofs.Ytgbldbohadacmaa
