/-
  WALKS over slices.Reverse at runes, and words.Reverse.
-/
import Derived.Test.YtfbjkebinbemdaaDoorWdFu
import Derived.Test.YtfbjkebinbemdaaDoorWdExt
import Derived.Test.YtfbjkebinbemdaaDoorWdFind
import Derived.Test.YtfbjkebinbemdaaDoorRnJoin
import Derived.Shelf.RegionOpen
import Derived.Lib.SmallJoins
namespace Go.Proofs.YtfbjkebinbemdaaDoor
open Go.RowKit Go.Shelf

/-- runes in a block of their own -/
structure InBlock (w : World) (g cap m : Nat) (v : Nat → Nat) (cs : Array Value) : Prop where
  blk : w.heap[g]? = some (.cells cs 21 (0, 0))
  size : cs.size = cap
  get : ∀ j, j < m → cs[j]? = some (.int .i32 (v j))
theorem InBlock.cell {w : World} {g cap m : Nat} {v : Nat → Nat} {cs : Array Value} (h : InBlock w g cap m v cs) {j : Nat} (hj : j < m) : w.cell? ⟨g, j, none⟩ = some (.int .i32 (v j)) := by
  rw [Lib.cell_of_heap h.blk]
  exact h.get j hj
theorem InBlock.frozen {w : World} {g cap m : Nat} {v : Nat → Nat} {cs : Array Value} (h : InBlock w g cap m v cs) (j : Nat) : w.frozen? ⟨g, j, none⟩ = false := Lib.frozen_of_heap h.blk j

set_option maxRecDepth 100000 in
set_option maxHeartbeats 2000000 in
theorem reverse32_any (p : Nat → Nat) (m g cap : Nat) (w : World) (cs : Array Value) (hI : InBlock w g cap m p cs) (hm : m ≤ cap) (_hcap : cap ≤ maxLen) :
    Calls Tryd.prog 43 #[.slice (some ⟨g, 0, none⟩) m cap] w fun e w' => e = .returned (.tuple #[]) ∧ (∃ cs', InBlock w' g cap m (fun j => p (m - 1 - j)) cs') ∧ Below g w w' := by
  have hcap : cap ≤ 9223372036854775807 := by unfold maxLen at _hcap; omega
  go_enter Tryd.func43, Tryd.ntmps43
  go_wp2
  go_loopw [2, 3] (fun a b wr => ∃ (i : Nat) (z : Int) (cs' : Array Value), a = .int .i64 i ∧ b = .int .i64 z ∧ (i : Int) + z = m - 1 ∧ i ≤ m ∧ InBlock wr g cap m (fun j => if j < i ∨ m - 1 - j < i then p (m - 1 - j) else p j) cs' ∧ Below g w wr)
    (fun a _ _ => m - (intOf a).toNat)
  case atStart =>
    refine ⟨0, (m : Int) - 1, cs, rfl, rfl, by omega, Nat.zero_le _, ⟨hI.blk, hI.size, fun j hj => ?_⟩, Below.refl _ _⟩
    rw [if_neg (by omega)]
    exact hI.get j hj
  case round =>
    clear hI cs
    obtain ⟨i, z, cs, rfl, rfl, hz, him, hI, hB⟩ := hrel
    by_cases hlt : (i : Int) < z
    · obtain ⟨jn, rfl⟩ : ∃ jn : Nat, z = jn := ⟨z.toNat, by omega⟩
      have hij : i < jn := by omega
      have hjm : jn < m := by omega
      have him' : i < m := by omega
      have mixed : Tryd.prog.follows Departure.mixedOrders = true := by kernel_rfl
      have ci := hI.cell (show i < m by omega)
      have cj := hI.cell hjm
      rw [if_neg (by omega)] at ci cj
      have fi := hI.frozen i
      have fj := hI.frozen jn
      have HI := wHide hI
      clear hI
      go_wp2_with fail
      go_region_o
      go_wp2
      go_roundw
      case rel =>
        have hI := HI.out
        refine ⟨i + 1, (jn : Int) - 1, (cs.setIfInBounds i (.int .i32 (p jn))).setIfInBounds jn (.int .i32 (p i)), by go_num, rfl, by omega, by omega, ⟨?_, by simp [hI.size], fun j hj => ?_⟩, ?_⟩
        · exact Go.Joins.block_setCell (Go.Joins.block_setCell hI.blk _) _
        · have hsz := hI.size
          have hg := hI.get j hj
          have e1 : m - 1 - i = jn := by omega
          by_cases a1 : j = jn
          · subst a1
            rw [Array.getElem?_setIfInBounds_self_of_lt (by simp; omega), if_pos (by omega), show m - 1 - j = i by omega]
          · rw [Array.getElem?_setIfInBounds_ne (fun h => a1 h.symm)]
            by_cases a2 : j = i
            · subst a2
              rw [Array.getElem?_setIfInBounds_self_of_lt (by omega), if_pos (by omega), e1]
            · rw [Array.getElem?_setIfInBounds_ne (fun h => a2 h.symm), hg]
              by_cases a3 : j < i ∨ m - 1 - j < i
              · rw [if_pos a3, if_pos (by omega)]
              · rw [if_neg a3, if_neg (by omega)]
        · exact ((hB.setCell (p := ⟨g, i, none⟩) (Nat.le_refl _) _).setCell (p := ⟨g, jn, none⟩) (Nat.le_refl _) _).drew
      case measure => simp [intOf]; omega
    · have HI := wHide hI
      clear hI
      go_wp2
      go_end0
      refine ⟨rfl, ⟨cs, HI.out.blk, HI.out.size, fun j hj => ?_⟩, hB⟩
      rw [HI.out.get j hj]
      split
      · rfl
      · rw [show m - 1 - j = j by omega]

theorem lg_reverse (L : List Nat) (j : Nat) (hj : j < L.length) : Wd.lg L (L.length - 1 - j) = L.reverse[j]'(by simpa using hj) := by
  unfold Wd.lg
  rw [List.getElem_reverse, List.getElem?_eq_getElem (by omega)]
  rfl
set_option maxRecDepth 100000 in
set_option maxHeartbeats 1000000 in
theorem reverse_any (f : Nat → Nat) (n : Nat) (w : World) (hf : ∀ j, f j < 256) (hbig : n ≤ 70368744177664) :
    Calls Tryd.prog 16 #[.string (Rn.arr f n)] w fun e w' => e = .returned (.string (Rn.tx (Wd.R f n 0).reverse)) ∧ Below w.heap.size w w' := by
  have cR := runes_any f n w hf hbig
  rw [Wd.R_rl] at cR
  have hsc := Wd.R_scal f n 0 hf
  generalize Wd.R f n 0 = P at *
  go_enter Tryd.func16, Tryd.ntmps16
  go_wp2_with fail
  refine cR.mono ?_
  rintro e w1 ⟨cap, rfl, hc1, hc2, hlie, hb1, hs1, cs, hcs, hcz⟩
  have hI : InBlock w1 w.heap.size cap P.length (Wd.lg P) cs := ⟨hcs, hcz, fun j hj => by
    have := hlie.row j hj
    rw [Lib.cell_of_heap hcs, Nat.zero_add] at this
    exact this⟩
  go_wp2_with fail
  refine (reverse32_any (Wd.lg P) P.length w.heap.size cap w1 cs hI hc1 hc2).mono ?_
  rintro e w2 ⟨rfl, ⟨cs2, hI2⟩, hb2⟩
  have hlie2 : Lie w2 w.heap.size P.reverse := by
    intro j hj
    rw [List.length_reverse] at hj
    have := hI2.cell hj
    rw [Nat.zero_add, this, lg_reverse P j hj]
  have hj := join_cat P.reverse (fun r hr => hsc r (List.mem_reverse.1 hr)) w.heap.size cap w2 hlie2
  rw [List.length_reverse] at hj
  clear hI hcs hcz hlie hI2 hlie2
  go_wp2_with fail
  refine hj.mono ?_
  rintro e w3 ⟨rfl, rfl⟩
  go_wp2
  go_ret
  exact ⟨rfl, hb1.trans hb2⟩
end Go.Proofs.YtfbjkebinbemdaaDoor
