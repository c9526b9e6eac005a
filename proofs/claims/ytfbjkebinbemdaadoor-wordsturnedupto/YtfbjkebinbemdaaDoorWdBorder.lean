/-
  WALKS over words.Border, the document's Stands (what it draws), Border, and the statement's same.
-/
import Derived.Test.YtfbjkebinbemdaaDoorWdStands
namespace Go.Proofs.YtfbjkebinbemdaaDoor
open Go.RowKit

namespace Wd
def stB (l p : Nat → Nat) (ll m n : Nat) : Bool := decide (n + m ≤ ll ∧ ∀ i, i < m → l (n + i) = p i)
theorem stB_true {l p : Nat → Nat} {ll m n : Nat} : stB l p ll m n = true ↔ n + m ≤ ll ∧ St l p m n := by
  unfold stB St
  rw [decide_eq_true_eq]
theorem stB_no {l p : Nat → Nat} {ll m n k : Nat} (hk : k < m) (h : l (n + k) ≠ p k) : stB l p ll m n = false := by
  rw [Bool.eq_false_iff]
  intro h1
  exact h ((stB_true.1 h1).2 k hk)
end Wd

set_option maxRecDepth 100000 in
set_option maxHeartbeats 2000000 in
theorem standsQ_any (l p : Nat → Nat) (pl pp : Option Addr) (ll cl m cp n : Nat) (w : World) (hn : n ≤ 4611686018427387903) (hlb : ll ≤ 4611686018427387903) (hmb : m ≤ 4611686018427387903) (hl : RowO w pl ll l) (hp : RowO w pp m p) :
    Calls Tryd.prog 53 #[.slice pl ll cl, .slice pp m cp, .int .i64 n] w fun e w' => e = .returned (.bool (Wd.stB l p ll m n)) ∧ ∃ q, w' = w.drewN q := by
  by_cases hle : n + m ≤ ll
  · have hlei : ¬ (ll : Int) < (n : Int) + (m : Int) := by omega
    go_enter Tryd.func53, Tryd.ntmps53
    go_wp2
    go_loopw [7] (fun a wr => ∃ k q : Nat, a = .int .i64 k ∧ k ≤ m ∧ Hid (∀ j, j < k → l (n + j) = p j) ∧ wr = w.drewN q) (fun a _ => m - (intOf a).toNat)
    case atStart => exact ⟨0, 0, rfl, Nat.zero_le _, fun j hj => absurd hj (Nat.not_lt_zero _), rfl⟩
    case round =>
      obtain ⟨k, q, rfl, hkm, hk, rfl⟩ := hrel
      by_cases hlt : k < m
      · have hlti : (k : Int) < (m : Int) := by omega
        rcases hl with h0 | ⟨g, o, rfl, hl⟩
        · omega
        rcases hp with h0 | ⟨g2, o2, rfl, hp⟩
        · omega
        have c1 := hl (n + k) (by omega)
        have c2 := hp k hlt
        have hnk : n + k < ll := by omega
        clear hl hp
        by_cases he : l (n + k) = p k
        · rw [he] at c1
          have hx : ((p k : Int) == (p k : Int)) = true := by simp
          have HE := hide' he
          clear he
          go_wp2
          go_quiet (fail)
          go_wp2
          go_roundw
          case rel =>
            refine ⟨k + 1, _, by go_num, by omega, fun j hj => ?_, rfl⟩
            by_cases e : j = k
            · subst e; exact HE.out
            · exact hk.out j (by omega)
          case measure => simp [intOf]; omega
        · have hei : ¬ ((l (n + k) : Int) = (p k : Int)) := by omega
          have HE := hide' (Wd.stB_no (ll := ll) hlt he)
          clear he
          go_wp2
          go_quiet (fail)
          go_wp2
          go_ret
          exact ⟨ret_bool HE.out.symm, q + nq, by simp⟩
      · have hlti : ¬ (k : Int) < (m : Int) := by omega
        clear hl hp
        go_wp2
        go_ret
        exact ⟨ret_bool (Wd.stB_true.2 ⟨hle, fun j hj => hk.out j (by omega)⟩).symm, _, rfl⟩
  · have hlei : (ll : Int) < (n : Int) + (m : Int) := by omega
    clear hl hp
    go_enter Tryd.func53, Tryd.ntmps53
    go_wp2
    go_ret
    refine ⟨ret_bool ?_, 0, rfl⟩
    symm
    rw [Bool.eq_false_iff]
    intro h
    exact hle (Wd.stB_true.1 h).1

/-- numbers in a block of their own -/
structure IB (w : World) (b m : Nat) (bf : Nat → Nat) (cur : Array Value) : Prop where
  blk : w.heap[b]? = some (.cells cur 3 (0, 0))
  size : cur.size = m
  get : ∀ j, j < m → cur[j]? = some (.int .i64 (bf j))
theorem IB.row {w : World} {b m : Nat} {bf : Nat → Nat} {cur : Array Value} (h : IB w b m bf cur) : Row .i64 w b 0 m bf := fun j hj => by
  rw [Lib.cell_of_heap h.blk, Nat.zero_add]
  exact h.get j hj
theorem IB.below {w w' : World} {b m : Nat} {bf : Nat → Nat} {cur : Array Value} (h : IB w b m bf cur) {B : Nat} (hb : Below B w w') (hB : w.heap.size ≤ B) : IB w' b m bf cur :=
  ⟨(hb.block b (Nat.lt_of_lt_of_le (Array.getElem?_eq_some_iff.1 h.blk).1 hB)).trans h.blk, h.size, h.get⟩

set_option maxRecDepth 100000 in
set_option maxHeartbeats 1000000 in
theorem border_any (f : Nat → Nat) (n : Nat) (w : World) (hf : ∀ j, f j < 256) (hn : n ≤ 1099511627776) :
    Calls Tryd.prog 30 #[.string (Rn.arr f n)] w fun e w' => ∃ b, e = .returned (.slice (some ⟨b, 0, none⟩) (Wd.R f n 0).length (Wd.R f n 0).length) ∧ w.heap.size ≤ b ∧ (∃ bf, (∃ cur, IB w' b (Wd.R f n 0).length bf cur) ∧ ∀ j, j < (Wd.R f n 0).length → Wd.Bd (Wd.lg (Wd.R f n 0)) (bf j) j) ∧ Below w.heap.size w w' := by
  have cR := runes_any f n w hf (by omega)
  rw [Wd.R_rl] at cR
  have hl := Wd.R_length f n 0 hf
  generalize Wd.R f n 0 = P at *
  go_enter Tryd.func30, Tryd.ntmps30
  go_wp2_with fail
  refine cR.mono ?_
  rintro e w1 ⟨cap, rfl, hc1, hc2, hlie, hb1, hs1, _⟩
  go_wp2_with fail
  refine (borders_any (Wd.lg P) P.length w.heap.size 0 cap w1 (by omega) hc2 hlie.row).mono ?_
  rintro e w2 ⟨rfl, cur, hw2, hcs, bf, hBd⟩
  have hb12 : Below w1.heap.size w1 w2 := by
    rw [hw2]
    exact (Below.refl _ _).alloc (Nat.le_refl _) _
  have hblk : w2.heap[w1.heap.size]? = some (.cells cur 3 (0, 0)) := by
    rw [hw2]
    exact World.alloc_heap_new w1 _
  have hx : ∃ bf, (∃ cur, IB w2 w1.heap.size P.length bf cur) ∧ ∀ j, j < P.length → Wd.Bd (Wd.lg P) (bf j) j := ⟨bf, ⟨cur, hblk, hcs, hBd.get⟩, hBd.bd⟩
  rw [hs1] at hx
  have HX := hide' hx
  clear hw2 hcs hBd hlie cR hblk hx
  go_wp2_with fail
  go_ret
  exact ⟨_, rfl, by omega, HX.out, hb1.trans (hb12.mono hb1.size)⟩

set_option maxRecDepth 100000 in
set_option maxHeartbeats 2000000 in
theorem same3_any (a b : Nat → Nat) (ga gb m ca cb : Nat) (w : World) (hm : m ≤ 4611686018427387903) (ha : Row .i64 w ga 0 m a) (hb : Row .i64 w gb 0 m b) (he : ∀ j, j < m → a j = b j) :
    Calls Tryd.prog 32 #[.slice (some ⟨ga, 0, none⟩) m ca, .slice (some ⟨gb, 0, none⟩) m cb] w fun e w' => e = .returned (.bool true) ∧ ∃ q, w' = w.drewN q := by
  have hmm : ((m : Int) == (m : Int)) = true := by simp
  go_enter Tryd.func32, Tryd.ntmps32
  go_wp2
  go_loopw [5] (fun i wr => ∃ k q : Nat, i = .int .i64 k ∧ k ≤ m ∧ wr = w.drewN q) (fun a _ => m - (intOf a).toNat)
  case atStart => exact ⟨0, 0, rfl, Nat.zero_le _, rfl⟩
  case round =>
    obtain ⟨k, q, rfl, hkm, rfl⟩ := hrel
    by_cases hlt : k < m
    · have hlti : (k : Int) < (m : Int) := by omega
      have c1 := ha k hlt
      have c2 := hb k hlt
      rw [he k hlt] at c1
      rw [Nat.zero_add] at c1 c2
      have hx : ((b k : Int) == (b k : Int)) = true := by simp
      clear ha hb he
      go_wp2
      go_quiet (fail)
      go_wp2
      go_roundw
      case rel => exact ⟨k + 1, _, by go_num, by omega, rfl⟩
      case measure => simp [intOf]; omega
    · have hlti : ¬ (k : Int) < (m : Int) := by omega
      clear ha hb he
      go_wp2
      go_ret
      exact ⟨rfl, _, rfl⟩

set_option maxRecDepth 100000 in
set_option maxHeartbeats 4000000 in
theorem refBorder_any (f : Nat → Nat) (n : Nat) (w : World) (hf : ∀ j, f j < 256) (hn : n ≤ 1099511627776) :
    Calls Tryd.prog 31 #[.string (Rn.arr f n)] w fun e w' => ∃ b, e = .returned (.slice (some ⟨b, 0, none⟩) (Wd.R f n 0).length (Wd.R f n 0).length) ∧ w.heap.size ≤ b ∧ (∃ bf, (∃ cur, IB w' b (Wd.R f n 0).length bf cur) ∧ ∀ j, j < (Wd.R f n 0).length → Wd.Bd (Wd.lg (Wd.R f n 0)) (bf j) j) ∧ Below w.heap.size w w' := by
  have cR := refRunes_any f n w hf hn
  have hl := Wd.R_length f n 0 hf
  generalize Wd.R f n 0 = P at *
  obtain ⟨m, hm⟩ : ∃ m, P.length = m := ⟨_, rfl⟩
  obtain ⟨i0, hi, hz0, hz1, hz2⟩ := info3 infoInt'
  have hmk := fun w1 => run_make (P := Tryd.prog) w1 33 3 i0 (.int .i64 0) Tryd.underlying33 hi hz0 .i64 .i64 m m (by omega) (by omega) (by rw [hz2]; omega) (by omega)
  rw [hz1, show (m : Int).toNat = m by omega, Nat.mul_one] at hmk
  obtain ⟨cur, hcur⟩ : ∃ cur, madeCells (Value.int .i64 0).cells m = cur := ⟨_, rfl⟩
  have hsz : cur.size = m := by rw [← hcur, size_madeCells]
  have hc0 : ∀ j, j < m → cur[j]? = some (.int .i64 0) := by
    intro j h
    rw [← hcur]
    simp [madeCells, Value.cells, h, Nat.mod_one]
  rw [hcur] at hmk
  clear hcur hi hz0 hz1 hz2
  unfold RS at cR
  rw [hm] at hl cR ⊢
  go_enter Tryd.func31, Tryd.ntmps31
  go_wp2_with fail
  refine cR.mono ?_
  rintro e w1 ⟨v, rfl, ⟨pa, cap, rfl, hc1, hc2, hrow⟩, hb1⟩
  have hc3 : cap ≤ 9223372036854775807 := by unfold maxLen at hc2; omega
  have hmk1 := hmk w1
  clear cR hmk hm
  go_wp2_with fail
  have hn1 : (w1.alloc (.cells cur 3)).heap[w1.heap.size]? = some (.cells cur 3 (0, 0)) := World.alloc_heap_new w1 _
  have hb2 : Below w1.heap.size w1 (w1.alloc (.cells cur 3)) := (Below.refl _ _).alloc (Nat.le_refl _) _
  go_loopw [5] (fun a wr => ∃ (i : Nat) (bf : Nat → Nat) (cur : Array Value), a = .int .i64 i ∧ i ≤ m ∧ IB wr w1.heap.size m bf cur ∧ Hid (∀ j, j < i → Wd.Bd (Wd.lg P) (bf j) j) ∧ Hid (∀ j, i ≤ j → bf j = 0) ∧ Below w1.heap.size w1 wr) (fun a _ => m - (intOf a).toNat)
  case atStart => exact ⟨0, fun _ => 0, cur, rfl, Nat.zero_le _, ⟨hn1, hsz, hc0⟩, fun j hj => absurd hj (Nat.not_lt_zero _), fun _ _ => rfl, hb2⟩
  case round =>
    clear hmk1 hn1 hb2 hsz hc0 cur
    obtain ⟨i, bf, cur, rfl, him, hI, hbd, hzr, hB⟩ := hrel
    obtain ⟨w4, rfl⟩ : ∃ w4, w4 = wr := ⟨_, rfl⟩
    by_cases hlt : i < m
    · have hlti : (i : Int) < (m : Int) := by omega
      obtain ⟨g, o, rfl, hr⟩ : ∃ g o, pa = some ⟨g, o, none⟩ ∧ Row .i32 w1 g o m (Wd.lg P) := by
        rcases hrow with h | h
        · omega
        · exact h
      have cS : ∀ (b : Nat) (W : World), b ≤ i → Below w1.heap.size w1 W → _ := fun b W hb hW => standsQ_any (Wd.lg P) (Wd.lg P) (some ⟨g, o, none⟩) (some ⟨g, o, none⟩) (i + 1) cap b cap (i + 1 - b) W (by omega) (by omega) (by omega) (.inr ⟨g, o, rfl, fun j hj => (hr.below hW (Nat.le_refl _)) j (by omega)⟩) (.inr ⟨g, o, rfl, fun j hj => (hr.below hW (Nat.le_refl _)) j (by omega)⟩)
      have hi9 : i ≤ 1099511627776 := by omega
      have hi8 : i < cap := by omega
      clear hr hrow
      go_wp2_with fail
      go_loopw [6] (fun a wr => ∃ (b : Nat), a = .int .i64 b ∧ b ≤ i ∧ IB wr w1.heap.size m bf cur ∧ Below w1.heap.size w1 wr ∧ Hid (∀ k, b < k → k ≤ i → ¬ Wd.St (Wd.lg P) (Wd.lg P) k (i + 1 - k))) (fun a _ => (intOf a).toNat)
      case atStart => exact ⟨i, rfl, Nat.le_refl _, hI, hB, fun k h1 h2 => by omega⟩
      case round =>
        clear hI hB
        obtain ⟨b, rfl, hbi, hI, hB, hno⟩ := hrel
        by_cases hb0 : b = 0
        · have hb0i : ¬ 0 < (b : Int) := by omega
          have HB := hide' hb0
          clear hb0 cS
          go_wp2_with fail
          go_roundw
          case rel =>
            refine ⟨i + 1, bf, cur, by go_num, by omega, hI, fun j hj => ?_, fun j hj => hzr.out j (by omega), hB⟩
            by_cases e : j = i
            · subst e
              rw [hzr.out j (Nat.le_refl _)]
              refine Wd.bd_iff.2 ⟨Nat.zero_le _, fun x hx => absurd hx (Nat.not_lt_zero _), fun k h1 h2 => hno.out k (by rw [HB.out]; exact h1) h2⟩
            · exact hbd.out j (by omega)
          case measure => simp [intOf]; omega
        · have hb0i : 0 < (b : Int) := by omega
          have hb8 : b ≤ cap := by omega
          have hsub : (i : Int) + 1 - (b : Int) = ((i + 1 - b : Nat) : Int) := by omega
          have hA1 : (0 : Int) ≤ (i : Int) + 1 := by omega
          have hA2 : (i : Int) + 1 ≤ (cap : Int) := by omega
          have hw1 : IntKind.i64.wrap ((i : Int) + 1) = (i : Int) + 1 := by rw [IntKind.wrap_i64]; omega
          have hw2 : IntKind.i64.wrap ((i + 1 - b : Nat) : Int) = ((i + 1 - b : Nat) : Int) := by rw [IntKind.wrap_i64]; omega
          cases hst : Wd.stB (Wd.lg P) (Wd.lg P) (i + 1) b (i + 1 - b)
          · have c := fun q => cS b (wr.drewN q) hbi (below_drewN hB q)
            rw [hst] at c
            have HS := hide' hst
            clear hst cS
            go_wp2
            go_quiet ((go_at_call 53; exact Calls.quiet_of (c _)))
            go_wp2_with fail
            go_roundw
            case rel =>
              refine ⟨b - 1, by go_num, by omega, ⟨hI.blk, hI.size, hI.get⟩, below_drewN hB _, fun k h1 h2 h3 => ?_⟩
              by_cases e : k = b
              · subst e
                have := Wd.stB_true.2 ⟨show i + 1 - k + k ≤ i + 1 by omega, h3⟩
                rw [HS.out] at this
                cases this
              · exact hno.out k (by omega) h2 h3
            case measure => simp [intOf]; omega
          · have c := fun q => cS b (wr.drewN q) hbi (below_drewN hB q)
            rw [hst] at c
            have HS := hide' hst
            clear hst cS
            have cB := hI.row i hlt
            rw [Nat.zero_add] at cB
            have fB := Lib.frozen_of_heap hI.blk i
            go_wp2
            go_quiet ((go_at_call 53; exact Calls.quiet_of (c _)))
            go_wp2_with fail
            go_roundw
            case rel =>
              refine ⟨i + 1, fun j => if j = i then b else bf j, cur.setIfInBounds i (.int .i64 b), by go_num, by omega, ⟨Go.Joins.block_setCell hI.blk _, by simp [hI.size], fun j hj => ?_⟩, fun j hj => ?_, fun j hj => ?_, ?_⟩
              · by_cases e : j = i
                · subst e
                  simp [hI.size, hlt]
                · rw [if_neg e, Array.getElem?_setIfInBounds_ne (fun h => e h.symm)]
                  exact hI.get j hj
              · show Wd.Bd (Wd.lg P) (if j = i then b else bf j) j
                by_cases e : j = i
                · subst e
                  rw [if_pos rfl]
                  exact Wd.bd_iff.2 ⟨hbi, (Wd.stB_true.1 HS.out).2, fun k h1 h2 => hno.out k h1 h2⟩
                · rw [if_neg e]
                  exact hbd.out j (by omega)
              · show (if j = i then b else bf j) = 0
                rw [if_neg (by omega)]
                exact hzr.out j (by omega)
              · exact below_drewN (hB.setCell (p := ⟨w1.heap.size, i, none⟩) (Nat.le_refl _) _) _
            case measure => simp [intOf]; omega
    · have hlti : ¬ (i : Int) < (m : Int) := by omega
      have HX : Hid (∃ bf, (∃ cur, IB w4 w1.heap.size m bf cur) ∧ ∀ j, j < m → Wd.Bd (Wd.lg P) (bf j) j) := ⟨bf, ⟨cur, hI⟩, fun j hj => hbd.out j (by omega)⟩
      clear hrow hI hbd hzr
      go_wp2_with fail
      go_ret
      exact ⟨_, rfl, hb1.size, HX.out, hb1.trans (hB.mono hb1.size)⟩
end Go.Proofs.YtfbjkebinbemdaaDoor
