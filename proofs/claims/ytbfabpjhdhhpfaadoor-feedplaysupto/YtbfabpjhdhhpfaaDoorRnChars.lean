/-
  THE WALK over the document's Chars: each character's place, rune and width.
-/
import Derived.Test.YtbfabpjhdhhpfaaDoorRnRefNext
import Derived.Test.YtbfabpjhdhhpfaaDoorRnMm
namespace Go.Proofs.YtbfabpjhdhhpfaaDoor
open Go.RowKit Go.Lib

namespace Rn
/-- place, rune and width of the characters from a place on, by at most so many -/
def chlFrom (f : Nat → Nat) (n : Nat) : Nat → Nat → List (Nat × Nat × Nat)
  | 0, _ => []
  | fuel + 1, p => if p < n then (p, (dec (off f p) (n - p)).1, (dec (off f p) (n - p)).2) :: chlFrom f n fuel (p + (dec (off f p) (n - p)).2) else []
def chl (f : Nat → Nat) (n : Nat) : List (Nat × Nat × Nat) := chlFrom f n n 0
theorem chlFrom_end (f : Nat → Nat) (n fuel p : Nat) (h : ¬ p < n) : chlFrom f n fuel p = [] := by
  cases fuel with
  | zero => rfl
  | succ m => unfold chlFrom; rw [if_neg h]
end Rn
/-- a character's three cells -/
def chOne (x : Nat × Nat × Nat) : List Value := [.int .i64 x.1, .int .i64 x.2.1, .int .i64 x.2.2]
def chCells (l : List (Nat × Nat × Nat)) : List Value := l.flatMap chOne
theorem chCells_snoc (l : List (Nat × Nat × Nat)) (x : Nat × Nat × Nat) : chCells (l ++ [x]) = chCells l ++ chOne x := by simp [chCells]
theorem chCells_length (l : List (Nat × Nat × Nat)) : (chCells l).length = 3 * l.length := by
  induction l with
  | nil => rfl
  | cons a l ih =>
    have : chCells (a :: l) = chOne a ++ chCells l := by simp [chCells]
    rw [this, List.length_append, ih]
    simp [chOne]
    omega

theorem infoCh : (Tryd.prog.info? 116).map (fun i => (i.zero, i.size, i.bytes)) = some (some (.agg #[.int .i64 0, .int .i64 0, .int .i64 0]), 3, 24) := by kernel_rfl
theorem ch_news (W : World) (a r d : Nat) : ∀ j u, ([.int .i64 a, .int .i64 r, .int .i64 d] : List Value)[j]? = some u → (W.alloc (.cells #[.int .i64 a, .int .i64 r, .int .i64 d] 116)).cell? (Addr.add ⟨W.heap.size, 0, none⟩ j) = some u := by
  intro j u hj
  match j, hj with
  | 0, hj => simp at hj; subst hj; simp [Addr.add]
  | 1, hj => simp at hj; subst hj; simp [Addr.add]
  | 2, hj => simp at hj; subst hj; simp [Addr.add]
  | (j + 3), hj => simp at hj
theorem ch_cell (a r d : Nat) : ∀ u ∈ ([.int .i64 a, .int .i64 r, .int .i64 d] : List Value), u.oneCell' = true := by
  intro u hu
  simp at hu
  rcases hu with rfl | rfl | rfl <;> rfl

set_option maxRecDepth 100000 in
set_option maxHeartbeats 2000000 in
theorem chars_any (f : Nat → Nat) (pa : Option Addr) (n cap : Nat) (w : World) (hf : ∀ j, f j < 256) (hc : n ≤ cap) (_hm : cap ≤ maxLen) (hbig : n ≤ 1099511627776) (hp : n = 0 ∨ ∃ b o, pa = some ⟨b, o, none⟩ ∧ Bytes w b o n f) :
    Calls Tryd.prog 60 #[.slice pa n cap] w fun e w' => ∃ v, e = .returned v ∧ w'.ownsRow w.heap.size 116 3 v (Rn.chl f n).length (chCells (Rn.chl f n)) ∧ (Rn.chl f n).length ≤ n ∧ Below w.heap.size w w' := by
  have hm : cap ≤ 9223372036854775807 := by unfold maxLen at _hm; omega
  obtain ⟨i0, hi, hz0, hz1, hz2⟩ := info_parts infoCh
  go_enter Tryd.func60, Tryd.ntmps60
  go_wp2
  go_loopw [3, 4] (fun out i wr => ∃ (k fuel : Nat) (pre : List (Nat × Nat × Nat)), i = .int .i64 k ∧ wr.ownsRow w.heap.size 116 3 out pre.length (chCells pre) ∧ pre ++ Rn.chlFrom f n fuel k = Rn.chl f n ∧ n ≤ k + fuel ∧ k ≤ n ∧ pre.length ≤ k ∧ Below w.heap.size w wr) (fun _ i _ => n - (RowKit.intOf i).toNat)
  case atStart => exact ⟨0, n, [], rfl, World.ownsRow_nil _ _ _ _, rfl, by omega, by omega, by simp, Below.refl _ _⟩
  case round =>
    obtain ⟨k, fuel, pre, rfl, hown, hpre, hfu, hk, hpl, hB⟩ := hrel
    by_cases hlt : k < n
    · have g1 : (k : Int) < n := by omega
      rcases hp with h0 | ⟨b, o, rfl, hby0⟩
      · omega
      obtain ⟨m, rfl⟩ : ∃ m, fuel = m + 1 := ⟨fuel - 1, by omega⟩
      have hby := hby0.below hB (Nat.le_refl _)
      have cF := front_in f n b o cap k wr hlt (by omega) hby
      unfold Rn.chlFrom at hpre
      rw [if_pos hlt, Rn.dec_whole (Rn.off f k) (n - k) (fun _ => hf _) (show 0 < n - k by omega)] at hpre
      have hfl := Rn.fk_le (Rn.off f k) (n - k)
      have hfs := Rn.fk_le_fs (Rn.off f k) (n - k)
      have hs4 := Rn.fs_le (Rn.off f k) (n - k)
      have hbs := hB.size
      cases hwh : Rn.whole (Rn.off f k) (n - k)
      · simp only [hwh, Bool.false_eq_true, if_false] at hpre
        have hx1 : Rn.fs (Rn.off f k) (n - k) = 0 ∨ Rn.fk (Rn.off f k) (n - k) < Rn.fs (Rn.off f k) (n - k) := by
          simp only [Rn.whole, decide_eq_false_iff_not] at hwh
          omega
        have HP := hide' hpre
        clear hpre hwh hby hby0
        generalize Rn.fk (Rn.off f k) (n - k) = q at *
        generalize Rn.fs (Rn.off f k) (n - k) = z at *
        have hsp : z = 0 ∨ (0 < z ∧ q < z) := by omega
        rcases hsp with hz | ⟨hz, hqz⟩
        · subst hz
          go_wp2_with fail
          refine cF.mono ?_
          rintro e w1 ⟨rfl, rfl⟩
          go_wp2_with (at_builtin; refine wpList_append_own _ rfl _ _ 113 rfl w.heap.size 116 i0 (.agg #[.int .i64 0, .int .i64 0, .int .i64 0]) 3 24 Tryd.underlying113 hi hz0 hz1 hz2 rfl (by decide) _ pre.length (chCells pre) rfl (hown.alloc _) ⟨w1.heap.size, 0, none⟩ 1 1 [.int .i64 k, .int .i64 (65533 : Nat), .int .i64 (1 : Nat)] rfl rfl ?c1 ?c2 ?c3 ?c4 ?c5 ?_)
          case c1 => exact ch_news _ k 65533 1
          case c2 => exact ch_cell k 65533 1
          case c3 => unfold maxLen; omega
          case c4 => omega
          case c5 => simp; omega
          intro v' w3 hown' hgrow _
          have hB3 : Below w.heap.size w w3 := (hB.alloc hbs _).grown hgrow (by simp; omega) (fun j hj => (hown.lt j hj).1)
          have hown3 : w3.ownsRow w.heap.size 116 3 v' (pre ++ [(k, 65533, 1)]).length (chCells (pre ++ [(k, 65533, 1)])) := by rw [chCells_snoc, List.length_append]; exact hown'
          clear hown hown' hgrow hB
          go_wp2_with fail
          go_roundw
          case rel => exact ⟨k + 1, m, pre ++ [(k, 65533, 1)], by go_num, hown3, by rw [List.append_assoc]; exact HP.out, by omega, by omega, by simp; omega, hB3⟩
          case measure => simp [RowKit.intOf]; omega
        · have e1 : (0 : Int) < z := by omega
          have e2 : ((q : Int) == z) = false := by simp; omega
          go_wp2_with fail
          refine cF.mono ?_
          rintro e w1 ⟨rfl, rfl⟩
          go_wp2_with (at_builtin; refine wpList_append_own _ rfl _ _ 113 rfl w.heap.size 116 i0 (.agg #[.int .i64 0, .int .i64 0, .int .i64 0]) 3 24 Tryd.underlying113 hi hz0 hz1 hz2 rfl (by decide) _ pre.length (chCells pre) rfl (hown.alloc _) ⟨w1.heap.size, 0, none⟩ 1 1 [.int .i64 k, .int .i64 (65533 : Nat), .int .i64 (1 : Nat)] rfl rfl ?c1 ?c2 ?c3 ?c4 ?c5 ?_)
          case c1 => exact ch_news _ k 65533 1
          case c2 => exact ch_cell k 65533 1
          case c3 => unfold maxLen; omega
          case c4 => omega
          case c5 => simp; omega
          intro v' w3 hown' hgrow _
          have hB3 : Below w.heap.size w w3 := (hB.alloc hbs _).grown hgrow (by simp; omega) (fun j hj => (hown.lt j hj).1)
          have hown3 : w3.ownsRow w.heap.size 116 3 v' (pre ++ [(k, 65533, 1)]).length (chCells (pre ++ [(k, 65533, 1)])) := by rw [chCells_snoc, List.length_append]; exact hown'
          clear hown hown' hgrow hB
          go_wp2_with fail
          go_roundw
          case rel => exact ⟨k + 1, m, pre ++ [(k, 65533, 1)], by go_num, hown3, by rw [List.append_assoc]; exact HP.out, by omega, by omega, by simp; omega, hB3⟩
          case measure => simp [RowKit.intOf]; omega
      · simp only [hwh, if_true] at hpre
        have hww := Rn.whole_self hwh
        simp only [Rn.whole, decide_eq_true_eq] at hwh
        rw [hwh.2] at cF
        have cV := value_any (Rn.off f k) (Rn.fs (Rn.off f k) (n - k)) b (o + k) (cap - k) wr (fun _ => hf _) hww.1 hww.2 ((hby.off (by omega)).le (by omega))
        have HP := hide' hpre
        clear hpre hby hby0 hww
        generalize Rn.fs (Rn.off f k) (n - k) = z at *
        generalize Rn.fv (Rn.off f k) = r at *
        have e1 : (0 : Int) < z := by omega
        have e2 : ((z : Int) == z) = true := by simp
        have hzp := hwh.1
        have hzn : k + z ≤ n := by omega
        go_wp2_with fail
        refine cF.mono ?_
        rintro e w1 ⟨rfl, rfl⟩
        go_wp2_with fail
        refine cV.mono ?_
        rintro e w2 ⟨rfl, rfl⟩
        go_wp2_with (at_builtin; refine wpList_append_own _ rfl _ _ 113 rfl w.heap.size 116 i0 (.agg #[.int .i64 0, .int .i64 0, .int .i64 0]) 3 24 Tryd.underlying113 hi hz0 hz1 hz2 rfl (by decide) _ pre.length (chCells pre) rfl (hown.alloc _) ⟨w2.heap.size, 0, none⟩ 1 1 [.int .i64 k, .int .i64 (r : Nat), .int .i64 (z : Nat)] rfl rfl ?c1 ?c2 ?c3 ?c4 ?c5 ?_)
        case c1 => exact ch_news _ k r z
        case c2 => exact ch_cell k r z
        case c3 => unfold maxLen; omega
        case c4 => omega
        case c5 => simp; omega
        intro v' w3 hown' hgrow _
        have hB3 : Below w.heap.size w w3 := (hB.alloc hbs _).grown hgrow (by simp; omega) (fun j hj => (hown.lt j hj).1)
        have hown3 : w3.ownsRow w.heap.size 116 3 v' (pre ++ [(k, r, z)]).length (chCells (pre ++ [(k, r, z)])) := by rw [chCells_snoc, List.length_append]; exact hown'
        clear hown hown' hgrow hB
        go_wp2_with fail
        go_roundw
        case rel => exact ⟨k + z, m, pre ++ [(k, r, z)], by go_num, hown3, by rw [List.append_assoc]; exact HP.out, by omega, by omega, by simp; omega, hB3⟩
        case measure => simp [RowKit.intOf]; omega
    · have g1 : ¬ (k : Int) < n := by omega
      rw [Rn.chlFrom_end _ _ _ _ hlt, List.append_nil] at hpre
      have HP := hide' hpre
      clear hpre
      go_wp2_with fail
      go_ret
      exact ⟨_, rfl, by rw [← HP.out]; exact hown, by rw [← HP.out]; omega, hB⟩
end Go.Proofs.YtbfabpjhdhhpfaaDoor
