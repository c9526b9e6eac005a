/-
  The program's table of ranges in memory, and WALKS over chars.Is, chars.Next and chars.Count.
-/
import Derived.Test.YtcmjipgigkalcaaDoorChMath
import Derived.Test.YtcmjipgigkalcaaDoorRows
import Derived.Test.YtcmjipgigkalcaaDoorRnBeg
import Derived.WalkKit
import Derived.WalkSpells
import Derived.WalkLawsBesides
import Derived.LoopTactic
namespace Go.Proofs.YtcmjipgigkalcaaDoor
open Go.RowKit Go.Lib


/-- the table lies in memory: the variable's slice, and the cells of its ranges -/
def Spans (w : World) : Prop := ∃ b o cap, w.cell? ⟨0, 0, none⟩ = some (.slice (some ⟨b, o, none⟩) 45 cap) ∧
  ∀ i s, Ch.tab[i]? = some s → w.cell? ⟨b, o + i * 3, none⟩ = some (.int .i64 (s.1 : Nat)) ∧ w.cell? ⟨b, o + i * 3 + 1, none⟩ = some (.int .i32 (s.2.1 : Nat)) ∧ w.cell? ⟨b, o + i * 3 + 2, none⟩ = some (.int .i32 (s.2.2 : Nat))
theorem Spans.below {w w' : World} {B : Nat} (h : Spans w) (hb : Below B w w') (hB : w.heap.size ≤ B) : Spans w' := by
  obtain ⟨b, o, cap, h0, hc⟩ := h
  have k : ∀ {p : Addr} {v}, w.cell? p = some v → w'.cell? p = some v := fun {p v} e => (hb.cell (p := p) (Nat.lt_of_lt_of_le (block_lt_of_cell e) hB)).trans e
  refine ⟨b, o, cap, k h0, fun i s hs => ?_⟩
  obtain ⟨c1, c2, c3⟩ := hc i s hs
  exact ⟨k c1, k c2, k c3⟩

set_option maxHeartbeats 1000000 in
theorem is_any (c r : Int) (w : World) (hS : Spans w) :
    Calls Tryd.prog 62 #[.int .i64 c, .int .i32 r] w fun e w' => e = .returned (.bool (Ch.isT Ch.tab c r)) ∧ Below w.heap.size w w' := by
  obtain ⟨b, o, cap, h0, hc⟩ := hS
  go_enter Tryd.func62, Tryd.ntmps62
  go_wp2
  go_loopw [9] (fun i wr => ∃ k : Nat, i = .int .i64 k ∧ k ≤ 45 ∧ Ch.isT (Ch.tab.drop k) c r = Ch.isT Ch.tab c r ∧ Below w.heap.size w wr) (fun i _ => 45 - (RowKit.intOf i).toNat)
  case atStart => exact ⟨0, rfl, by omega, rfl, Below.refl _ _⟩
  case round =>
    obtain ⟨k, rfl, hk, hd, hB⟩ := hrel
    by_cases hlt : k < 45
    · have g1 : (k : Int) < 45 := by omega
      have hkl : k < Ch.tab.length := by rw [Ch.tab_length]; exact hlt
      obtain ⟨c1, c2, c3⟩ := hc k _ (List.getElem?_eq_getElem hkl)
      have e1 := (hB.cell (p := ⟨b, o + k * 3, none⟩) (block_lt_of_cell c1)).trans c1
      have e2 := (hB.cell (p := ⟨b, o + k * 3 + 1, none⟩) (block_lt_of_cell c2)).trans c2
      have e3 := (hB.cell (p := ⟨b, o + k * 3 + 2, none⟩) (block_lt_of_cell c3)).trans c3
      rw [List.drop_eq_getElem_cons hkl, Ch.isT_cons] at hd
      have hbs := hB.size
      generalize Ch.tab[k] = s at *
      obtain ⟨cl, lo, hi⟩ := s
      simp only at e1 e2 e3 hd
      clear c1 c2 c3 hc h0 hkl
      by_cases q : (cl : Int) = c ∧ (lo : Int) ≤ r ∧ r ≤ (hi : Int)
      · rw [if_pos q] at hd
        obtain ⟨q1, q2, q3⟩ := q
        have n1 : ((cl : Int) == c) = true := by simp [q1]
        have HD := hide' hd
        clear hd q1
        go_wp2
        go_ret
        exact ⟨by rw [← HD.out]; rfl, hB.alloc hbs _⟩
      · rw [if_neg q] at hd
        have HD := hide' hd
        clear hd
        by_cases q1 : (cl : Int) = c
        · have n1 : ((cl : Int) == c) = true := by simp [q1]
          by_cases q2 : (lo : Int) ≤ r
          · have q3 : ¬ r ≤ (hi : Int) := fun h => q ⟨q1, q2, h⟩
            clear q q1
            go_wp2
            go_roundw
            case rel => exact ⟨k + 1, by go_num, by omega, HD.out, hB.alloc hbs _⟩
            case measure => simp [RowKit.intOf]; omega
          · clear q q1
            go_wp2
            go_roundw
            case rel => exact ⟨k + 1, by go_num, by omega, HD.out, hB.alloc hbs _⟩
            case measure => simp [RowKit.intOf]; omega
        · have n1 : ((cl : Int) == c) = false := by simp [q1]
          clear q q1
          go_wp2
          go_roundw
          case rel => exact ⟨k + 1, by go_num, by omega, HD.out, hB.alloc hbs _⟩
          case measure => simp [RowKit.intOf]; omega
    · obtain rfl : k = 45 := by omega
      rw [show Ch.tab.drop 45 = [] from by decide] at hd
      have HD := hide' hd
      clear hd hc h0
      go_wp2
      go_ret
      exact ⟨by rw [← HD.out]; rfl, hB⟩

end Go.Proofs.YtcmjipgigkalcaaDoor
