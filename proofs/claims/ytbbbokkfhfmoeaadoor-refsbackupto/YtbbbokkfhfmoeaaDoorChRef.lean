/-
  WALKS over the document's Is, Next and Count. (Made by gen_ref.py.)
-/
import Derived.Test.YtbbbokkfhfmoeaaDoorChRanges
namespace Go.Proofs.YtbbbokkfhfmoeaaDoor
open Go.RowKit Go.Lib

namespace Ch
theorem rg_length (c : Int) : (rg c).length ≤ 45 := by
  unfold rg pick
  rw [List.length_map]
  exact Nat.le_trans (List.length_filter_le _ _) (by rw [tab_length]; omega)
theorem rise_small {b : Nat} {l : List (Nat × Nat)} (h : rise b l = true) : ∀ p ∈ l, p.1 ≤ p.2 ∧ p.2 ≤ 1114111 := by
  induction l generalizing b with
  | nil => intro p hp; cases hp
  | cons q t ih =>
    obtain ⟨h1, h2, h3, h4⟩ := rise_cons h
    intro p hp
    rcases List.mem_cons.1 hp with rfl | hp
    · exact ⟨h2, h3⟩
    · exact ih h4 p hp
theorem rg_small (c : Int) : ∀ p ∈ rg c, p.1 ≤ p.2 ∧ p.2 ≤ 1114111 := rise_small (rg_rise c)
theorem isR_cons (p : Nat × Nat) (t : List (Nat × Nat)) (r : Int) : isR (p :: t) r = if (p.1 : Int) ≤ r ∧ r ≤ (p.2 : Int) then true else isR t r := rfl
theorem nextR_cons (p : Nat × Nat) (t : List (Nat × Nat)) (r : Int) : nextR (p :: t) r = if r < (p.2 : Int) then (max (p.1 : Int) (r + 1), true) else nextR t r := rfl
theorem countR_cons (p : Nat × Nat) (t : List (Nat × Nat)) (r : Int) : countR (p :: t) r = (if (p.1 : Int) ≤ r then min (p.2 : Int) r - p.1 + 1 else 0) + countR t r := rfl
end Ch

set_option maxHeartbeats 1000000 in
theorem refIs_any (c r : Int) (w : World) :
    Calls Tryd.prog 50 #[.int .i64 c, .int .i64 r] w fun e w' => e = .returned (.bool (Ch.isR (Ch.rg c) r)) ∧ Below w.heap.size w w' := by
  have cR := ranges_any c w
  have hlen : (Ch.rg c).length ≤ 45 := Ch.rg_length c
  have hL := Ch.rg_small c
  generalize Ch.rg c = L at *
  go_enter Tryd.func50, Tryd.ntmps50
  go_wp2_with fail
  refine cR.mono ?_
  rintro e w1 ⟨v, rfl, hV, hb1⟩
  clear cR
  have hbb := hb1.size
  obtain ⟨pa, cap, rfl, hat⟩ := hV
  go_wp2_with fail
  go_loopw [10] (fun i wr => ∃ k : Nat, i = .int .i64 k ∧ k ≤ L.length ∧ Ch.isR (L.drop k) r = Ch.isR L r ∧ Below w1.heap.size w1 wr) (fun i _ => L.length - (RowKit.intOf i).toNat)
  case atStart => exact ⟨0, rfl, by omega, rfl, Below.refl _ _⟩
  case round =>
    obtain ⟨k, rfl, hk, hd, hB⟩ := hrel
    by_cases hlt : k < L.length
    · rcases hat with h0 | ⟨b, o, rfl, hc⟩
      · subst h0; simp at hlt
      have g1 : (k : Int) < L.length := by omega
      obtain ⟨c1, c2⟩ := hc k _ (List.getElem?_eq_getElem hlt)
      have hsm := hL _ (List.getElem_mem hlt)
      have e1 := (hB.cell (p := ⟨b, o + k * 2, none⟩) (block_lt_of_cell c1)).trans c1
      have e2 := (hB.cell (p := ⟨b, o + k * 2 + 1, none⟩) (block_lt_of_cell c2)).trans c2
      rw [List.drop_eq_getElem_cons hlt, Ch.isR_cons] at hd
      have hbs := hB.size
      generalize L[k] = p at *
      obtain ⟨lo, hi⟩ := p
      simp only at e1 e2 hd hsm
      clear c1 c2 hc
      by_cases q : (lo : Int) ≤ r ∧ r ≤ (hi : Int)
      · rw [if_pos q] at hd
        obtain ⟨q2, q3⟩ := q
        have HD := hide' hd
        clear hd
        go_wp2
        go_ret
        exact ⟨by rw [← HD.out]; rfl, hb1.trans ((hB.alloc hbs _).mono hbb)⟩
      · rw [if_neg q] at hd
        have HD := hide' hd
        clear hd
        by_cases q2 : (lo : Int) ≤ r
        · have q3 : ¬ r ≤ (hi : Int) := fun h => q ⟨q2, h⟩
          clear q
          go_wp2
          go_roundw
          case rel => exact ⟨k + 1, by go_num, by omega, HD.out, hB.alloc hbs _⟩
          case measure => simp [RowKit.intOf]; omega
        · clear q
          go_wp2
          go_roundw
          case rel => exact ⟨k + 1, by go_num, by omega, HD.out, hB.alloc hbs _⟩
          case measure => simp [RowKit.intOf]; omega
    · obtain rfl : k = L.length := by omega
      rw [List.drop_length] at hd
      have HD := hide' hd
      clear hd hat
      go_wp2
      go_ret
      exact ⟨by rw [← HD.out]; rfl, hb1.trans (hB.mono hbb)⟩

end Go.Proofs.YtbbbokkfhfmoeaaDoor
