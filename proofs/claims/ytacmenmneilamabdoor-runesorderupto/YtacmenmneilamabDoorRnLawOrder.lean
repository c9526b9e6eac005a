/-
  THE WALK over gimletlaw01.RunesOrder: of any two texts.
-/
import Derived.Test.YtacmenmneilamabDoorRnMc
import Derived.Test.YtacmenmneilamabDoorRnAwake
import Derived.Deep.QuietTactic
import Derived.BigQuiet
namespace Go.Proofs.YtacmenmneilamabDoor
open Go.RowKit Go.Shelf

set_option maxRecDepth 100000 in
set_option maxHeartbeats 4000000 in
theorem lawOrder_any (f : Nat → Nat) (m : Nat) (g : Nat → Nat) (n : Nat) (w : World) (hT : Lib.Utf8Tabs 0 1 w) (hf : ∀ j, f j < 256) (hg : ∀ j, g j < 256) (hm : m ≤ 1099511627776) (hn : n ≤ 1099511627776) :
    Calls Tryd.prog 4 #[.string (Rn.arr f m), .string (Rn.arr g n)] w fun e w' => e = .returned (.bool true) ∧ Below w.heap.size w w' := by
  have cA := awake_any w hT
  go_enter Tryd.func4, Tryd.ntmps4
  go_wp2_with fail
  refine cA.mono ?_
  rintro e w1 ⟨rfl, hb1⟩
  clear cA
  go_wp2_with fail
  refine (mend_cat f m w1 hf (by omega)).mono ?_
  rintro e w2 ⟨L, -, rfl, hb2, hl1, hs1⟩
  have hB2 := hb1.trans (hb2.mono hb1.size)
  go_wp2_with fail
  refine (mend_cat g n w2 hg (by omega)).mono ?_
  rintro e w3 ⟨M, -, rfl, hb3, hl2, hs2⟩
  have hB3 := hB2.trans (hb3.mono hB2.size)
  go_wp2_with fail
  refine (runes_cat L hs1 w3 (by omega)).mono ?_
  rintro e w4 ⟨cap1, rfl, hc1, hc1', hx4, hb4, hz4, -⟩
  have hB4 := hB3.trans (hb4.mono hB3.size)
  go_wp2_with fail
  refine (runes_cat M hs2 w4 (by omega)).mono ?_
  rintro e w5 ⟨cap2, rfl, hc2, hc2', hy5, hb5, hz5, -⟩
  have hB5 := hB4.trans (hb5.mono hB4.size)
  have hx5 := hx4.below hb5 (Nat.le_refl _)
  go_wp2_with fail
  clear hx4 hb2 hb3 hb4 hb5
  go_loopw [7] (fun i wr => ∃ k : Nat, i = .int .i64 k ∧ Below w5.heap.size w5 wr ∧ L.take k = M.take k ∧ k ≤ L.length ∧ k ≤ M.length) (fun i _ => L.length - (RowKit.intOf i).toNat)
  case atStart => exact ⟨0, rfl, Below.refl _ _, rfl, by omega, by omega⟩
  case round =>
    obtain ⟨k, rfl, hB, ht, hk1, hk2⟩ := hrel
    have hk9 : k ≤ 9223372036854775807 := by unfold maxLen at hc1'; omega
    by_cases hl : k < L.length ∧ k < M.length
    · obtain ⟨l1, l2⟩ := hl
      have hk8 : k + 1 ≤ 9223372036854775807 := by unfold maxLen at hc1'; omega
      have g1 : (k : Int) < L.length := by omega
      have g2 : (k : Int) < M.length := by omega
      have cx := (hx5.below hB (Nat.le_refl _)) k l1
      have cy := (hy5.below hB (Nat.le_refl _)) k l2
      rw [Nat.zero_add] at cx
      rw [Nat.zero_add, hz4] at cy
      have hs : L[k] ∈ L := List.getElem_mem l1
      have hs' : M[k] ∈ M := List.getElem_mem l2
      have eL : L = L.take k ++ L[k] :: L.drop (k + 1) := by simp
      have eM : M = L.take k ++ M[k] :: M.drop (k + 1) := by rw [ht]; simp
      by_cases he : L[k] = M[k]
      · have ht' : L.take (k + 1) = M.take (k + 1) := by
          rw [List.take_add_one, List.take_add_one, ht, List.getElem?_eq_getElem l1, List.getElem?_eq_getElem l2, he]
        have HT := hide' ht'
        have HL := hide' (show k + 1 ≤ L.length ∧ k + 1 ≤ M.length by omega)
        rw [he] at cx
        clear ht ht' eL eM
        generalize M[k] = b at *
        have n1 : ((b : Int) != b) = false := by simp
        go_wp2
        go_quiet (fail)
        go_wp2
        go_roundw
        case rel => exact ⟨k + 1, by go_num, below_drewN hB _, HT.out, HL.out.1, HL.out.2⟩
        case measure => have := HL.out; simp [RowKit.intOf]; omega
      · obtain ⟨q1, q2⟩ := Rn.cat_part (L.take k) (L.drop (k + 1)) (M.drop (k + 1)) L[k] M[k] (hs1 _ hs) (hs2 _ hs') he
        rw [← eL, ← eM] at q1 q2
        rw [← Rn.tx_toList, ← Rn.tx_toList] at q1 q2
        clear ht eL eM
        have q3 : ((Rn.tx L).toList == (Rn.tx M).toList) = false := by simpa using q2
        generalize L[k] = a at *
        generalize M[k] = b at *
        have n1 : ((a : Int) != b) = true := by simp; omega
        go_wp2
        go_quiet (fail)
        go_wp2
        go_quiet (fail)
        go_wp2
        go_ret
        exact ⟨rfl, below_drewN (below_drewN (hB5.trans (hB.mono hB5.size)) _) _⟩
    · have hz : L.drop k = [] ∨ M.drop k = [] := by
        rcases Nat.lt_or_ge k L.length with h | h
        · exact .inr (List.drop_eq_nil_of_le (by omega))
        · exact .inl (List.drop_eq_nil_of_le h)
      obtain ⟨q1, q2⟩ := Rn.cat_short (L.take k) (L.drop k) (M.drop k) hz
      rw [ht] at q1 q2
      have eL : M.take k ++ L.drop k = L := by rw [← ht]; simp
      have eM : M.take k ++ M.drop k = M := by simp
      rw [eL, eM, ← Rn.tx_toList, ← Rn.tx_toList] at q1 q2
      have q3 : ((Rn.tx L).toList == (Rn.tx M).toList) = decide (L.length = M.length) := by
        rw [Bool.eq_iff_iff]
        simpa using q2
      have HQ := hide' q1
      have HR := hide' q3
      clear ht hz q1 q2 q3 eL eM
      have hB' := hB5.trans (hB.mono hB5.size)
      by_cases h1 : (k : Int) < L.length
      · have h2 : ¬ (k : Int) < M.length := by omega
        go_wp2
        · go_ret
          refine ⟨ret_bool ?_, hB'⟩
          rw [HR.out]
          by_cases e : L.length = M.length
          · simp [e]
          · have e2 : ((L.length : Int) == (M.length : Int)) = false := by simp; omega
            rw [e2]
            simp [e]
        · next hbad => exact absurd HQ.out.symm hbad
      · go_wp2
        · go_ret
          refine ⟨ret_bool ?_, hB'⟩
          rw [HR.out]
          by_cases e : L.length = M.length
          · simp [e]
          · have e2 : ((L.length : Int) == (M.length : Int)) = false := by simp; omega
            rw [e2]
            simp [e]
        · next hbad => exact absurd HQ.out.symm hbad
end Go.Proofs.YtacmenmneilamabDoor
