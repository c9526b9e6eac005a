/-
  WALKS over the document's text, Length, Sub, Reverse, order, Compare.
-/
import Derived.Test.YtfbjkebinbemdaaDoorWdRef
import Derived.Test.YtfbjkebinbemdaaDoorWdSub
import Derived.Test.YtfbjkebinbemdaaDoorWdRev
import Derived.Test.YtfbjkebinbemdaaDoorWdBorder
namespace Go.Proofs.YtfbjkebinbemdaaDoor
open Go.RowKit

set_option maxHeartbeats 1000000 in
theorem text_own {B : Nat} {v : Value} {L : List Nat} (hL : ∀ r ∈ L, Rn.scal r) (w : World) (h : w.ownsRow B 21 1 v L.length (rc L)) :
    Calls Tryd.prog 37 #[v] w fun e w' => e = .returned (.string (Rn.tx L)) ∧ w' = w := by
  rcases h.2 with ⟨h1, h2⟩ | ⟨g, cap, cur, h1, h2, h3, h4, h5, h6, h7⟩
  · subst h1
    obtain rfl : L = [] := List.length_eq_zero_iff.1 h2
    have hc := run_convert_runes_nil (P := Tryd.prog) w 38 9 21 0 0 Tryd.underlying38 Tryd.underlying21 Tryd.underlying9
    go_enter Tryd.func37, Tryd.ntmps37
    go_wp2
    go_ret
    exact ⟨by rw [tx_eq]; rfl, rfl⟩
  · subst h1
    have hc := run_convert_runes (P := Tryd.prog) w 38 9 21 ⟨g, 0, none⟩ L.length cap (L.map (fun r : Nat => (r : Int))) (by simp) Tryd.underlying38 Tryd.underlying21 Tryd.underlying9 (fun j hj => by
      rw [List.length_map] at hj
      rw [Addr.add_lit, Nat.zero_add, Lib.cell_of_heap h3, ← Array.getElem?_toList]
      have e2 : cur.toList[j]? = (rc L)[j]? := by
        rw [← h7, List.getElem?_take, if_pos (by omega)]
      rw [e2]
      simp [rc, hj])
    rw [List.take_of_length_le (by simp), Rn.runesBytes_tx L hL] at hc
    go_enter Tryd.func37, Tryd.ntmps37
    go_wp2
    go_ret
    exact ⟨rfl, rfl⟩

set_option maxHeartbeats 1000000 in
theorem refLength3_any (f : Nat → Nat) (n : Nat) (w : World) (hf : ∀ j, f j < 256) (hn : n ≤ 1099511627776) :
    Calls Tryd.prog 11 #[.string (Rn.arr f n)] w fun e w' => e = .returned (.int .i64 (Wd.R f n 0).length) ∧ Below w.heap.size w w' := by
  have c1 := refRunes_any f n w hf hn
  generalize Wd.R f n 0 = L at *
  go_enter Tryd.func11, Tryd.ntmps11
  go_wp2_with fail
  refine c1.mono ?_
  rintro e w1 ⟨v1, rfl, ⟨pa, cap, rfl, -, -, -⟩, hb1⟩
  go_wp2
  go_ret
  exact ⟨rfl, hb1⟩

set_option maxHeartbeats 1000000 in
theorem order_any (a b : Int) (w : World) :
    Calls Tryd.prog 47 #[.int .i64 a, .int .i64 b] w fun e w' => e = .returned (.int .i64 (Wd.cm a b)) ∧ w' = w := by
  unfold Wd.cm
  by_cases h1 : a < b
  · rw [if_pos h1]
    go_enter Tryd.func47, Tryd.ntmps47
    go_wp2
    go_ret
    exact ⟨rfl, rfl⟩
  · rw [if_neg h1]
    by_cases h2 : b < a
    · rw [if_pos h2]
      go_enter Tryd.func47, Tryd.ntmps47
      go_wp2
      go_ret
      exact ⟨rfl, rfl⟩
    · rw [if_neg h2]
      go_enter Tryd.func47, Tryd.ntmps47
      go_wp2
      go_ret
      exact ⟨rfl, rfl⟩

namespace Wd
theorem take0 (L M : List Nat) : Hid (L.take 0 = M.take 0) := by
  show L.take 0 = M.take 0
  rw [List.take_zero, List.take_zero]
theorem cm_lt' {x y : Int} (h : x < y) : cm x y = -1 := by unfold cm; rw [if_pos h]
theorem cm_gt' {x y : Int} (h : y < x) : cm x y = 1 := by unfold cm; rw [if_neg (by omega), if_pos h]
theorem cm_eq' (x : Int) : cm x x = 0 := by unfold cm; rw [if_neg (by omega), if_neg (by omega)]
/-- where the first k are alike -/
theorem cmp_at {L M : List Nat} {k : Nat} (ht : L.take k = M.take k) (h1 : k < L.length) (h2 : k < M.length) (hne : lg L k ≠ lg M k) : cmp L M = cm (lg L k) (lg M k) := by
  have eL : L = L.take k ++ lg L k :: L.drop (k + 1) := by simp [lg, h1]
  have eM : M = L.take k ++ lg M k :: M.drop (k + 1) := by rw [ht]; simp [lg, h2]
  unfold cmp
  have := fu_part (L.take k) (lg L k) (lg M k) (L.drop (k + 1)) (M.drop (k + 1)) hne
  rw [← eL, ← eM] at this
  rw [this]
theorem cmp_end {L M : List Nat} {k : Nat} (ht : L.take k = M.take k) (hk1 : k ≤ L.length) (hk2 : k ≤ M.length) (h : ¬ (k < L.length ∧ k < M.length)) : cmp L M = cm L.length M.length := by
  unfold cmp
  by_cases e : k < L.length
  · have h2 : M.length = k := by omega
    have eM : M = L.take k := by rw [ht, List.take_of_length_le (by omega)]
    have eL : L = L.take k ++ lg L k :: L.drop (k + 1) := by simp [lg, e]
    have := fu_right (L.take k) (lg L k) (L.drop (k + 1))
    rw [← eL, ← eM] at this
    rw [this, cm_gt' (by simp only []; omega), cm_gt' (by omega)]
  · have h1 : L.length = k := by omega
    have eL : L = M.take k := by rw [← ht, List.take_of_length_le (by omega)]
    by_cases e2 : k < M.length
    · have eM : M = M.take k ++ lg M k :: M.drop (k + 1) := by simp [lg, e2]
      have := fu_left (M.take k) (lg M k) (M.drop (k + 1))
      rw [← eM, ← eL] at this
      rw [this, cm_lt' (by simp only []; omega), cm_lt' (by omega)]
    · have eM : M = M.take k := (List.take_of_length_le (by omega)).symm
      rw [← eM] at eL
      rw [eL, fu_same, cm_eq', cm_eq']
theorem take_snoc_eq {L M : List Nat} {k : Nat} (ht : L.take k = M.take k) (h1 : k < L.length) (h2 : k < M.length) (he : lg L k = lg M k) : L.take (k + 1) = M.take (k + 1) := by
  have h : L[k] = M[k] := by simpa [lg, h1, h2] using he
  rw [List.take_add_one, List.take_add_one, ht, List.getElem?_eq_getElem h1, List.getElem?_eq_getElem h2, h]
end Wd

set_option maxRecDepth 100000 in
set_option maxHeartbeats 2000000 in
theorem refCompare_any (f : Nat → Nat) (n : Nat) (g : Nat → Nat) (m : Nat) (w : World) (hf : ∀ j, f j < 256) (hg : ∀ j, g j < 256) (hn : n ≤ 1099511627776) (hm : m ≤ 1099511627776) :
    Calls Tryd.prog 19 #[.string (Rn.arr f n), .string (Rn.arr g m)] w fun e w' => e = .returned (.int .i64 (Wd.cmp (Wd.R f n 0) (Wd.R g m 0))) ∧ Below w.heap.size w w' := by
  have c1 := refRunes_any f n w hf hn
  have c2 := fun w1 => refRunes_any g m w1 hg hm
  have hl1 := Wd.R_length f n 0 hf
  have hl2 := Wd.R_length g m 0 hg
  generalize Wd.R f n 0 = L at *
  generalize Wd.R g m 0 = M at *
  obtain ⟨z, hz⟩ : ∃ z, z = Wd.cmp L M := ⟨_, rfl⟩
  rw [← hz]
  have HZ := hide' hz
  clear hz
  go_enter Tryd.func19, Tryd.ntmps19
  go_wp2_with fail
  refine c1.mono ?_
  rintro e w1 ⟨v1, rfl, hr1, hb1⟩
  go_wp2_with fail
  refine (c2 w1).mono ?_
  rintro e w2 ⟨v2, rfl, hr2, hb2⟩
  have hr1' := hr1.below hb2 (Nat.le_refl _)
  have hB2 := hb1.trans (hb2.mono hb1.size)
  obtain ⟨p1, k1, rfl, a1, a2, a3⟩ := hr1'
  obtain ⟨p2, k2, rfl, b1, b2, b3⟩ := hr2
  clear hr1 c1 c2
  go_wp2_with fail
  go_loopw [7] (fun a wr => ∃ k : Nat, a = .int .i64 k ∧ k ≤ L.length ∧ k ≤ M.length ∧ Hid (L.take k = M.take k) ∧ Below w2.heap.size w2 wr) (fun a _ => L.length - (intOf a).toNat)
  case atStart => exact ⟨0, rfl, Nat.zero_le _, Nat.zero_le _, Wd.take0 L M, Below.refl _ _⟩
  case round =>
    obtain ⟨k, rfl, hk1, hk2, ht, hB⟩ := hrel
    have hBw := hB2.trans (hB.mono hB2.size)
    by_cases hl : k < L.length ∧ k < M.length
    · obtain ⟨l1, l2⟩ := hl
      have g1 : (k : Int) < L.length := by omega
      have g2 : (k : Int) < M.length := by omega
      rcases a3 with h0 | ⟨ga, oa, rfl, ra⟩
      · omega
      rcases b3 with h0 | ⟨gb, ob, rfl, rb⟩
      · omega
      have cx := (ra.below hB (Nat.le_refl _)) k l1
      have cy := (rb.below hB (Nat.le_refl _)) k l2
      clear ra rb
      by_cases he : Wd.lg L k = Wd.lg M k
      · have HT := hide' (Wd.take_snoc_eq ht.out l1 l2 he)
        rw [he] at cx
        clear he
        generalize Wd.lg M k = b at *
        have n1 : ¬ (b : Int) < b := by omega
        go_wp2
        go_quiet (fail)
        go_wp2
        go_quiet (fail)
        go_wp2
        go_roundw
        case rel => exact ⟨k + 1, by go_num, by omega, by omega, HT, below_drewN hB _⟩
        case measure => simp [intOf]; omega
      · have hz := Wd.cmp_at ht.out l1 l2 he
        generalize Wd.lg L k = a at *
        generalize Wd.lg M k = b at *
        by_cases h : (a : Int) < b
        · rw [Wd.cm_lt' h] at hz
          have HZ2 := hide' (HZ.out.trans hz)
          clear hz HZ
          go_wp2
          go_quiet (fail)
          go_wp2
          go_ret
          exact ⟨ret_int HZ2.out.symm, by first | exact below_drewN hBw _ | exact below_drewN (below_drewN hBw _) _⟩
        · have h' : (b : Int) < a := by omega
          rw [Wd.cm_gt' h'] at hz
          have HZ2 := hide' (HZ.out.trans hz)
          clear hz HZ
          go_wp2
          go_quiet (fail)
          go_wp2
          go_quiet (fail)
          go_wp2
          go_ret
          exact ⟨ret_int HZ2.out.symm, by first | exact below_drewN hBw _ | exact below_drewN (below_drewN hBw _) _⟩
    · have HZ2 := hide' (HZ.out.trans (Wd.cmp_end ht.out hk1 hk2 hl))
      clear HZ a3 b3
      by_cases h : k < L.length
      · have g1 : (k : Int) < L.length := by omega
        have g2 : ¬ (k : Int) < M.length := by omega
        go_wp2_with (go_at_call 47; refine (order_any _ _ _).mono ?_; rintro e w' ⟨rfl, rfl⟩)
        go_ret
        exact ⟨ret_int HZ2.out.symm, hBw⟩
      · have g1 : ¬ (k : Int) < L.length := by omega
        go_wp2_with (go_at_call 47; refine (order_any _ _ _).mono ?_; rintro e w' ⟨rfl, rfl⟩)
        go_ret
        exact ⟨ret_int HZ2.out.symm, hBw⟩
end Go.Proofs.YtfbjkebinbemdaaDoor
