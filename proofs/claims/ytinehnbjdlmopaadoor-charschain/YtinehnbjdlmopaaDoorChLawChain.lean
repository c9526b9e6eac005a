/-
  THE WALK over gimletlaw02.CharsChain: at every class and rune.
-/
import Derived.Test.YtinehnbjdlmopaaDoorChFix
namespace Go.Proofs.YtinehnbjdlmopaaDoor
open Go.RowKit Go.Lib

namespace Ch
theorem chain_step (c r : Int) : countT tab c r - countT tab c (r - 1) = if isT tab c r then 1 else 0 := by
  rw [countT_eq, countT_eq, isT_eq]
  exact countR_step (rg_rise c) r
theorem chain_none (c r : Int) (h : (nextT tab c r).2 = false) : (nextT tab c r).1 = 0 ∧ ∀ r', r ≤ r' → countT tab c r' = countT tab c r := by
  rw [nextT_eq] at h ⊢
  obtain ⟨h1, h2⟩ := nextR_none (rg_rise c) h
  exact ⟨h1, fun r' hr => by rw [countT_eq, countT_eq]; exact h2 r' hr⟩
theorem chain_some (c r : Int) (h : (nextT tab c r).2 = true) : r < (nextT tab c r).1 ∧ 0 ≤ (nextT tab c r).1 ∧ (nextT tab c r).1 ≤ 1114111 ∧ isT tab c (nextT tab c r).1 = true ∧
    countT tab c (nextT tab c r).1 = countT tab c r + 1 ∧ countT tab c ((nextT tab c r).1 - 1) = countT tab c r := by
  simp only [nextT_eq, countT_eq, isT_eq] at h ⊢
  obtain ⟨h1, h2, h3, h4, h5, h6⟩ := nextR_some (rg_rise c) h
  exact ⟨h1, h2, h3, h4, h5, h6⟩
theorem count_bound (c r : Int) : 0 ≤ countT tab c r ∧ countT tab c r ≤ 1114112 := by
  rw [countT_eq]
  have : 0 ≤ countR (pick tab c) r ∧ (countR (pick tab c) r + (0 : Nat) ≤ 1114112 ∨ countR (pick tab c) r = 0) := countR_bound (rg_rise c) r
  exact ⟨this.1, by rcases this.2 with h | h <;> omega⟩
end Ch

set_option maxHeartbeats 4000000 in
theorem lawChain_any (c r : Int) (w : World) (hr0 : -2147483648 ≤ r) (hr1 : r ≤ 2147483647) (hS : Spans w) (hT : Lib.Utf8Tabs 1 2 w) :
    Calls Tryd.prog 6 #[.int .i64 c, .int .i32 r] w fun e w' => e = .returned (.bool true) ∧ Below w.heap.size w w' := by
  have cF := fixed_any w hS hT
  have cC : ∀ (x : Int) w1, -2147483648 ≤ x → x ≤ 2147483647 → Below w.heap.size w w1 → _ := fun x w1 h1 h2 hb => count_any c x w1 (hS.below hb (Nat.le_refl _)) h1 h2
  have cI : ∀ (x : Int) w1, Below w.heap.size w w1 → _ := fun x w1 hb => is_any c x w1 (hS.below hb (Nat.le_refl _))
  have cN : ∀ w1, Below w.heap.size w w1 → _ := fun w1 hb => chNext_any c r w1 (hS.below hb (Nat.le_refl _)) hr0
  have hstep := Ch.chain_step c r
  have hnone := Ch.chain_none c r
  have hsome := Ch.chain_some c r
  have hbd := Ch.count_bound c
  clear hS hT
  generalize Ch.nextT Ch.tab c r = nx at *
  obtain ⟨nv, nb⟩ := nx
  generalize Ch.countT Ch.tab c = C at *
  generalize Ch.isT Ch.tab c = I at *
  simp only at hnone hsome cN
  cases nb
  · obtain ⟨rfl, hall⟩ := hnone rfl
    have e1 := hall 2147483647 hr1
    have c1 := cC 2147483647
    rw [e1] at c1
    have b1 := hbd r
    clear hall hsome hbd hnone
    by_cases hlow : r = -2147483648
    · subst hlow
      clear cI hstep
      go_enter Tryd.func6, Tryd.ntmps6
      go_wp2_with fail
      refine cF.mono ?_
      rintro e w1 ⟨rfl, hb1⟩
      go_wp2_with fail
      refine (cC _ w1 hr0 hr1 hb1).mono ?_
      rintro e w2 ⟨rfl, hb2⟩
      have hB2 := hb1.trans (hb2.mono hb1.size)
      go_wp2_with fail
      refine (cN w2 hB2).mono ?_
      rintro e v1 ⟨rfl, hv1⟩
      have hV1 := hB2.trans (hv1.mono hB2.size)
      go_wp2_with fail
      refine (c1 v1 (by omega) (by omega) hV1).mono ?_
      rintro e v2 ⟨rfl, hv2⟩
      have hV2 := hV1.trans (hv2.mono hV1.size)
      go_wp2_with fail
      go_ret
      exact ⟨rfl, hV2⟩
    · have g1 : -2147483648 < r := by omega
      have cIr := cI r
      have cp := cC (r - 1)
      cases hI : I r
      · rw [hI] at hstep cIr
        simp only [Bool.false_eq_true, if_false] at hstep
        rw [show C (r - 1) = C r from by omega] at cp
        clear hstep cI hI
        go_enter Tryd.func6, Tryd.ntmps6
        go_wp2_with fail
        refine cF.mono ?_
        rintro e w1 ⟨rfl, hb1⟩
        go_wp2_with fail
        refine (cC r w1 hr0 hr1 hb1).mono ?_
        rintro e w2 ⟨rfl, hb2⟩
        have hB2 := hb1.trans (hb2.mono hb1.size)
        go_wp2_with fail
        refine (cIr w2 hB2).mono ?_
        rintro e w3 ⟨rfl, hb3⟩
        have hB3 := hB2.trans (hb3.mono hB2.size)
        go_wp2_with fail
        refine (cp w3 (by omega) (by omega) hB3).mono ?_
        rintro e w4 ⟨rfl, hb4⟩
        have hB4 := hB3.trans (hb4.mono hB3.size)
        go_wp2_with fail
        refine (cN w4 hB4).mono ?_
        rintro e v1 ⟨rfl, hv1⟩
        have hV1 := hB4.trans (hv1.mono hB4.size)
        go_wp2_with fail
        refine (c1 v1 (by omega) (by omega) hV1).mono ?_
        rintro e v2 ⟨rfl, hv2⟩
        have hV2 := hV1.trans (hv2.mono hV1.size)
        go_wp2_with fail
        go_ret
        exact ⟨rfl, hV2⟩
      · rw [hI] at hstep cIr
        simp only [if_true] at hstep
        rw [show C (r - 1) = C r - 1 from by omega] at cp
        clear hstep cI hI
        go_enter Tryd.func6, Tryd.ntmps6
        go_wp2_with fail
        refine cF.mono ?_
        rintro e w1 ⟨rfl, hb1⟩
        go_wp2_with fail
        refine (cC r w1 hr0 hr1 hb1).mono ?_
        rintro e w2 ⟨rfl, hb2⟩
        have hB2 := hb1.trans (hb2.mono hb1.size)
        go_wp2_with fail
        refine (cIr w2 hB2).mono ?_
        rintro e w3 ⟨rfl, hb3⟩
        have hB3 := hB2.trans (hb3.mono hB2.size)
        go_wp2_with fail
        refine (cp w3 (by omega) (by omega) hB3).mono ?_
        rintro e w4 ⟨rfl, hb4⟩
        have hB4 := hB3.trans (hb4.mono hB3.size)
        go_wp2_with fail
        refine (cN w4 hB4).mono ?_
        rintro e v1 ⟨rfl, hv1⟩
        have hV1 := hB4.trans (hv1.mono hB4.size)
        go_wp2_with fail
        refine (c1 v1 (by omega) (by omega) hV1).mono ?_
        rintro e v2 ⟨rfl, hv2⟩
        have hV2 := hV1.trans (hv2.mono hV1.size)
        go_wp2_with fail
        go_ret
        exact ⟨rfl, hV2⟩
  · obtain ⟨h1, h2, h3, h4, h5, h6⟩ := hsome rfl
    have cIn := cI nv
    rw [h4] at cIn
    have c5 := cC nv
    rw [h5] at c5
    have c6 := cC (nv - 1)
    rw [h6] at c6
    have b1 := hbd r
    clear hsome hbd hnone h4 h5 h6
    by_cases hlow : r = -2147483648
    · subst hlow
      clear cI hstep
      go_enter Tryd.func6, Tryd.ntmps6
      go_wp2_with fail
      refine cF.mono ?_
      rintro e w1 ⟨rfl, hb1⟩
      go_wp2_with fail
      refine (cC _ w1 hr0 hr1 hb1).mono ?_
      rintro e w2 ⟨rfl, hb2⟩
      have hB2 := hb1.trans (hb2.mono hb1.size)
      go_wp2_with fail
      refine (cN w2 hB2).mono ?_
      rintro e v1 ⟨rfl, hv1⟩
      have hV1 := hB2.trans (hv1.mono hB2.size)
      go_wp2_with fail
      refine (cIn v1 hV1).mono ?_
      rintro e v2 ⟨rfl, hv2⟩
      have hV2 := hV1.trans (hv2.mono hV1.size)
      go_wp2_with fail
      refine (c5 v2 (by omega) (by omega) hV2).mono ?_
      rintro e v3 ⟨rfl, hv3⟩
      have hV3 := hV2.trans (hv3.mono hV2.size)
      go_wp2_with fail
      refine (c6 v3 (by omega) (by omega) hV3).mono ?_
      rintro e v4 ⟨rfl, hv4⟩
      have hV4 := hV3.trans (hv4.mono hV3.size)
      go_wp2_with fail
      go_ret
      exact ⟨rfl, hV4⟩
    · have g1 : -2147483648 < r := by omega
      have cIr := cI r
      have cp := cC (r - 1)
      cases hI : I r
      · rw [hI] at hstep cIr
        simp only [Bool.false_eq_true, if_false] at hstep
        rw [show C (r - 1) = C r from by omega] at cp
        clear hstep cI hI
        go_enter Tryd.func6, Tryd.ntmps6
        go_wp2_with fail
        refine cF.mono ?_
        rintro e w1 ⟨rfl, hb1⟩
        go_wp2_with fail
        refine (cC r w1 hr0 hr1 hb1).mono ?_
        rintro e w2 ⟨rfl, hb2⟩
        have hB2 := hb1.trans (hb2.mono hb1.size)
        go_wp2_with fail
        refine (cIr w2 hB2).mono ?_
        rintro e w3 ⟨rfl, hb3⟩
        have hB3 := hB2.trans (hb3.mono hB2.size)
        go_wp2_with fail
        refine (cp w3 (by omega) (by omega) hB3).mono ?_
        rintro e w4 ⟨rfl, hb4⟩
        have hB4 := hB3.trans (hb4.mono hB3.size)
        go_wp2_with fail
        refine (cN w4 hB4).mono ?_
        rintro e v1 ⟨rfl, hv1⟩
        have hV1 := hB4.trans (hv1.mono hB4.size)
        go_wp2_with fail
        refine (cIn v1 hV1).mono ?_
        rintro e v2 ⟨rfl, hv2⟩
        have hV2 := hV1.trans (hv2.mono hV1.size)
        go_wp2_with fail
        refine (c5 v2 (by omega) (by omega) hV2).mono ?_
        rintro e v3 ⟨rfl, hv3⟩
        have hV3 := hV2.trans (hv3.mono hV2.size)
        go_wp2_with fail
        refine (c6 v3 (by omega) (by omega) hV3).mono ?_
        rintro e v4 ⟨rfl, hv4⟩
        have hV4 := hV3.trans (hv4.mono hV3.size)
        go_wp2_with fail
        go_ret
        exact ⟨rfl, hV4⟩
      · rw [hI] at hstep cIr
        simp only [if_true] at hstep
        rw [show C (r - 1) = C r - 1 from by omega] at cp
        clear hstep cI hI
        go_enter Tryd.func6, Tryd.ntmps6
        go_wp2_with fail
        refine cF.mono ?_
        rintro e w1 ⟨rfl, hb1⟩
        go_wp2_with fail
        refine (cC r w1 hr0 hr1 hb1).mono ?_
        rintro e w2 ⟨rfl, hb2⟩
        have hB2 := hb1.trans (hb2.mono hb1.size)
        go_wp2_with fail
        refine (cIr w2 hB2).mono ?_
        rintro e w3 ⟨rfl, hb3⟩
        have hB3 := hB2.trans (hb3.mono hB2.size)
        go_wp2_with fail
        refine (cp w3 (by omega) (by omega) hB3).mono ?_
        rintro e w4 ⟨rfl, hb4⟩
        have hB4 := hB3.trans (hb4.mono hB3.size)
        go_wp2_with fail
        refine (cN w4 hB4).mono ?_
        rintro e v1 ⟨rfl, hv1⟩
        have hV1 := hB4.trans (hv1.mono hB4.size)
        go_wp2_with fail
        refine (cIn v1 hV1).mono ?_
        rintro e v2 ⟨rfl, hv2⟩
        have hV2 := hV1.trans (hv2.mono hV1.size)
        go_wp2_with fail
        refine (c5 v2 (by omega) (by omega) hV2).mono ?_
        rintro e v3 ⟨rfl, hv3⟩
        have hV3 := hV2.trans (hv3.mono hV2.size)
        go_wp2_with fail
        refine (c6 v3 (by omega) (by omega) hV3).mono ?_
        rintro e v4 ⟨rfl, hv4⟩
        have hV4 := hV3.trans (hv4.mono hV3.size)
        go_wp2_with fail
        go_ret
        exact ⟨rfl, hV4⟩
end Go.Proofs.YtinehnbjdlmopaaDoor
