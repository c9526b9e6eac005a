/-
  THE WALK over lexis.readWord.
-/
import Derived.Test.YtoccedbnnafjcaaDoorLxReadC
namespace Go.Proofs.YtoccedbnnafjcaaDoor
open Go.RowKit Go.Lib

theorem Lx.arr_zero (f : Nat → Nat) (n : Nat) (hf : ∀ j, f j < 256) (h : 0 < n) : ∃ c : UInt8, (Rn.arr f n)[0]'(by rw [Rn.arr_size]; exact h) = c ∧ c.toNat = f 0 := by
  refine ⟨(f 0).toUInt8, by simp [Rn.arr, ByteArray.getElem_eq_getElem_data], ?_⟩
  have := hf 0
  simp
  omega

set_option maxRecDepth 100000 in
set_option maxHeartbeats 4000000 in
theorem readWord_any (f : Nat → Nat) (n : Nat) (w : World) (hf : ∀ j, f j < 256) (h0 : 0 < n) (hn : n ≤ 4611686018427387904) (hS : Spans w) (hG : Signs w) :
    Calls Tryd.prog 21 #[.string (Rn.arr f n)] w fun e w' => e = .returned (Lx.rd f n).ans ∧ Below w.heap.size w w' := by
  have hsz := Rn.arr_size f n
  have cL : ∀ (c : Int) w1, Below w.heap.size w w1 → _ := fun c w1 hb => leading_any f n c w1 hf (by omega) (hS.below hb (Nat.le_refl _))
  have cN : ∀ w1, Below w.heap.size w w1 → _ := fun w1 hb => readNumber_any f n w1 hf hn (hS.below hb (Nat.le_refl _))
  have cT : ∀ w1, _ := fun w1 => readText_any f n w1 hf h0 hn
  have cG : ∀ w1, Below w.heap.size w w1 → _ := fun w1 hb => readSign_any f n w1 hf (hG.below hb (Nat.le_refl _))
  obtain ⟨ANS, hANS⟩ : ∃ ANS, Lx.rd f n = ANS := ⟨_, rfl⟩
  rw [hANS]
  unfold Lx.rd at hANS
  have hl3 : Lx.lead f n 3 ≤ n := Lx.lead_le hf
  have HN := Lx.Emp.new w
  have HNh := hide' HN
  have hf0 := hf 0
  obtain ⟨c, hz, hc⟩ := Lx.arr_zero f n hf h0
  have HC := hide' hc
  clear hc
  have c2 := cL 2 _ HN.2
  have HcL := hide' cL
  have HcN := hide' cN
  have HcT := hide' cT
  have HcG := hide' cG
  clear hS hG cL cN cT cG HN
  by_cases h2 : 0 < Lx.lead f n 2
  · rw [if_pos h2] at hANS
    have e1 := arr_front f n (Lx.lead f n 3) hl3
    generalize Lx.lead f n 2 = z at *
    have g1 : (0 : Int) < z := by omega
    have i1 : ((Lx.lead f n 3 : Nat) : Int) ≤ n := by omega
    have i2 : (0 : Int) ≤ ((Lx.lead f n 3 : Nat) : Int) := by omega
    have c3 := fun w1 hb => HcL.out 3 w1 hb
    generalize Lx.lead f n 3 = m at *
    have HA := hide' hANS
    clear hANS HcN HcT HcG
    go_enter Tryd.func21, Tryd.ntmps21
    go_wp2_with fail
    refine c2.mono ?_
    rintro e w1 ⟨rfl, hb⟩
    have HE := HNh.out.below hb
    have cc := c3 w1 HE.2
    have HEh := hide' HE
    clear hb HNh HE c3 c2
    go_wp2_with fail
    refine cc.mono ?_
    rintro e w2 ⟨rfl, hb⟩
    have HE2 := hide' (HEh.out.below hb)
    clear hb HEh cc
    go_wp2_with (refine wpList_store_mid rfl 43 (.tmp 2) (.tmp 14) rfl w.heap.size 0 (Lx.wdC 0 (Rn.arr f m) 0 (0, 0, 0, 0)) rfl rfl HE2.out.there Lx.wdInfo (Lx.wdOne _ _ _ _) ?_)
    exact bodyPost_ret (v := (Lx.Wd.mk 0 (Rn.arr f m) 0 m true).ans) (Lx.results_word Tryd.results21 _ ⟨w.heap.size, 0, none⟩ rfl _ _ _ _ (HE2.out.load _ _ _ _) rfl rfl) rfl ⟨by rw [HA.out], HE2.out.fin _⟩
  · rw [if_neg h2] at hANS
    generalize Lx.lead f n 2 = z at *
    have g1 : ¬ (0 : Int) < z := by omega
    have c4 := fun w1 hb => HcL.out 4 w1 hb
    clear HcL
    by_cases h4 : 0 < Lx.lead f n 4
    · rw [if_pos h4] at hANS
      generalize Lx.lead f n 4 = z4 at *
      have g2 : (0 : Int) < z4 := by omega
      rw [hANS] at HcN
      clear hANS HcT HcG
      go_enter Tryd.func21, Tryd.ntmps21
      go_wp2_with fail
      refine c2.mono ?_
      rintro e w1 ⟨rfl, hb⟩
      have HE := HNh.out.below hb
      have cc := c4 w1 HE.2
      have HEh := hide' HE
      clear hb HNh HE c4 c2
      go_wp2_with fail
      refine cc.mono ?_
      rintro e w2 ⟨rfl, hb⟩
      have HE2 := HEh.out.below hb
      have cc2 := HcN.out w2 HE2.2
      have HE2h := hide' HE2
      clear hb HEh cc HE2 HcN
      unfold Lx.Wd.ans Lx.wdA at cc2
      go_wp2_with fail
      refine cc2.mono ?_
      rintro e w3 ⟨rfl, hb⟩
      have HE3 := hide' (HE2h.out.below hb)
      clear hb HE2h cc2
      go_wp2_with (refine wpList_store_mid rfl 43 (.tmp 2) (.tmp 22) rfl w.heap.size 0 (Lx.wdC ANS.k ANS.tx ANS.nm (0, 0, 0, 0)) rfl rfl HE3.out.there Lx.wdInfo (Lx.wdOne _ _ _ _) ?_)
      exact bodyPost_ret (v := ANS.ans) (Lx.results_word Tryd.results21 _ ⟨w.heap.size, 0, none⟩ rfl _ _ _ _ (HE3.out.load _ _ _ _) rfl rfl) rfl ⟨rfl, HE3.out.fin _⟩
    · rw [if_neg h4] at hANS
      generalize Lx.lead f n 4 = z4 at *
      have g2 : ¬ (0 : Int) < z4 := by omega
      clear HcN
      have hc := HC.out
      by_cases hq : f 0 = 34 ∨ f 0 = 39
      · rw [if_pos hq] at hANS
        rw [hANS] at HcT
        clear hANS HcG
        go_enter Tryd.func21, Tryd.ntmps21
        go_wp2_with fail
        refine c2.mono ?_
        rintro e w1 ⟨rfl, hb⟩
        have HE := HNh.out.below hb
        have cc := c4 w1 HE.2
        have HEh := hide' HE
        clear hb HNh HE c4 c2
        go_wp2_with fail
        refine cc.mono ?_
        rintro e w2 ⟨rfl, hb⟩
        have HE2 := HEh.out.below hb
        have cc2 := HcT.out w2
        have HE2h := hide' HE2
        clear hb HEh cc HE2 HcT
        unfold Lx.Wd.ans Lx.wdA at cc2
        rcases hq with hq | hq
        · have q1 : ((c.toNat : Int) == 34) = true := by simp; omega
          clear hq hc
          go_wp2_with fail
          refine cc2.mono ?_
          rintro e w3 ⟨rfl, hb⟩
          have HE3 := hide' (HE2h.out.below hb)
          clear hb HE2h cc2
          go_wp2_with (refine wpList_store_mid rfl 43 (.tmp 2) (.tmp 36) rfl w.heap.size 0 (Lx.wdC ANS.k ANS.tx ANS.nm (0, 0, 0, 0)) rfl rfl HE3.out.there Lx.wdInfo (Lx.wdOne _ _ _ _) ?_)
          exact bodyPost_ret (v := ANS.ans) (Lx.results_word Tryd.results21 _ ⟨w.heap.size, 0, none⟩ rfl _ _ _ _ (HE3.out.load _ _ _ _) rfl rfl) rfl ⟨rfl, HE3.out.fin _⟩
        · have q1 : ((c.toNat : Int) == 34) = false := by simp; omega
          have q2 : ((c.toNat : Int) == 39) = true := by simp; omega
          clear hq hc
          go_wp2_with fail
          refine cc2.mono ?_
          rintro e w3 ⟨rfl, hb⟩
          have HE3 := hide' (HE2h.out.below hb)
          clear hb HE2h cc2
          go_wp2_with (refine wpList_store_mid rfl 43 (.tmp 2) (.tmp 36) rfl w.heap.size 0 (Lx.wdC ANS.k ANS.tx ANS.nm (0, 0, 0, 0)) rfl rfl HE3.out.there Lx.wdInfo (Lx.wdOne _ _ _ _) ?_)
          exact bodyPost_ret (v := ANS.ans) (Lx.results_word Tryd.results21 _ ⟨w.heap.size, 0, none⟩ rfl _ _ _ _ (HE3.out.load _ _ _ _) rfl rfl) rfl ⟨rfl, HE3.out.fin _⟩
      · rw [if_neg hq] at hANS
        rw [hANS] at HcG
        clear hANS HcT
        have q1 : ((c.toNat : Int) == 34) = false := by simp; omega
        have q2 : ((c.toNat : Int) == 39) = false := by simp; omega
        clear hq hc
        go_enter Tryd.func21, Tryd.ntmps21
        go_wp2_with fail
        refine c2.mono ?_
        rintro e w1 ⟨rfl, hb⟩
        have HE := HNh.out.below hb
        have cc := c4 w1 HE.2
        have HEh := hide' HE
        clear hb HNh HE c4 c2
        go_wp2_with fail
        refine cc.mono ?_
        rintro e w2 ⟨rfl, hb⟩
        have HE2 := HEh.out.below hb
        have cc2 := HcG.out w2 HE2.2
        have HE2h := hide' HE2
        clear hb HEh cc HE2 HcG
        unfold Lx.Wd.ans Lx.wdA at cc2
        go_wp2_with fail
        refine cc2.mono ?_
        rintro e w3 ⟨rfl, hb⟩
        have HE3 := hide' (HE2h.out.below hb)
        clear hb HE2h cc2
        go_wp2_with (refine wpList_store_mid rfl 43 (.tmp 2) (.tmp 41) rfl w.heap.size 0 (Lx.wdC ANS.k ANS.tx ANS.nm (0, 0, 0, 0)) rfl rfl HE3.out.there Lx.wdInfo (Lx.wdOne _ _ _ _) ?_)
        exact bodyPost_ret (v := ANS.ans) (Lx.results_word Tryd.results21 _ ⟨w.heap.size, 0, none⟩ rfl _ _ _ _ (HE3.out.load _ _ _ _) rfl rfl) rfl ⟨rfl, HE3.out.fin _⟩
end Go.Proofs.YtoccedbnnafjcaaDoor
