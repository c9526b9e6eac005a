/-
  THE WALK over gimletlaw16.HuntOnce (gen_once.py).
-/
import Derived.Test.YtddinjgpoillgaaHtOnceM
namespace Go.Proofs.Ytddinjgpoillgaa
open Go.RowKit Go.Lib
set_option maxRecDepth 100000 in
set_option maxHeartbeats 8000000 in
theorem lawOnce (C N : Int) (f : Nat → Nat) (n : Nat) (g : Nat → Nat) (m : Nat) (vc : Value) (cs : List Int) (w : World) (hf : ∀ j, f j < 256) (hg : ∀ j, g j < 256) (hn : n ≤ 1099511627776) (hm : m ≤ 274877906944) (hN2 : N ≤ 9223372036854775807) (hc : Ht.Ri w vc cs) (hcl : cs.length ≤ 1099511627776) :
    Calls Try.prog 4 #[.agg #[.int .i64 C, .string (Rn.arr f n), .int .i64 N], .string (Rn.arr g m), vc] w fun r w' => r = .returned (.bool true) ∧ Below w.heap.size w w' := by
  have CA := hide' (fun w1 => htAsked C N f n w1 hf hn hN2)
  have CR := hide' (fun w1 => runes_any g m w1 hg (by omega))
  rw [Wd.R_rl] at CR
  have hxl := Wd.R_length g m 0 hg
  have HXS := hide' (Wd.R_scal g m 0 hg)
  unfold Ht.AskE at CA
  obtain ⟨T, hT⟩ : ∃ T, Wd.R f n 0 = T := ⟨_, rfl⟩
  obtain ⟨c, hcc⟩ : ∃ c, Ht.cc (Ht.inz C 9) = c := ⟨_, rfl⟩
  obtain ⟨td, htd⟩ : ∃ td, Ht.tdc (Ht.inz C 9) = td := ⟨_, rfl⟩
  obtain ⟨K, hK⟩ : ∃ K, Ht.cn (Ht.inz C 9) (max N 0) = K := ⟨_, rfl⟩
  rw [hT, hcc, htd, hK] at CA
  have CG := hide' (fun (w1 : World) b (h : Ht.Hu w1 b c td K T [] false) => htAdd h g m hg (by simp; omega))
  simp only [List.nil_append] at CG
  obtain ⟨X, hX⟩ : ∃ X, Wd.R g m 0 = X := ⟨_, rfl⟩
  rw [hX] at CR CG HXS hxl
  obtain ⟨x, hx⟩ : ∃ x, X.length = x := ⟨_, rfl⟩
  have HXL := hide' hx
  rw [hx] at hxl
  simp only [hx] at CR
  have CJ := hide' (fun (wr : World) gl (h : Lie wr gl X) a k cap (hk : a + k ≤ x) => htJoin X HXS.out gl wr h a k cap (by rw [hx]; exact hk))
  have CP : Hid (∀ (wr : World) b a k, Ht.Hu wr b c td K T (X.take a) false → a + k ≤ x → Calls Try.prog 12 #[.pointer (some ⟨b, 0, none⟩), .string (Rn.arr (Rn.lf (Rn.cat ((X.drop a).take k))) (Rn.cat ((X.drop a).take k)).length)] wr fun e w' => e = .returned (.int .i64 0) ∧ Ht.Hu w' b c td K T (X.take (a + k)) false ∧ Ht.Hb b wr w') := fun wr b a k h hk => by
    have h1 := Ht.cat_le ((X.drop a).take k)
    have h2 : ((X.drop a).take k).length = k := by rw [List.length_take, List.length_drop, hx]; omega
    have h3 : (X.take a).length = a := by rw [List.length_take, hx]; omega
    have := htAdd h (Rn.lf (Rn.cat ((X.drop a).take k))) (Rn.cat ((X.drop a).take k)).length (Rn.lf_lt _) (by rw [h3]; omega)
    rw [Wd.R_cat _ (fun r hr => HXS.out r (List.mem_of_mem_drop (List.mem_of_mem_take hr))), ← List.take_add] at this
    exact this
  obtain ⟨pc, cc, rfl, hc1, hc2, hc3⟩ := hc
  have CCS := hide' hc3
  obtain ⟨l, hl⟩ : ∃ l, cs.length = l := ⟨_, rfl⟩
  have HCL := hide' hl
  rw [hl] at hc1 hcl CCS
  simp only [hl]
  obtain ⟨W, hWd⟩ : ∃ W, w.alloc (.cells #[.int .i64 C, .string (Rn.arr f n), .int .i64 N] 23) = W := ⟨_, rfl⟩
  have HBW : Hid (Below w.heap.size w W) := by rw [← hWd]; exact (Below.refl _ _).alloc (Nat.le_refl _) _
  have HUP : Hid (∀ w', Below W.heap.size W w' → Below w.heap.size w w') := fun w' h => HBW.out.trans (h.mono HBW.out.size)
  have HBX : Hid (∀ w', Below W.heap.size W w' → w'.cell? ⟨w.heap.size, 0, none⟩ = some (.int .i64 C) ∧ w'.cell? ⟨w.heap.size, 1, none⟩ = some (.string (Rn.arr f n)) ∧ w'.cell? ⟨w.heap.size, 2, none⟩ = some (.int .i64 N)) := fun w' h => by
    have hw0 : w.heap.size < W.heap.size := by rw [← hWd]; simp
    have e : ∀ o, w'.cell? ⟨w.heap.size, o, none⟩ = W.cell? ⟨w.heap.size, o, none⟩ := fun o => h.cell (p := ⟨w.heap.size, o, none⟩) hw0
    rw [e, e, e, ← hWd]
    refine ⟨?_, ?_, ?_⟩ <;> simp
  have HWd := hide' hWd
  clear hc3 hl hx hX hT hcc htd hK hWd hf hg
  go_enter Try.func4, Try.ntmps4
  go_wp2_with fail
  rw [HWd.out]
  refine (htAwake W).mono ?_
  rintro r w1 ⟨rfl, hb⟩
  have HB1 := hide' hb
  obtain ⟨q0, q1, q2⟩ := HBX.out w1 hb
  clear hb
  go_wp2_with fail
  refine (CA.out w1).mono ?_
  rintro r w2 ⟨b1, rfl, h1, hu, hb⟩
  have HB2 := hide' (HB1.out.trans (hb.mono HB1.out.size))
  have hb1 : W.heap.size ≤ b1 := Nat.le_trans HB1.out.size h1
  have HU := hide' hu
  clear q0 q1 q2 hu hb HB1 h1
  obtain ⟨q0, q1, q2⟩ := HBX.out w2 HB2.out
  go_wp2_with fail
  refine (CA.out w2).mono ?_
  rintro r w3 ⟨b2, rfl, h1, hv, hb⟩
  have hlt := HU.out.lt
  have hne : b1 ≠ b2 := by omega
  have hb2 : W.heap.size ≤ b2 := by omega
  have HB3 := hide' (HB2.out.trans (hb.mono HB2.out.size))
  have HU3 := hide' (HU.out.below hb)
  have HV3 := hide' hv
  clear q0 q1 q2 hv hb HB2 h1 hlt HU HBX CA
  have HNE := hide' hne
  have HP1 := hide' hb1
  have HP2 := hide' hb2
  clear hne hb1 hb2
  go_wp2_with fail
  refine (CG.out w3 b2 HV3.out).mono ?_
  rintro r w4 ⟨rfl, hv, hb⟩
  have HU4 := hide' (HU3.out.other HV3.out hb HNE.out)
  have HV4 := hide' hv
  have HB4 := hide' (HB3.out.trans (hb.below HP2.out HB3.out.size))
  clear hv hb HU3 HV3 HB3 CG
  go_wp2_with fail
  refine (CR.out w4).mono ?_
  rintro r w5 ⟨cap, rfl, r1, r2, r3, r4, _, cur, r6, _⟩
  have HU5 := hide' (HU4.out.below r4)
  have HV5 := hide' (HV4.out.below r4)
  have HT5 : Hid (Ht.TR w5 X (.slice (some ⟨w4.heap.size, 0, none⟩) x cap)) := ⟨_, cap, cur, by rw [HXL.out], by rw [HXL.out]; exact r1, r2, r3, r6⟩
  have HB5 := hide' (HB4.out.trans (r4.mono HB4.out.size))
  have hcap : cap ≤ 9223372036854775807 := by unfold maxLen at r2; omega
  obtain ⟨gl, hgl⟩ : ∃ gl, w4.heap.size = gl := ⟨_, rfl⟩
  rw [hgl] at HT5 ⊢
  clear r2 r3 r4 r6 hgl HU4 HV4 HB4 CR
  go_wp2_with fail
  go_loopw [12, 13, 14] (fun u12 u13 u14 wr => ∃ (a i : Nat) (kn : Int), u12 = .int .i64 kn ∧ u13 = .int .i64 a ∧ u14 = .int .i64 i ∧ a ≤ x ∧ (i ≤ l ∨ a = x) ∧ i ≤ l + 1 ∧ Hid (Ht.Hu wr b1 c td K T (X.take a) false) ∧ Hid (Ht.Hu wr b2 c td K T X false) ∧ Hid (Ht.TR wr X (.slice (some ⟨gl, 0, none⟩) x cap)) ∧ Hid (kn ≠ 1 → Ht.tru c td K T (X.take a) false = kn) ∧ Hid (Below W.heap.size W wr)) (fun _ _ u14 _ => l + 2 - (RowKit.intOf u14).toNat)
  case atStart => exact ⟨0, 0, 1, rfl, rfl, rfl, Nat.zero_le _, .inl (Nat.zero_le _), Nat.zero_le _, HU5, HV5, HT5, (fun h => absurd rfl h), HB5⟩
  case round =>
    clear HU5 HV5 HT5 HB5
    obtain ⟨a, i, kn, rfl, rfl, rfl, ha, hia, hil, HU, HV, HT, HK, HB⟩ := hrel
    have CT := hide' (htTruth HU.out)
    obtain ⟨t, ht⟩ : ∃ t, Ht.tru c td K T (X.take a) false = t := ⟨_, rfl⟩
    rw [ht] at CT HK
    have HTT := hide' ht
    clear ht
    by_cases hax : a < x
    · obtain ⟨d, hd⟩ : ∃ d, x - a = d := ⟨_, rfl⟩
      have hd1 : d ≤ 1099511627776 := by omega
      have e1 : ((x : Int) - (a : Int)) = (d : Int) := by omega
      have HD : Hid (a + d = x ∧ 0 < d) := ⟨by omega, by omega⟩
      clear hd
      by_cases hil2 : i < l
      · obtain ⟨pb, po, rfl, hcx⟩ := CCS.out (by omega)
        obtain ⟨y, hy⟩ : ∃ y, cs[i]? = some y := ⟨_, List.getElem?_eq_getElem (by rw [HCL.out]; exact hil2)⟩
        have q0 := hcx i y hy
        have q1 : wr.cell? ⟨pb, po + i, none⟩ = some (.int .i64 y) := ((HUP.out _ HB.out).cell (p := ⟨pb, po + i, none⟩) (block_lt_of_cell q0)).trans q0
        have CI := hide' (htInto y (d + 1) wr (by omega) (by omega))
        have hkk := Ht.inz_lt y (m := d + 1) (by omega)
        obtain ⟨k, hk⟩ : ∃ k, Ht.inz y (d + 1) = k := ⟨_, rfl⟩
        rw [hk] at hkk CI
        rw [show ((d + 1 : Nat) : Int) = (d : Int) + 1 by omega] at CI
        clear hcx q0 hy hk
        go_wp2_with fail
        refine (CI.out).mono ?_
        rintro r w5 ⟨rfl, rfl⟩
        clear CI q1
        by_cases hk1 : kn = 1
        · have g1 : (kn != 1) = false := by simp [hk1]
          clear hk1
          go_wp2_with fail
          refine (CT.out).mono ?_
          rintro r w6 ⟨rfl, rfl⟩
          go_wp2_with fail
          refine (CJ.out w6 gl HT.out.lie a k _ (by have := HD.out; omega)).mono ?_
          rintro r w7 ⟨rfl, rfl⟩
          go_wp2_with fail
          refine (CP.out w7 b1 a k HU.out (by have := HD.out; omega)).mono ?_
          rintro r w8 ⟨rfl, hu, hb⟩
          have HU8 := hide' hu
          have HV8 := hide' (HV.out.other HU.out hb (Ne.symm HNE.out))
          have HT8 : Hid (Ht.TR w8 X (.slice (some ⟨gl, 0, none⟩) x cap)) := by
            obtain ⟨_, _, _, _, _, k1, _⟩ := HU.out
            exact HT.out.hb hb k1
          have HB8 := hide' (HB.out.trans (hb.below HP1.out HB.out.size))
          clear hu hb HU HV HT HB CT
          go_wp2_with fail
          go_roundw
          case rel => exact ⟨a + k, i + 1, t, by go_num, by go_num, by go_num, by have := HD.out; omega, by have := HD.out; omega, by omega, HU8, HV8, HT8, (fun h => by
            have e := Ht.tru_stay (M := (X.drop a).take k) (by rw [HTT.out]; exact h)
            rw [← List.take_add, HTT.out] at e
            exact e), HB8⟩
          case measure => simp [RowKit.intOf]; omega
        · have g1 : (kn != 1) = true := by simp [hk1]
          have g2 : (t != kn) = false := by simp [HK.out hk1]
          clear hk1
          go_wp2_with fail
          refine (CT.out).mono ?_
          rintro r w5' ⟨rfl, rfl⟩
          go_wp2_with fail
          refine (CT.out).mono ?_
          rintro r w6 ⟨rfl, rfl⟩
          go_wp2_with fail
          refine (CJ.out w6 gl HT.out.lie a k _ (by have := HD.out; omega)).mono ?_
          rintro r w7 ⟨rfl, rfl⟩
          go_wp2_with fail
          refine (CP.out w7 b1 a k HU.out (by have := HD.out; omega)).mono ?_
          rintro r w8 ⟨rfl, hu, hb⟩
          have HU8 := hide' hu
          have HV8 := hide' (HV.out.other HU.out hb (Ne.symm HNE.out))
          have HT8 : Hid (Ht.TR w8 X (.slice (some ⟨gl, 0, none⟩) x cap)) := by
            obtain ⟨_, _, _, _, _, k1, _⟩ := HU.out
            exact HT.out.hb hb k1
          have HB8 := hide' (HB.out.trans (hb.below HP1.out HB.out.size))
          clear hu hb HU HV HT HB CT
          go_wp2_with fail
          go_roundw
          case rel => exact ⟨a + k, i + 1, t, by go_num, by go_num, by go_num, by have := HD.out; omega, by have := HD.out; omega, by omega, HU8, HV8, HT8, (fun h => by
            have e := Ht.tru_stay (M := (X.drop a).take k) (by rw [HTT.out]; exact h)
            rw [← List.take_add, HTT.out] at e
            exact e), HB8⟩
          case measure => simp [RowKit.intOf]; omega
      · have e3 : ¬ (i : Int) < (l : Int) := by omega
        by_cases hk1 : kn = 1
        · have g1 : (kn != 1) = false := by simp [hk1]
          clear hk1
          go_wp2_with fail
          refine (CT.out).mono ?_
          rintro r w6 ⟨rfl, rfl⟩
          go_wp2_with fail
          refine (CJ.out w6 gl HT.out.lie a d _ (by have := HD.out; omega)).mono ?_
          rintro r w7 ⟨rfl, rfl⟩
          go_wp2_with fail
          refine (CP.out w7 b1 a d HU.out (by have := HD.out; omega)).mono ?_
          rintro r w8 ⟨rfl, hu, hb⟩
          have HU8 := hide' hu
          have HV8 := hide' (HV.out.other HU.out hb (Ne.symm HNE.out))
          have HT8 : Hid (Ht.TR w8 X (.slice (some ⟨gl, 0, none⟩) x cap)) := by
            obtain ⟨_, _, _, _, _, k1, _⟩ := HU.out
            exact HT.out.hb hb k1
          have HB8 := hide' (HB.out.trans (hb.below HP1.out HB.out.size))
          clear hu hb HU HV HT HB CT
          go_wp2_with fail
          go_roundw
          case rel => exact ⟨a + d, i + 1, t, by go_num, by go_num, by go_num, by have := HD.out; omega, by have := HD.out; omega, by omega, HU8, HV8, HT8, (fun h => by
            have e := Ht.tru_stay (M := (X.drop a).take d) (by rw [HTT.out]; exact h)
            rw [← List.take_add, HTT.out] at e
            exact e), HB8⟩
          case measure => simp [RowKit.intOf]; omega
        · have g1 : (kn != 1) = true := by simp [hk1]
          have g2 : (t != kn) = false := by simp [HK.out hk1]
          clear hk1
          go_wp2_with fail
          refine (CT.out).mono ?_
          rintro r w5' ⟨rfl, rfl⟩
          go_wp2_with fail
          refine (CT.out).mono ?_
          rintro r w6 ⟨rfl, rfl⟩
          go_wp2_with fail
          refine (CJ.out w6 gl HT.out.lie a d _ (by have := HD.out; omega)).mono ?_
          rintro r w7 ⟨rfl, rfl⟩
          go_wp2_with fail
          refine (CP.out w7 b1 a d HU.out (by have := HD.out; omega)).mono ?_
          rintro r w8 ⟨rfl, hu, hb⟩
          have HU8 := hide' hu
          have HV8 := hide' (HV.out.other HU.out hb (Ne.symm HNE.out))
          have HT8 : Hid (Ht.TR w8 X (.slice (some ⟨gl, 0, none⟩) x cap)) := by
            obtain ⟨_, _, _, _, _, k1, _⟩ := HU.out
            exact HT.out.hb hb k1
          have HB8 := hide' (HB.out.trans (hb.below HP1.out HB.out.size))
          clear hu hb HU HV HT HB CT
          go_wp2_with fail
          go_roundw
          case rel => exact ⟨a + d, i + 1, t, by go_num, by go_num, by go_num, by have := HD.out; omega, by have := HD.out; omega, by omega, HU8, HV8, HT8, (fun h => by
            have e := Ht.tru_stay (M := (X.drop a).take d) (by rw [HTT.out]; exact h)
            rw [← List.take_add, HTT.out] at e
            exact e), HB8⟩
          case measure => simp [RowKit.intOf]; omega
    · have hax2 : a = x := by omega
      have hta : X.take a = X := List.take_of_length_le (by rw [HXL.out]; omega)
      rw [hta] at HU HTT
      have CV := hide' (htTruth HV.out)
      rw [HTT.out] at CV
      obtain ⟨s, hs⟩ : ∃ s, Ht.tru c td K T X true = s := ⟨_, rfl⟩
      have HST : Hid (t ≠ 1 → s = t) := fun h => by rw [← hs, Ht.tru_end HU.out.1 (by rw [HTT.out]; exact h), HTT.out]
      have g3 : (s == 1) = false := by
        have := Ht.tru_whole c td K T X
        rw [hs] at this
        rcases this with e | e <;> simp [e]
      have g4 : ∀ u : Int, (u != u) = false := fun u => by simp
      have g7 : ∀ u : Int, (u == u) = true := fun u => by simp
      have g4s := g4 s
      have g4t := g4 t
      have g7s := g7 s
      have hax3 : ¬ (a : Int) < (x : Int) := by omega
      clear g4 g7 hta hax hax2
      by_cases hk1 : kn = 1
      · have g1 : (kn != 1) = false := by simp [hk1]
        clear hk1
        go_wp2_with fail
        refine (CT.out).mono ?_
        rintro r w6 ⟨rfl, rfl⟩
        go_wp2_with fail
        refine (CV.out).mono ?_
        rintro r w7 ⟨rfl, rfl⟩
        go_wp2_with fail
        refine (CV.out).mono ?_
        rintro r w8 ⟨rfl, rfl⟩
        have CC1 := hide' (htClose HU.out)
        clear CT CV
        go_wp2_with fail
        refine (CC1.out).mono ?_
        rintro r w9 ⟨rfl, hu, hb⟩
        have HU9 := hide' hu
        have HV9 := hide' (HV.out.other HU.out hb (Ne.symm HNE.out))
        have HB9 := hide' (HB.out.trans (hb.below HP1.out HB.out.size))
        clear hu hb HU HV HB CC1
        have CC2 := hide' (htClose HV9.out)
        go_wp2_with fail
        refine (CC2.out).mono ?_
        rintro r w10 ⟨rfl, hv, hb⟩
        have HV10 := hide' hv
        have HU10 := hide' (HU9.out.other HV9.out hb HNE.out)
        have HB10 := hide' (HB9.out.trans (hb.below HP2.out HB9.out.size))
        clear hv hb HU9 HV9 HB9 CC2
        have CT := hide' (htTruth HU10.out)
        have CV := hide' (htTruth HV10.out)
        rw [hs] at CT CV
        have CAE := hide' (htAddEnd HU10.out ⟨#[120]⟩)
        have CCE := hide' (htCloseEnd HU10.out)
        clear HU10 HV10
        go_wp2_with fail
        refine (CT.out).mono ?_
        rintro r w11 ⟨rfl, rfl⟩
        go_wp2_with fail
        refine (CV.out).mono ?_
        rintro r w12 ⟨rfl, rfl⟩
        go_wp2_with fail
        refine (CT.out).mono ?_
        rintro r w13 ⟨rfl, rfl⟩
        by_cases ht1 : t = 1
        · have g5 : (t != 1) = false := by simp [ht1]
          clear ht1
          go_wp2_with fail
          refine (CAE.out).mono ?_
          rintro r w15 ⟨rfl, rfl⟩
          go_wp2_with fail
          refine (CCE.out).mono ?_
          rintro r w16 ⟨rfl, rfl⟩
          go_wp2_with fail
          refine (CT.out).mono ?_
          rintro r w17 ⟨rfl, rfl⟩
          go_wp2_with fail
          refine (CV.out).mono ?_
          rintro r w18 ⟨rfl, rfl⟩
          go_wp2_with fail
          go_ret
          exact ⟨rfl, HUP.out _ HB10.out⟩
        · have g5 : (t != 1) = true := by simp [ht1]
          have g6 : (s != t) = false := by simp [HST.out ht1]
          clear ht1
          go_wp2_with fail
          refine (CV.out).mono ?_
          rintro r w14 ⟨rfl, rfl⟩
          go_wp2_with fail
          refine (CAE.out).mono ?_
          rintro r w15 ⟨rfl, rfl⟩
          go_wp2_with fail
          refine (CCE.out).mono ?_
          rintro r w16 ⟨rfl, rfl⟩
          go_wp2_with fail
          refine (CT.out).mono ?_
          rintro r w17 ⟨rfl, rfl⟩
          go_wp2_with fail
          refine (CV.out).mono ?_
          rintro r w18 ⟨rfl, rfl⟩
          go_wp2_with fail
          go_ret
          exact ⟨rfl, HUP.out _ HB10.out⟩
      · have g1 : (kn != 1) = true := by simp [hk1]
        have g2 : (t != kn) = false := by simp [HK.out hk1]
        clear hk1
        go_wp2_with fail
        refine (CT.out).mono ?_
        rintro r w5' ⟨rfl, rfl⟩
        go_wp2_with fail
        refine (CT.out).mono ?_
        rintro r w6 ⟨rfl, rfl⟩
        go_wp2_with fail
        refine (CV.out).mono ?_
        rintro r w7 ⟨rfl, rfl⟩
        go_wp2_with fail
        refine (CV.out).mono ?_
        rintro r w8 ⟨rfl, rfl⟩
        have CC1 := hide' (htClose HU.out)
        clear CT CV
        go_wp2_with fail
        refine (CC1.out).mono ?_
        rintro r w9 ⟨rfl, hu, hb⟩
        have HU9 := hide' hu
        have HV9 := hide' (HV.out.other HU.out hb (Ne.symm HNE.out))
        have HB9 := hide' (HB.out.trans (hb.below HP1.out HB.out.size))
        clear hu hb HU HV HB CC1
        have CC2 := hide' (htClose HV9.out)
        go_wp2_with fail
        refine (CC2.out).mono ?_
        rintro r w10 ⟨rfl, hv, hb⟩
        have HV10 := hide' hv
        have HU10 := hide' (HU9.out.other HV9.out hb HNE.out)
        have HB10 := hide' (HB9.out.trans (hb.below HP2.out HB9.out.size))
        clear hv hb HU9 HV9 HB9 CC2
        have CT := hide' (htTruth HU10.out)
        have CV := hide' (htTruth HV10.out)
        rw [hs] at CT CV
        have CAE := hide' (htAddEnd HU10.out ⟨#[120]⟩)
        have CCE := hide' (htCloseEnd HU10.out)
        clear HU10 HV10
        go_wp2_with fail
        refine (CT.out).mono ?_
        rintro r w11 ⟨rfl, rfl⟩
        go_wp2_with fail
        refine (CV.out).mono ?_
        rintro r w12 ⟨rfl, rfl⟩
        go_wp2_with fail
        refine (CT.out).mono ?_
        rintro r w13 ⟨rfl, rfl⟩
        by_cases ht1 : t = 1
        · have g5 : (t != 1) = false := by simp [ht1]
          clear ht1
          go_wp2_with fail
          refine (CAE.out).mono ?_
          rintro r w15 ⟨rfl, rfl⟩
          go_wp2_with fail
          refine (CCE.out).mono ?_
          rintro r w16 ⟨rfl, rfl⟩
          go_wp2_with fail
          refine (CT.out).mono ?_
          rintro r w17 ⟨rfl, rfl⟩
          go_wp2_with fail
          refine (CV.out).mono ?_
          rintro r w18 ⟨rfl, rfl⟩
          go_wp2_with fail
          go_ret
          exact ⟨rfl, HUP.out _ HB10.out⟩
        · have g5 : (t != 1) = true := by simp [ht1]
          have g6 : (s != t) = false := by simp [HST.out ht1]
          clear ht1
          go_wp2_with fail
          refine (CV.out).mono ?_
          rintro r w14 ⟨rfl, rfl⟩
          go_wp2_with fail
          refine (CAE.out).mono ?_
          rintro r w15 ⟨rfl, rfl⟩
          go_wp2_with fail
          refine (CCE.out).mono ?_
          rintro r w16 ⟨rfl, rfl⟩
          go_wp2_with fail
          refine (CT.out).mono ?_
          rintro r w17 ⟨rfl, rfl⟩
          go_wp2_with fail
          refine (CV.out).mono ?_
          rintro r w18 ⟨rfl, rfl⟩
          go_wp2_with fail
          go_ret
          exact ⟨rfl, HUP.out _ HB10.out⟩
end Go.Proofs.Ytddinjgpoillgaa
