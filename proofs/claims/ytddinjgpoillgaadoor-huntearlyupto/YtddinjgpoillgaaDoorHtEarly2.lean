/-
  THE WALK over gimletlaw16.HuntEarly, nothing known early, case 2 (gen_early.py).
-/
import Derived.Test.YtddinjgpoillgaaDoorHtEarlyB
import Derived.BigGuard
namespace Go.Proofs.YtddinjgpoillgaaDoor
open Go.RowKit Go.Lib
set_option maxRecDepth 100000 in
set_option maxHeartbeats 16000000 in
theorem lawEarly2 (C N : Int) (f : Nat → Nat) (n : Nat) (g : Nat → Nat) (m : Nat) (g2 : Nat → Nat) (m2 : Nat) (w : World) (hf : ∀ j, f j < 256) (hg : ∀ j, g j < 256) (hg2 : ∀ j, g2 j < 256) (hn : n ≤ 1099511627776) (hm : m ≤ 1099511627776) (hm2 : m2 ≤ 1099511627776) (hN1 : -9223372036854775808 ≤ N) (hN2 : N ≤ 9223372036854775807) (hT0 : Lib.Utf8Tabs 0 1 w) (hk : Ht.tru (Ht.cc (Ht.inz C 9)) (Ht.tdc (Ht.inz C 9)) (Ht.cn (Ht.inz C 9) (max N 0)) (Wd.R f n 0) (Wd.R g m 0) false = 1) (hc4 : Ht.inz C 9 = 4) (hn0 : 0 < n) (hP : ¬ [1] <:+ Wd.R f n 0) :
    Calls Tryd.prog 4 #[.agg #[.int .i64 C, .string (Rn.arr f n), .int .i64 N], .string (Rn.arr g m), .string (Rn.arr g2 m2)] w fun r w' => r = .returned (.bool true) ∧ Below w.heap.size w w' := by
  have CA := hide' (fun w1 => htAsked C N f n w1 hf hn hN2)
  unfold Ht.AskE at CA
  have hxl := Wd.R_length g m 0 hg
  have htl := Wd.R_length f n 0 hf
  have HTS := hide' (Wd.R_scal f n 0 hf)
  obtain ⟨T, hT⟩ : ∃ T, Wd.R f n 0 = T := ⟨_, rfl⟩
  have hlt := Ht.inz_lt C (m := 9) (by omega)
  have CI := hide' (fun w1 => htInto C 9 w1 (by omega) (by omega))
  obtain ⟨K, hK⟩ : ∃ K : Int, max N 0 = K := ⟨_, rfl⟩
  have hK0 : 0 ≤ K := by omega
  have hK3 : K ≤ 9223372036854775807 := by omega
  have hK4 : N < 1900 → K < 1900 := by omega
  have HTB := hide' (fun w1 (h : Below w.heap.size w w1) => tabs_below hT0 h (Nat.le_refl _))
  have CE := hide' (fun w1 (h : Below w.heap.size w w1) => ends_any f n (Rn.lf [1]) 1 w1 hf (Rn.lf_lt _) hn (by decide) (HTB.out w1 h))
  rw [show Rn.arr (Rn.lf [1]) 1 = ⟨#[1]⟩ from by decide +kernel, show Wd.R (Rn.lf [1]) 1 0 = [1] from by decide +kernel] at CE
  have CLt := hide' (fun w1 => length_any g m w1 hg (by omega))
  have CLa := hide' (fun w1 => length_any f n w1 hf (by omega))
  have CS := hide' (fun w1 (x : Nat) (h : x ≤ 1099511627776) => sub_any f n x (Wd.R f n 0).length w1 hf hn (by omega) (by omega) (by omega) (by omega))
  simp only [htSubDrop] at CS
  have CT1 := hide' (fun (w1 : World) b c td M U L (h : Ht.Hu w1 b c td M U L false) (hl : L.length ≤ 1099511627776) => htAdd h f n hf (by omega))
  have CO := hide' (fun (w1 : World) b c td M U L (h : Ht.Hu w1 b c td M U L false) (hl : L.length ≤ 1099511627776) => htAdd h (Rn.lf [1]) 1 (Rn.lf_lt _) (by omega))
  rw [show Rn.arr (Rn.lf [1]) 1 = ⟨#[1]⟩ from by decide +kernel, show Wd.R (Rn.lf [1]) 1 0 = [1] from by decide +kernel] at CO
  have HO : Hid (¬ [1] <:+ Wd.R f n 0) := hP
  have hRn := Wd.R_nil f n hf
  have hem := wd_empty f n
  rw [hT] at CA CE CLa CS CT1 HTS HO hk hP htl hRn
  obtain ⟨c, hc⟩ : ∃ c, Ht.inz C 9 = c := ⟨_, rfl⟩
  rw [hc] at hlt CI hk hc4
  rw [hc, hK] at CA
  rw [hK] at hk
  have CG := hide' (fun (w1 : World) b (h : Ht.Hu w1 b (Ht.cc c) (Ht.tdc c) (Ht.cn c K) T [] false) => htAdd h g m hg (by simp; omega))
  simp only [List.nil_append] at CG
  have CM := hide' (fun (w1 : World) b L (h : Ht.Hu w1 b (Ht.cc c) (Ht.tdc c) (Ht.cn c K) T L false) (hl : L.length ≤ 1099511627776) => htAdd h g2 m2 hg2 (by omega))
  obtain ⟨X, hX⟩ : ∃ X, Wd.R g m 0 = X := ⟨_, rfl⟩
  obtain ⟨Y, hY⟩ : ∃ Y, Wd.R g2 m2 0 = Y := ⟨_, rfl⟩
  rw [hX] at CG CLt hxl hk
  rw [hY] at CM
  have HFIN : Hid (N < 1900 → Ht.anyv c T X K 1 2 6 = true ∧ Ht.anyv c T X K 1 0 6 = true) := fun hN => Ht.early_open hlt hk (fun e => by intro e2; rw [hRn] at e2; omega) HO.out (hK4 hN)
  obtain ⟨x, hx⟩ : ∃ x, X.length = x := ⟨_, rfl⟩
  have HXL := hide' hx
  rw [hx] at hxl CLt
  obtain ⟨lt, hlt2⟩ : ∃ lt, T.length = lt := ⟨_, rfl⟩
  have HTL := hide' hlt2
  rw [hlt2] at CLa CS htl
  have hXl : X.length ≤ 1099511627776 := by omega
  have hXTl : Hid (X.length + 4 * (T.drop x).length ≤ 4611686018427387904) := by show _ ≤ _; rw [List.length_drop]; omega
  obtain ⟨W, hWd⟩ : ∃ W, w.alloc (.cells #[.int .i64 C, .string (Rn.arr f n), .int .i64 N] 23) = W := ⟨_, rfl⟩
  have HBW : Hid (Below w.heap.size w W) := by rw [← hWd]; exact (Below.refl _ _).alloc (Nat.le_refl _) _
  have HUP : Hid (∀ w', Below W.heap.size W w' → Below w.heap.size w w') := fun w' h => HBW.out.trans (h.mono HBW.out.size)
  have HBX : Hid (∀ w', Below W.heap.size W w' → w'.cell? ⟨w.heap.size, 0, none⟩ = some (.int .i64 C) ∧ w'.cell? ⟨w.heap.size, 1, none⟩ = some (.string (Rn.arr f n)) ∧ w'.cell? ⟨w.heap.size, 2, none⟩ = some (.int .i64 N)) := fun w' h => by
    have hw0 : w.heap.size < W.heap.size := by rw [← hWd]; simp
    have e : ∀ o, w'.cell? ⟨w.heap.size, o, none⟩ = W.cell? ⟨w.heap.size, o, none⟩ := fun o => h.cell (p := ⟨w.heap.size, o, none⟩) hw0
    rw [e, e, e, ← hWd]
    refine ⟨?_, ?_, ?_⟩ <;> simp
  have HWd := hide' hWd
  have HTV := hide' hk
  have HCC := hide' hc4
  have HPP := hide' hP
  have hK2 := hK
  have HV : Hid (∀ (wc : World) b i, Ht.Hu wc b (Ht.cc c) (Ht.tdc c) (Ht.cn c K) T (X ++ Ht.zi T X K 1 i) true → Calls Tryd.prog 15 #[.pointer (some ⟨b, 0, none⟩)] wc fun e w' => e = .returned (.int .i64 (Ht.vi c T X K 1 i)) ∧ w' = wc) := fun wc b i h => htTruth h
  clear hx hX hY hT hc hK hWd hf hg hg2 hT0 hk hc4 hP HO hlt2 hRn hK4
  go_enter Tryd.func4, Tryd.ntmps4
  go_wp2_with fail
  rw [HWd.out]
  refine (htAwake W).mono ?_
  rintro r w1 ⟨rfl, hb⟩
  have HB1 := hide' hb
  obtain ⟨q0, q1, q2⟩ := HBX.out w1 hb
  clear hb
  go_wp2_with fail
  refine (CA.out w1).mono ?_
  rintro r w2 ⟨b1, rfl, h1, hu, hb⟩
  have HB2 := hide' (HB1.out.trans (hb.mono HB1.out.size))
  have hb1 : W.heap.size ≤ b1 := Nat.le_trans HB1.out.size h1
  have HU := hide' hu
  clear q0 q1 q2 hu hb HB1 h1
  go_wp2_with fail
  refine (CG.out w2 b1 HU.out).mono ?_
  rintro r w3 ⟨rfl, hu, hb⟩
  have HU3 := hide' hu
  have HB3 := hide' (HB2.out.trans (hb.below hb1 HB2.out.size))
  clear hu hb HB2 HU
  have CT := hide' (htTruth HU3.out)
  rw [HTV.out] at CT
  go_wp2_with fail
  refine (CT.out).mono ?_
  rintro r w3' ⟨rfl, rfl⟩
  clear CT
  go_wp2_with fail
  refine (CM.out _ b1 X HU3.out hXl).mono ?_
  rintro r w4 ⟨rfl, hu, hb⟩
  have HU4 := hide' hu
  have HB4 := hide' (HB3.out.trans (hb.below hb1 HB3.out.size))
  clear hu hb HB3 HU3 CM
  have CC := hide' (htClose HU4.out)
  go_wp2_with fail
  refine (CC.out).mono ?_
  rintro r w5 ⟨rfl, hu, hb⟩
  have HB5 := hide' (HB4.out.trans (hb.below hb1 HB4.out.size))
  clear hu hb HB4 HU4 CC
  obtain ⟨q0, q1, q2⟩ := HBX.out w5 HB5.out
  go_wp2_with fail
  refine (CI.out w5).mono ?_
  rintro r w5' ⟨rfl, rfl⟩
  clear CI
  have e4 : ((c : Int) == 4) = true := by simp [HCC.out]
  have hem2 : decide (n = 0) = false := decide_eq_false (by omega)
  rw [hem2] at hem
  have hem3 : ((Rn.arr f n).toList == []) = false := by rw [← hem]; cases (Rn.arr f n).toList <;> rfl
  clear hem2
  go_wp2_with fail
  refine (CE.out _ (HUP.out _ HB5.out)).mono ?_
  rintro r w6 ⟨⟨P, rfl, hP⟩, hb⟩
  have HB6 := hide' (HB5.out.trans (hb.mono HB5.out.size))
  obtain rfl : P = false := by
    rw [← Bool.not_eq_true, hP]
    have := Ht.st_suffix (X := T) (T := [1])
    rw [Ht.lg_eq, Ht.lg_eq, this]
    exact HPP.out
  clear hb hP q0 q1 q2 HB5 CE e4 hem hem3
  go_wp2_with fail
  go_loopw [10, 11, 13] (fun u10 u11 u13 wr => ∃ i : Nat, u13 = .int .i64 i ∧ i ≤ 6 ∧ u10 = .bool (Ht.anyv c T X K 1 0 i) ∧ u11 = .bool (Ht.anyv c T X K 1 2 i) ∧ Hid (Below W.heap.size W wr)) (fun _ _ u13 _ => 6 - (RowKit.intOf u13).toNat)
  case atStart => exact ⟨0, rfl, Nat.zero_le _, rfl, rfl, HB6⟩
  case round =>
    clear HB6
    obtain ⟨i, rfl, hi6, rfl, rfl, HB⟩ := hrel
    have HS0 := hide' (fun i => Ht.anyv_succ c T X K 1 0 i)
    have HS2 := hide' (fun i => Ht.anyv_succ c T X K 1 2 i)
    obtain ⟨q0, q1, q2⟩ := HBX.out wr HB.out
    rcases (show i = 0 ∨ i = 1 ∨ i = 2 ∨ i = 3 ∨ i = 4 ∨ i = 5 ∨ i = 6 by omega) with rfl | rfl | rfl | rfl | rfl | rfl | rfl
    · as_aux_lemma =>
        go_wp2_with fail
        refine (CA.out wr).mono ?_
        rintro r w7 ⟨b, rfl, h1, hu, hb⟩
        have HB7 := hide' (HB.out.trans (hb.mono HB.out.size))
        have hbb : W.heap.size ≤ b := Nat.le_trans HB.out.size h1
        have HU := hide' hu
        clear q0 q1 q2 hu hb HB h1
        go_wp2_with fail
        refine (CG.out w7 b HU.out).mono ?_
        rintro r w8 ⟨rfl, hu, hb⟩
        have HU8 := hide' hu
        have HB8 := hide' (HB7.out.trans (hb.below hbb HB7.out.size))
        clear hu hb HB7 HU
        obtain ⟨q0, q1, q2⟩ := HBX.out w8 HB8.out
        clear q0 q1 q2
        have hz : X ++ Ht.zi T X K 1 0 = X ++ [] := rfl
        rw [List.append_nil] at hz
        have CC := hide' (htClose HU8.out)
        go_wp2_with fail
        refine (CC.out).mono ?_
        rintro r w10 ⟨rfl, hu, hb⟩
        have HB10 := hide' (HB8.out.trans (hb.below hbb HB8.out.size))
        rw [← hz] at hu
        have HV2 := hide' (HV.out w10 b 0 hu)
        obtain ⟨vv, hvv⟩ : ∃ vv, Ht.vi c T X K 1 0 = vv := ⟨_, rfl⟩
        rw [hvv] at HV2
        have HVV := hide' hvv
        obtain ⟨nb, hnb⟩ : ∃ nb, Ht.anyv c T X K 1 0 0 = nb := ⟨_, rfl⟩
        obtain ⟨yb, hyb⟩ : ∃ yb, Ht.anyv c T X K 1 2 0 = yb := ⟨_, rfl⟩
        rw [hnb, hyb]
        have HN0 := hide' hnb
        have HN2 := hide' hyb
        clear hu hb hz CC HU8 HB8 hvv hnb hyb
        cases nb <;> cases yb
        · go_wp2_with (first | (go_at_call 15; refine (HV2.out).mono ?_; rintro r w'' ⟨rfl, rfl⟩))
          go_roundw
          case rel => exact ⟨1, by go_num, by omega, by rw [HS0.out 0, HN0.out, HVV.out]; rfl, by rw [HS2.out 0, HN2.out, HVV.out]; rfl, HB10⟩
          case measure => simp [RowKit.intOf]
        · go_wp2_with (first | (go_at_call 15; refine (HV2.out).mono ?_; rintro r w'' ⟨rfl, rfl⟩))
          go_roundw
          case rel => exact ⟨1, by go_num, by omega, by rw [HS0.out 0, HN0.out, HVV.out]; rfl, by rw [HS2.out 0, HN2.out, HVV.out]; rfl, HB10⟩
          case measure => simp [RowKit.intOf]
        · go_wp2_with (first | (go_at_call 15; refine (HV2.out).mono ?_; rintro r w'' ⟨rfl, rfl⟩))
          go_roundw
          case rel => exact ⟨1, by go_num, by omega, by rw [HS0.out 0, HN0.out, HVV.out]; rfl, by rw [HS2.out 0, HN2.out, HVV.out]; rfl, HB10⟩
          case measure => simp [RowKit.intOf]
        · go_wp2_with (first | (go_at_call 15; refine (HV2.out).mono ?_; rintro r w'' ⟨rfl, rfl⟩))
          go_roundw
          case rel => exact ⟨1, by go_num, by omega, by rw [HS0.out 0, HN0.out, HVV.out]; rfl, by rw [HS2.out 0, HN2.out, HVV.out]; rfl, HB10⟩
          case measure => simp [RowKit.intOf]
    · as_aux_lemma =>
        go_wp2_with fail
        refine (CA.out wr).mono ?_
        rintro r w7 ⟨b, rfl, h1, hu, hb⟩
        have HB7 := hide' (HB.out.trans (hb.mono HB.out.size))
        have hbb : W.heap.size ≤ b := Nat.le_trans HB.out.size h1
        have HU := hide' hu
        clear q0 q1 q2 hu hb HB h1
        go_wp2_with fail
        refine (CG.out w7 b HU.out).mono ?_
        rintro r w8 ⟨rfl, hu, hb⟩
        have HU8 := hide' hu
        have HB8 := hide' (HB7.out.trans (hb.below hbb HB7.out.size))
        clear hu hb HB7 HU
        obtain ⟨q0, q1, q2⟩ := HBX.out w8 HB8.out
        go_wp2_with fail
        refine (CT1.out w8 b _ _ _ _ X HU8.out hXl).mono ?_
        rintro r w9 ⟨rfl, hu, hb⟩
        have HU9 := hide' hu
        have HB9 := hide' (HB8.out.trans (hb.below hbb HB8.out.size))
        clear hu hb q0 q1 q2 HU8 HB8
        have hz : X ++ Ht.zi T X K 1 1 = X ++ T := by simp [Ht.zi]
        have CC := hide' (htClose HU9.out)
        go_wp2_with fail
        refine (CC.out).mono ?_
        rintro r w10 ⟨rfl, hu, hb⟩
        have HB10 := hide' (HB9.out.trans (hb.below hbb HB9.out.size))
        rw [← hz] at hu
        have HV2 := hide' (HV.out w10 b 1 hu)
        obtain ⟨vv, hvv⟩ : ∃ vv, Ht.vi c T X K 1 1 = vv := ⟨_, rfl⟩
        rw [hvv] at HV2
        have HVV := hide' hvv
        obtain ⟨nb, hnb⟩ : ∃ nb, Ht.anyv c T X K 1 0 1 = nb := ⟨_, rfl⟩
        obtain ⟨yb, hyb⟩ : ∃ yb, Ht.anyv c T X K 1 2 1 = yb := ⟨_, rfl⟩
        rw [hnb, hyb]
        have HN0 := hide' hnb
        have HN2 := hide' hyb
        clear hu hb hz CC HU9 HB9 hvv hnb hyb
        cases nb <;> cases yb
        · go_wp2_with (first | (go_at_call 15; refine (HV2.out).mono ?_; rintro r w'' ⟨rfl, rfl⟩))
          go_roundw
          case rel => exact ⟨2, by go_num, by omega, by rw [HS0.out 1, HN0.out, HVV.out]; rfl, by rw [HS2.out 1, HN2.out, HVV.out]; rfl, HB10⟩
          case measure => simp [RowKit.intOf]
        · go_wp2_with (first | (go_at_call 15; refine (HV2.out).mono ?_; rintro r w'' ⟨rfl, rfl⟩))
          go_roundw
          case rel => exact ⟨2, by go_num, by omega, by rw [HS0.out 1, HN0.out, HVV.out]; rfl, by rw [HS2.out 1, HN2.out, HVV.out]; rfl, HB10⟩
          case measure => simp [RowKit.intOf]
        · go_wp2_with (first | (go_at_call 15; refine (HV2.out).mono ?_; rintro r w'' ⟨rfl, rfl⟩))
          go_roundw
          case rel => exact ⟨2, by go_num, by omega, by rw [HS0.out 1, HN0.out, HVV.out]; rfl, by rw [HS2.out 1, HN2.out, HVV.out]; rfl, HB10⟩
          case measure => simp [RowKit.intOf]
        · go_wp2_with (first | (go_at_call 15; refine (HV2.out).mono ?_; rintro r w'' ⟨rfl, rfl⟩))
          go_roundw
          case rel => exact ⟨2, by go_num, by omega, by rw [HS0.out 1, HN0.out, HVV.out]; rfl, by rw [HS2.out 1, HN2.out, HVV.out]; rfl, HB10⟩
          case measure => simp [RowKit.intOf]
    · as_aux_lemma =>
        go_wp2_with fail
        refine (CA.out wr).mono ?_
        rintro r w7 ⟨b, rfl, h1, hu, hb⟩
        have HB7 := hide' (HB.out.trans (hb.mono HB.out.size))
        have hbb : W.heap.size ≤ b := Nat.le_trans HB.out.size h1
        have HU := hide' hu
        clear q0 q1 q2 hu hb HB h1
        go_wp2_with fail
        refine (CG.out w7 b HU.out).mono ?_
        rintro r w8 ⟨rfl, hu, hb⟩
        have HU8 := hide' hu
        have HB8 := hide' (HB7.out.trans (hb.below hbb HB7.out.size))
        clear hu hb HB7 HU
        obtain ⟨q0, q1, q2⟩ := HBX.out w8 HB8.out
        clear q0 q1 q2
        go_wp2_with fail
        refine (CLt.out w8).mono ?_
        rintro r w9 ⟨rfl, hb9⟩
        have HU9 := hide' (HU8.out.below hb9)
        have HB9 := hide' (HB8.out.trans (hb9.mono HB8.out.size))
        clear hb9 HU8 HB8
        obtain ⟨q0, q1, q2⟩ := HBX.out w9 HB9.out
        have xx : w9.drew.cell? ⟨w.heap.size, 1, none⟩ = some (.string (Rn.arr f n)) := q1
        have HBd : Hid (Ht.Hu w9.drew b (Ht.cc c) (Ht.tdc c) (Ht.cn c K) T X false) := HU9.out.below ⟨rfl, rfl, rfl, Nat.le_refl _, fun _ _ => rfl⟩
        have hwb : w.heap.size ≠ b := by have := HBW.out.size; have : w.heap.size < W.heap.size := by rw [← HWd.out]; simp
                                         omega
        clear q0 q1 q2
        go_wp2_with fail
        go_region_held (fun w' => w'.cell? ⟨w.heap.size, 1, none⟩ = some (.string (Rn.arr f n))) (first | (with_reducible exact xx) | (with_reducible exact x1) | (with_reducible exact x2) | (with_reducible exact x3)) (first | (go_at_call 9; refine (CLa.out _).mono ?_; rintro r w10 ⟨rfl, hb10⟩; have x1 := keep1 xx hb10; have HU10 := hide' (HBd.out.below hb10)) | (go_at_call 16; refine (CS.out _ x (by omega)).mono ?_; rintro r w11 ⟨rfl, hb11⟩; have x2 := keep1 x1 hb11; have HU11 := hide' (HU10.out.below hb11)) | (go_at_call 7; refine (htAddText HU11.out (T.drop x) (fun r hr => HTS.out r (List.mem_of_mem_drop hr)) hXTl.out).mono ?_; rintro r w12 ⟨rfl, hu12, hb12⟩; have x3 : w12.cell? ⟨w.heap.size, 1, none⟩ = some (.string (Rn.arr f n)) := (World.cell?_of_block (a := ⟨w.heap.size, 1, none⟩) (hb12.block w.heap.size (block_lt_of_cell x2) hwb)).trans x2))
        all_goals
          have HB12 : Hid (Below W.heap.size W w12) := by
            have hA : Below W.heap.size W w10 := HB9.out.drew.trans (hb10.mono HB9.out.size)
            have hB : Below W.heap.size W w11 := hA.trans (hb11.mono hA.size)
            exact hB.trans (hb12.below hbb hB.size)
          have HU12 := hide' hu12
          clear hb10 hb11 hb12 hu12 x1 x2 x3 xx HU10 HU11 HBd HU9 HB9
          have hz : X ++ Ht.zi T X K 1 2 = X ++ T.drop x := by simp [Ht.zi, HXL.out]
          have CC := hide' (htClose HU12.out)
          go_wp2_with fail
          refine (CC.out).mono ?_
          rintro r w10 ⟨rfl, hu, hb⟩
          have HB10 := hide' (HB12.out.trans (hb.below hbb HB12.out.size))
          rw [← hz] at hu
          have HV2 := hide' (HV.out w10 b 2 hu)
          obtain ⟨vv, hvv⟩ : ∃ vv, Ht.vi c T X K 1 2 = vv := ⟨_, rfl⟩
          rw [hvv] at HV2
          have HVV := hide' hvv
          obtain ⟨nb, hnb⟩ : ∃ nb, Ht.anyv c T X K 1 0 2 = nb := ⟨_, rfl⟩
          obtain ⟨yb, hyb⟩ : ∃ yb, Ht.anyv c T X K 1 2 2 = yb := ⟨_, rfl⟩
          rw [hnb, hyb]
          have HN0 := hide' hnb
          have HN2 := hide' hyb
          clear hu hb hz CC HU12 HB12 hvv hnb hyb
          cases nb <;> cases yb
          · go_wp2_with (first | (go_at_call 15; refine (HV2.out).mono ?_; rintro r w'' ⟨rfl, rfl⟩))
            go_roundw
            case rel => exact ⟨3, by go_num, by omega, by rw [HS0.out 2, HN0.out, HVV.out]; rfl, by rw [HS2.out 2, HN2.out, HVV.out]; rfl, HB10⟩
            case measure => simp [RowKit.intOf]
          · go_wp2_with (first | (go_at_call 15; refine (HV2.out).mono ?_; rintro r w'' ⟨rfl, rfl⟩))
            go_roundw
            case rel => exact ⟨3, by go_num, by omega, by rw [HS0.out 2, HN0.out, HVV.out]; rfl, by rw [HS2.out 2, HN2.out, HVV.out]; rfl, HB10⟩
            case measure => simp [RowKit.intOf]
          · go_wp2_with (first | (go_at_call 15; refine (HV2.out).mono ?_; rintro r w'' ⟨rfl, rfl⟩))
            go_roundw
            case rel => exact ⟨3, by go_num, by omega, by rw [HS0.out 2, HN0.out, HVV.out]; rfl, by rw [HS2.out 2, HN2.out, HVV.out]; rfl, HB10⟩
            case measure => simp [RowKit.intOf]
          · go_wp2_with (first | (go_at_call 15; refine (HV2.out).mono ?_; rintro r w'' ⟨rfl, rfl⟩))
            go_roundw
            case rel => exact ⟨3, by go_num, by omega, by rw [HS0.out 2, HN0.out, HVV.out]; rfl, by rw [HS2.out 2, HN2.out, HVV.out]; rfl, HB10⟩
            case measure => simp [RowKit.intOf]
    · as_aux_lemma =>
        go_wp2_with fail
        refine (CA.out wr).mono ?_
        rintro r w7 ⟨b, rfl, h1, hu, hb⟩
        have HB7 := hide' (HB.out.trans (hb.mono HB.out.size))
        have hbb : W.heap.size ≤ b := Nat.le_trans HB.out.size h1
        have HU := hide' hu
        clear q0 q1 q2 hu hb HB h1
        go_wp2_with fail
        refine (CG.out w7 b HU.out).mono ?_
        rintro r w8 ⟨rfl, hu, hb⟩
        have HU8 := hide' hu
        have HB8 := hide' (HB7.out.trans (hb.below hbb HB7.out.size))
        clear hu hb HB7 HU
        obtain ⟨q0, q1, q2⟩ := HBX.out w8 HB8.out
        clear q0 q1
        have xx : w8.drew.cell? ⟨w.heap.size, 2, none⟩ = some (.int .i64 N) := q2
        have HUd : Hid (Ht.Hu w8.drew b (Ht.cc c) (Ht.tdc c) (Ht.cn c K) T X false) := HU8.out.below ⟨rfl, rfl, rfl, Nat.le_refl _, fun _ _ => rfl⟩
        clear q2
        go_wp2_with fail
        go_region_held (fun w' => w'.cell? ⟨w.heap.size, 2, none⟩ = some (.int .i64 N)) (first | (with_reducible exact xx) | (with_reducible exact x1)) (first | (go_at_call 9; refine (CLt.out _).mono ?_; rintro r w10 ⟨rfl, hb10⟩; have x1 := keep1 xx hb10))
        all_goals
          have HU10 := hide' (HUd.out.below hb10)
          have HB10' := hide' (HB8.out.drew.trans (hb10.mono HB8.out.size))
          clear hb10 x1 xx HUd HU8 HB8
          obtain ⟨d, hd⟩ : ∃ d : Int, IntKind.i64.wrap (K - (x : Int)) = d := ⟨_, rfl⟩
          have HD : Hid (Ht.nul (K - (x : Int)) = Ht.nul d ∧ (0 < d ∧ d < 2000 → d = K - (x : Int))) := by
            unfold Ht.nul
            rw [htWrap] at hd
            have hkey : (0 < d ∧ d < 2000) ↔ (0 < K - (x : Int) ∧ K - (x : Int) < 2000) := by rw [← hd]; unfold wrap64; omega
            have hval : 0 < d ∧ d < 2000 → d = K - (x : Int) := by intro h; rw [← hd] at h ⊢; unfold wrap64 at h ⊢; omega
            refine ⟨?_, hval⟩
            by_cases e : 0 < d ∧ d < 2000
            · rw [if_pos e, if_pos (hkey.1 e), hval e]
            · rw [if_neg e, if_neg (fun h => e (hkey.2 h))]
          rw [hd]
          clear hd
          by_cases hd1 : 0 < d
          · by_cases hd2 : d < 2000
            · obtain ⟨k, rfl⟩ : ∃ k : Nat, d = k := ⟨d.toNat, by omega⟩
              have hmk := htMake k (by omega)
              have hcv := htNulText k
              go_wp2_with fail
              refine (htAddNul (HU10.out.below ((Below.refl _ _).alloc (Nat.le_refl _) _)) k (by omega)).mono ?_
              rintro r w11 ⟨rfl, hu, hb⟩
              have HB11 : Hid (Below W.heap.size W w11) := (HB10'.out.alloc HB10'.out.size _).trans (hb.below hbb (by have := HB10'.out.size; simp; omega))
              have HU11 := hide' hu
              clear hu hb HU10 HB10' hmk hcv
              have hz : X ++ Ht.zi T X K 1 3 = X ++ List.replicate k 0 := by simp only [Ht.zi]; simp; rw [HXL.out, HD.out.1]; unfold Ht.nul; rw [if_pos ⟨hd1, hd2⟩]; simp
              have CC := hide' (htClose HU11.out)
              go_wp2_with fail
              refine (CC.out).mono ?_
              rintro r w10 ⟨rfl, hu, hb⟩
              have HB10 := hide' (HB11.out.trans (hb.below hbb HB11.out.size))
              rw [← hz] at hu
              have HV2 := hide' (HV.out w10 b 3 hu)
              obtain ⟨vv, hvv⟩ : ∃ vv, Ht.vi c T X K 1 3 = vv := ⟨_, rfl⟩
              rw [hvv] at HV2
              have HVV := hide' hvv
              obtain ⟨nb, hnb⟩ : ∃ nb, Ht.anyv c T X K 1 0 3 = nb := ⟨_, rfl⟩
              obtain ⟨yb, hyb⟩ : ∃ yb, Ht.anyv c T X K 1 2 3 = yb := ⟨_, rfl⟩
              rw [hnb, hyb]
              have HN0 := hide' hnb
              have HN2 := hide' hyb
              clear hu hb hz CC HU11 HB11 hvv hnb hyb
              cases nb <;> cases yb
              · go_wp2_with (first | (go_at_call 15; refine (HV2.out).mono ?_; rintro r w'' ⟨rfl, rfl⟩))
                go_roundw
                case rel => exact ⟨4, by go_num, by omega, by rw [HS0.out 3, HN0.out, HVV.out]; rfl, by rw [HS2.out 3, HN2.out, HVV.out]; rfl, HB10⟩
                case measure => simp [RowKit.intOf]
              · go_wp2_with (first | (go_at_call 15; refine (HV2.out).mono ?_; rintro r w'' ⟨rfl, rfl⟩))
                go_roundw
                case rel => exact ⟨4, by go_num, by omega, by rw [HS0.out 3, HN0.out, HVV.out]; rfl, by rw [HS2.out 3, HN2.out, HVV.out]; rfl, HB10⟩
                case measure => simp [RowKit.intOf]
              · go_wp2_with (first | (go_at_call 15; refine (HV2.out).mono ?_; rintro r w'' ⟨rfl, rfl⟩))
                go_roundw
                case rel => exact ⟨4, by go_num, by omega, by rw [HS0.out 3, HN0.out, HVV.out]; rfl, by rw [HS2.out 3, HN2.out, HVV.out]; rfl, HB10⟩
                case measure => simp [RowKit.intOf]
              · go_wp2_with (first | (go_at_call 15; refine (HV2.out).mono ?_; rintro r w'' ⟨rfl, rfl⟩))
                go_roundw
                case rel => exact ⟨4, by go_num, by omega, by rw [HS0.out 3, HN0.out, HVV.out]; rfl, by rw [HS2.out 3, HN2.out, HVV.out]; rfl, HB10⟩
                case measure => simp [RowKit.intOf]
            · have hd3 : decide (d < 2000) = false := decide_eq_false hd2
              have HD2 := hide' hd2
              clear hd2
              have hz : X ++ Ht.zi T X K 1 3 = X ++ [] := by simp only [Ht.zi]; simp; rw [HXL.out, HD.out.1]; unfold Ht.nul; rw [if_neg (fun h => HD2.out h.2)]
              rw [List.append_nil] at hz
              have CC := hide' (htClose HU10.out)
              go_wp2_with fail
              refine (CC.out).mono ?_
              rintro r w10 ⟨rfl, hu, hb⟩
              have HB10 := hide' (HB10'.out.trans (hb.below hbb HB10'.out.size))
              rw [← hz] at hu
              have HV2 := hide' (HV.out w10 b 3 hu)
              obtain ⟨vv, hvv⟩ : ∃ vv, Ht.vi c T X K 1 3 = vv := ⟨_, rfl⟩
              rw [hvv] at HV2
              have HVV := hide' hvv
              obtain ⟨nb, hnb⟩ : ∃ nb, Ht.anyv c T X K 1 0 3 = nb := ⟨_, rfl⟩
              obtain ⟨yb, hyb⟩ : ∃ yb, Ht.anyv c T X K 1 2 3 = yb := ⟨_, rfl⟩
              rw [hnb, hyb]
              have HN0 := hide' hnb
              have HN2 := hide' hyb
              clear hu hb hz CC HU10 HB10' hvv hnb hyb
              cases nb <;> cases yb
              · go_wp2_with (first | (go_at_call 15; refine (HV2.out).mono ?_; rintro r w'' ⟨rfl, rfl⟩))
                go_roundw
                case rel => exact ⟨4, by go_num, by omega, by rw [HS0.out 3, HN0.out, HVV.out]; rfl, by rw [HS2.out 3, HN2.out, HVV.out]; rfl, HB10⟩
                case measure => simp [RowKit.intOf]
              · go_wp2_with (first | (go_at_call 15; refine (HV2.out).mono ?_; rintro r w'' ⟨rfl, rfl⟩))
                go_roundw
                case rel => exact ⟨4, by go_num, by omega, by rw [HS0.out 3, HN0.out, HVV.out]; rfl, by rw [HS2.out 3, HN2.out, HVV.out]; rfl, HB10⟩
                case measure => simp [RowKit.intOf]
              · go_wp2_with (first | (go_at_call 15; refine (HV2.out).mono ?_; rintro r w'' ⟨rfl, rfl⟩))
                go_roundw
                case rel => exact ⟨4, by go_num, by omega, by rw [HS0.out 3, HN0.out, HVV.out]; rfl, by rw [HS2.out 3, HN2.out, HVV.out]; rfl, HB10⟩
                case measure => simp [RowKit.intOf]
              · go_wp2_with (first | (go_at_call 15; refine (HV2.out).mono ?_; rintro r w'' ⟨rfl, rfl⟩))
                go_roundw
                case rel => exact ⟨4, by go_num, by omega, by rw [HS0.out 3, HN0.out, HVV.out]; rfl, by rw [HS2.out 3, HN2.out, HVV.out]; rfl, HB10⟩
                case measure => simp [RowKit.intOf]
          · have hd3 : decide (0 < d) = false := decide_eq_false hd1
            have HD1 := hide' hd1
            clear hd1
            have hz : X ++ Ht.zi T X K 1 3 = X ++ [] := by simp only [Ht.zi]; simp; rw [HXL.out, HD.out.1]; unfold Ht.nul; rw [if_neg (fun h => HD1.out h.1)]
            rw [List.append_nil] at hz
            have CC := hide' (htClose HU10.out)
            go_wp2_with fail
            refine (CC.out).mono ?_
            rintro r w10 ⟨rfl, hu, hb⟩
            have HB10 := hide' (HB10'.out.trans (hb.below hbb HB10'.out.size))
            rw [← hz] at hu
            have HV2 := hide' (HV.out w10 b 3 hu)
            obtain ⟨vv, hvv⟩ : ∃ vv, Ht.vi c T X K 1 3 = vv := ⟨_, rfl⟩
            rw [hvv] at HV2
            have HVV := hide' hvv
            obtain ⟨nb, hnb⟩ : ∃ nb, Ht.anyv c T X K 1 0 3 = nb := ⟨_, rfl⟩
            obtain ⟨yb, hyb⟩ : ∃ yb, Ht.anyv c T X K 1 2 3 = yb := ⟨_, rfl⟩
            rw [hnb, hyb]
            have HN0 := hide' hnb
            have HN2 := hide' hyb
            clear hu hb hz CC HU10 HB10' hvv hnb hyb
            cases nb <;> cases yb
            · go_wp2_with (first | (go_at_call 15; refine (HV2.out).mono ?_; rintro r w'' ⟨rfl, rfl⟩))
              go_roundw
              case rel => exact ⟨4, by go_num, by omega, by rw [HS0.out 3, HN0.out, HVV.out]; rfl, by rw [HS2.out 3, HN2.out, HVV.out]; rfl, HB10⟩
              case measure => simp [RowKit.intOf]
            · go_wp2_with (first | (go_at_call 15; refine (HV2.out).mono ?_; rintro r w'' ⟨rfl, rfl⟩))
              go_roundw
              case rel => exact ⟨4, by go_num, by omega, by rw [HS0.out 3, HN0.out, HVV.out]; rfl, by rw [HS2.out 3, HN2.out, HVV.out]; rfl, HB10⟩
              case measure => simp [RowKit.intOf]
            · go_wp2_with (first | (go_at_call 15; refine (HV2.out).mono ?_; rintro r w'' ⟨rfl, rfl⟩))
              go_roundw
              case rel => exact ⟨4, by go_num, by omega, by rw [HS0.out 3, HN0.out, HVV.out]; rfl, by rw [HS2.out 3, HN2.out, HVV.out]; rfl, HB10⟩
              case measure => simp [RowKit.intOf]
            · go_wp2_with (first | (go_at_call 15; refine (HV2.out).mono ?_; rintro r w'' ⟨rfl, rfl⟩))
              go_roundw
              case rel => exact ⟨4, by go_num, by omega, by rw [HS0.out 3, HN0.out, HVV.out]; rfl, by rw [HS2.out 3, HN2.out, HVV.out]; rfl, HB10⟩
              case measure => simp [RowKit.intOf]
    · as_aux_lemma =>
        go_wp2_with fail
        refine (CA.out wr).mono ?_
        rintro r w7 ⟨b, rfl, h1, hu, hb⟩
        have HB7 := hide' (HB.out.trans (hb.mono HB.out.size))
        have hbb : W.heap.size ≤ b := Nat.le_trans HB.out.size h1
        have HU := hide' hu
        clear q0 q1 q2 hu hb HB h1
        go_wp2_with fail
        refine (CG.out w7 b HU.out).mono ?_
        rintro r w8 ⟨rfl, hu, hb⟩
        have HU8 := hide' hu
        have HB8 := hide' (HB7.out.trans (hb.below hbb HB7.out.size))
        clear hu hb HB7 HU
        obtain ⟨q0, q1, q2⟩ := HBX.out w8 HB8.out
        clear q0 q1
        have xx : w8.drew.cell? ⟨w.heap.size, 2, none⟩ = some (.int .i64 N) := q2
        have HUd : Hid (Ht.Hu w8.drew b (Ht.cc c) (Ht.tdc c) (Ht.cn c K) T X false) := HU8.out.below ⟨rfl, rfl, rfl, Nat.le_refl _, fun _ _ => rfl⟩
        clear q2
        go_wp2_with fail
        go_region_held (fun w' => w'.cell? ⟨w.heap.size, 2, none⟩ = some (.int .i64 N)) (first | (with_reducible exact xx) | (with_reducible exact x1)) (first | (go_at_call 9; refine (CLt.out _).mono ?_; rintro r w10 ⟨rfl, hb10⟩; have x1 := keep1 xx hb10))
        all_goals
          have HU10 := hide' (HUd.out.below hb10)
          have HB10' := hide' (HB8.out.drew.trans (hb10.mono HB8.out.size))
          clear hb10 x1 xx HUd HU8 HB8
          obtain ⟨d, hd⟩ : ∃ d : Int, IntKind.i64.wrap (IntKind.i64.wrap (K + 1) - (x : Int)) = d := ⟨_, rfl⟩
          have HD : Hid (Ht.nul (K + 1 - (x : Int)) = Ht.nul d ∧ (0 < d ∧ d < 2000 → d = K + 1 - (x : Int))) := by
            unfold Ht.nul
            rw [htWrap, htWrap] at hd
            have hkey : (0 < d ∧ d < 2000) ↔ (0 < K + 1 - (x : Int) ∧ K + 1 - (x : Int) < 2000) := by rw [← hd]; unfold wrap64; omega
            have hval : 0 < d ∧ d < 2000 → d = K + 1 - (x : Int) := by intro h; rw [← hd] at h ⊢; unfold wrap64 at h ⊢; omega
            refine ⟨?_, hval⟩
            by_cases e : 0 < d ∧ d < 2000
            · rw [if_pos e, if_pos (hkey.1 e), hval e]
            · rw [if_neg e, if_neg (fun h => e (hkey.2 h))]
          rw [hd]
          clear hd
          by_cases hd1 : 0 < d
          · by_cases hd2 : d < 2000
            · obtain ⟨k, rfl⟩ : ∃ k : Nat, d = k := ⟨d.toNat, by omega⟩
              have hmk := htMake k (by omega)
              have hcv := htNulText k
              go_wp2_with fail
              refine (htAddNul (HU10.out.below ((Below.refl _ _).alloc (Nat.le_refl _) _)) k (by omega)).mono ?_
              rintro r w11 ⟨rfl, hu, hb⟩
              have HB11 : Hid (Below W.heap.size W w11) := (HB10'.out.alloc HB10'.out.size _).trans (hb.below hbb (by have := HB10'.out.size; simp; omega))
              have HU11 := hide' hu
              clear hu hb HU10 HB10' hmk hcv
              have hz : X ++ Ht.zi T X K 1 4 = X ++ List.replicate k 0 := by simp only [Ht.zi]; simp; rw [HXL.out, HD.out.1]; unfold Ht.nul; rw [if_pos ⟨hd1, hd2⟩]; simp
              have CC := hide' (htClose HU11.out)
              go_wp2_with fail
              refine (CC.out).mono ?_
              rintro r w10 ⟨rfl, hu, hb⟩
              have HB10 := hide' (HB11.out.trans (hb.below hbb HB11.out.size))
              rw [← hz] at hu
              have HV2 := hide' (HV.out w10 b 4 hu)
              obtain ⟨vv, hvv⟩ : ∃ vv, Ht.vi c T X K 1 4 = vv := ⟨_, rfl⟩
              rw [hvv] at HV2
              have HVV := hide' hvv
              obtain ⟨nb, hnb⟩ : ∃ nb, Ht.anyv c T X K 1 0 4 = nb := ⟨_, rfl⟩
              obtain ⟨yb, hyb⟩ : ∃ yb, Ht.anyv c T X K 1 2 4 = yb := ⟨_, rfl⟩
              rw [hnb, hyb]
              have HN0 := hide' hnb
              have HN2 := hide' hyb
              clear hu hb hz CC HU11 HB11 hvv hnb hyb
              cases nb <;> cases yb
              · go_wp2_with (first | (go_at_call 15; refine (HV2.out).mono ?_; rintro r w'' ⟨rfl, rfl⟩))
                go_roundw
                case rel => exact ⟨5, by go_num, by omega, by rw [HS0.out 4, HN0.out, HVV.out]; rfl, by rw [HS2.out 4, HN2.out, HVV.out]; rfl, HB10⟩
                case measure => simp [RowKit.intOf]
              · go_wp2_with (first | (go_at_call 15; refine (HV2.out).mono ?_; rintro r w'' ⟨rfl, rfl⟩))
                go_roundw
                case rel => exact ⟨5, by go_num, by omega, by rw [HS0.out 4, HN0.out, HVV.out]; rfl, by rw [HS2.out 4, HN2.out, HVV.out]; rfl, HB10⟩
                case measure => simp [RowKit.intOf]
              · go_wp2_with (first | (go_at_call 15; refine (HV2.out).mono ?_; rintro r w'' ⟨rfl, rfl⟩))
                go_roundw
                case rel => exact ⟨5, by go_num, by omega, by rw [HS0.out 4, HN0.out, HVV.out]; rfl, by rw [HS2.out 4, HN2.out, HVV.out]; rfl, HB10⟩
                case measure => simp [RowKit.intOf]
              · go_wp2_with (first | (go_at_call 15; refine (HV2.out).mono ?_; rintro r w'' ⟨rfl, rfl⟩))
                go_roundw
                case rel => exact ⟨5, by go_num, by omega, by rw [HS0.out 4, HN0.out, HVV.out]; rfl, by rw [HS2.out 4, HN2.out, HVV.out]; rfl, HB10⟩
                case measure => simp [RowKit.intOf]
            · have hd3 : decide (d < 2000) = false := decide_eq_false hd2
              have HD2 := hide' hd2
              clear hd2
              have hz : X ++ Ht.zi T X K 1 4 = X ++ [] := by simp only [Ht.zi]; simp; rw [HXL.out, HD.out.1]; unfold Ht.nul; rw [if_neg (fun h => HD2.out h.2)]
              rw [List.append_nil] at hz
              have CC := hide' (htClose HU10.out)
              go_wp2_with fail
              refine (CC.out).mono ?_
              rintro r w10 ⟨rfl, hu, hb⟩
              have HB10 := hide' (HB10'.out.trans (hb.below hbb HB10'.out.size))
              rw [← hz] at hu
              have HV2 := hide' (HV.out w10 b 4 hu)
              obtain ⟨vv, hvv⟩ : ∃ vv, Ht.vi c T X K 1 4 = vv := ⟨_, rfl⟩
              rw [hvv] at HV2
              have HVV := hide' hvv
              obtain ⟨nb, hnb⟩ : ∃ nb, Ht.anyv c T X K 1 0 4 = nb := ⟨_, rfl⟩
              obtain ⟨yb, hyb⟩ : ∃ yb, Ht.anyv c T X K 1 2 4 = yb := ⟨_, rfl⟩
              rw [hnb, hyb]
              have HN0 := hide' hnb
              have HN2 := hide' hyb
              clear hu hb hz CC HU10 HB10' hvv hnb hyb
              cases nb <;> cases yb
              · go_wp2_with (first | (go_at_call 15; refine (HV2.out).mono ?_; rintro r w'' ⟨rfl, rfl⟩))
                go_roundw
                case rel => exact ⟨5, by go_num, by omega, by rw [HS0.out 4, HN0.out, HVV.out]; rfl, by rw [HS2.out 4, HN2.out, HVV.out]; rfl, HB10⟩
                case measure => simp [RowKit.intOf]
              · go_wp2_with (first | (go_at_call 15; refine (HV2.out).mono ?_; rintro r w'' ⟨rfl, rfl⟩))
                go_roundw
                case rel => exact ⟨5, by go_num, by omega, by rw [HS0.out 4, HN0.out, HVV.out]; rfl, by rw [HS2.out 4, HN2.out, HVV.out]; rfl, HB10⟩
                case measure => simp [RowKit.intOf]
              · go_wp2_with (first | (go_at_call 15; refine (HV2.out).mono ?_; rintro r w'' ⟨rfl, rfl⟩))
                go_roundw
                case rel => exact ⟨5, by go_num, by omega, by rw [HS0.out 4, HN0.out, HVV.out]; rfl, by rw [HS2.out 4, HN2.out, HVV.out]; rfl, HB10⟩
                case measure => simp [RowKit.intOf]
              · go_wp2_with (first | (go_at_call 15; refine (HV2.out).mono ?_; rintro r w'' ⟨rfl, rfl⟩))
                go_roundw
                case rel => exact ⟨5, by go_num, by omega, by rw [HS0.out 4, HN0.out, HVV.out]; rfl, by rw [HS2.out 4, HN2.out, HVV.out]; rfl, HB10⟩
                case measure => simp [RowKit.intOf]
          · have hd3 : decide (0 < d) = false := decide_eq_false hd1
            have HD1 := hide' hd1
            clear hd1
            have hz : X ++ Ht.zi T X K 1 4 = X ++ [] := by simp only [Ht.zi]; simp; rw [HXL.out, HD.out.1]; unfold Ht.nul; rw [if_neg (fun h => HD1.out h.1)]
            rw [List.append_nil] at hz
            have CC := hide' (htClose HU10.out)
            go_wp2_with fail
            refine (CC.out).mono ?_
            rintro r w10 ⟨rfl, hu, hb⟩
            have HB10 := hide' (HB10'.out.trans (hb.below hbb HB10'.out.size))
            rw [← hz] at hu
            have HV2 := hide' (HV.out w10 b 4 hu)
            obtain ⟨vv, hvv⟩ : ∃ vv, Ht.vi c T X K 1 4 = vv := ⟨_, rfl⟩
            rw [hvv] at HV2
            have HVV := hide' hvv
            obtain ⟨nb, hnb⟩ : ∃ nb, Ht.anyv c T X K 1 0 4 = nb := ⟨_, rfl⟩
            obtain ⟨yb, hyb⟩ : ∃ yb, Ht.anyv c T X K 1 2 4 = yb := ⟨_, rfl⟩
            rw [hnb, hyb]
            have HN0 := hide' hnb
            have HN2 := hide' hyb
            clear hu hb hz CC HU10 HB10' hvv hnb hyb
            cases nb <;> cases yb
            · go_wp2_with (first | (go_at_call 15; refine (HV2.out).mono ?_; rintro r w'' ⟨rfl, rfl⟩))
              go_roundw
              case rel => exact ⟨5, by go_num, by omega, by rw [HS0.out 4, HN0.out, HVV.out]; rfl, by rw [HS2.out 4, HN2.out, HVV.out]; rfl, HB10⟩
              case measure => simp [RowKit.intOf]
            · go_wp2_with (first | (go_at_call 15; refine (HV2.out).mono ?_; rintro r w'' ⟨rfl, rfl⟩))
              go_roundw
              case rel => exact ⟨5, by go_num, by omega, by rw [HS0.out 4, HN0.out, HVV.out]; rfl, by rw [HS2.out 4, HN2.out, HVV.out]; rfl, HB10⟩
              case measure => simp [RowKit.intOf]
            · go_wp2_with (first | (go_at_call 15; refine (HV2.out).mono ?_; rintro r w'' ⟨rfl, rfl⟩))
              go_roundw
              case rel => exact ⟨5, by go_num, by omega, by rw [HS0.out 4, HN0.out, HVV.out]; rfl, by rw [HS2.out 4, HN2.out, HVV.out]; rfl, HB10⟩
              case measure => simp [RowKit.intOf]
            · go_wp2_with (first | (go_at_call 15; refine (HV2.out).mono ?_; rintro r w'' ⟨rfl, rfl⟩))
              go_roundw
              case rel => exact ⟨5, by go_num, by omega, by rw [HS0.out 4, HN0.out, HVV.out]; rfl, by rw [HS2.out 4, HN2.out, HVV.out]; rfl, HB10⟩
              case measure => simp [RowKit.intOf]
    · as_aux_lemma =>
        go_wp2_with fail
        refine (CA.out wr).mono ?_
        rintro r w7 ⟨b, rfl, h1, hu, hb⟩
        have HB7 := hide' (HB.out.trans (hb.mono HB.out.size))
        have hbb : W.heap.size ≤ b := Nat.le_trans HB.out.size h1
        have HU := hide' hu
        clear q0 q1 q2 hu hb HB h1
        go_wp2_with fail
        refine (CG.out w7 b HU.out).mono ?_
        rintro r w8 ⟨rfl, hu, hb⟩
        have HU8 := hide' hu
        have HB8 := hide' (HB7.out.trans (hb.below hbb HB7.out.size))
        clear hu hb HB7 HU
        obtain ⟨q0, q1, q2⟩ := HBX.out w8 HB8.out
        clear q0 q1 q2
        go_wp2_with fail
        refine (CO.out w8 b _ _ _ _ X HU8.out hXl).mono ?_
        rintro r w9 ⟨rfl, hu, hb⟩
        have HU9 := hide' hu
        have HB9 := hide' (HB8.out.trans (hb.below hbb HB8.out.size))
        clear hu hb HU8 HB8
        have hz : X ++ Ht.zi T X K 1 5 = X ++ [1] := by simp [Ht.zi]
        have CC := hide' (htClose HU9.out)
        go_wp2_with fail
        refine (CC.out).mono ?_
        rintro r w10 ⟨rfl, hu, hb⟩
        have HB10 := hide' (HB9.out.trans (hb.below hbb HB9.out.size))
        rw [← hz] at hu
        have HV2 := hide' (HV.out w10 b 5 hu)
        obtain ⟨vv, hvv⟩ : ∃ vv, Ht.vi c T X K 1 5 = vv := ⟨_, rfl⟩
        rw [hvv] at HV2
        have HVV := hide' hvv
        obtain ⟨nb, hnb⟩ : ∃ nb, Ht.anyv c T X K 1 0 5 = nb := ⟨_, rfl⟩
        obtain ⟨yb, hyb⟩ : ∃ yb, Ht.anyv c T X K 1 2 5 = yb := ⟨_, rfl⟩
        rw [hnb, hyb]
        have HN0 := hide' hnb
        have HN2 := hide' hyb
        clear hu hb hz CC HU9 HB9 hvv hnb hyb
        cases nb <;> cases yb
        · go_wp2_with (first | (go_at_call 15; refine (HV2.out).mono ?_; rintro r w'' ⟨rfl, rfl⟩))
          go_roundw
          case rel => exact ⟨6, by go_num, by omega, by rw [HS0.out 5, HN0.out, HVV.out]; rfl, by rw [HS2.out 5, HN2.out, HVV.out]; rfl, HB10⟩
          case measure => simp [RowKit.intOf]
        · go_wp2_with (first | (go_at_call 15; refine (HV2.out).mono ?_; rintro r w'' ⟨rfl, rfl⟩))
          go_roundw
          case rel => exact ⟨6, by go_num, by omega, by rw [HS0.out 5, HN0.out, HVV.out]; rfl, by rw [HS2.out 5, HN2.out, HVV.out]; rfl, HB10⟩
          case measure => simp [RowKit.intOf]
        · go_wp2_with (first | (go_at_call 15; refine (HV2.out).mono ?_; rintro r w'' ⟨rfl, rfl⟩))
          go_roundw
          case rel => exact ⟨6, by go_num, by omega, by rw [HS0.out 5, HN0.out, HVV.out]; rfl, by rw [HS2.out 5, HN2.out, HVV.out]; rfl, HB10⟩
          case measure => simp [RowKit.intOf]
        · go_wp2_with (first | (go_at_call 15; refine (HV2.out).mono ?_; rintro r w'' ⟨rfl, rfl⟩))
          go_roundw
          case rel => exact ⟨6, by go_num, by omega, by rw [HS0.out 5, HN0.out, HVV.out]; rfl, by rw [HS2.out 5, HN2.out, HVV.out]; rfl, HB10⟩
          case measure => simp [RowKit.intOf]
    · as_aux_lemma =>
        by_cases hN : N < 1900
        · obtain ⟨f2, f0⟩ := HFIN.out hN
          rw [f2, f0]
          clear f2 f0 hN
          go_wp2_with fail
          go_ret
          exact ⟨rfl, HUP.out _ HB.out⟩
        · have hN3 : (1900 : Int) ≤ N := by omega
          obtain ⟨nb, hnb⟩ : ∃ nb, Ht.anyv c T X K 1 0 6 = nb := ⟨_, rfl⟩
          obtain ⟨yb, hyb⟩ : ∃ yb, Ht.anyv c T X K 1 2 6 = yb := ⟨_, rfl⟩
          rw [hnb, hyb]
          clear hnb hyb hN HFIN
          cases nb <;> cases yb
          all_goals
            go_wp2_with fail
            go_ret
            exact ⟨rfl, HUP.out _ HB.out⟩
end Go.Proofs.YtddinjgpoillgaaDoor
