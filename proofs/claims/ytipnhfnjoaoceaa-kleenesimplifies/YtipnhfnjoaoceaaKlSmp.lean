/-
  THE WALK over gimletlaw14.KleeneSimplifies (gen_smp.py).
-/
import Derived.Test.YtipnhfnjoaoceaaKlRefS
import Derived.Test.YtipnhfnjoaoceaaKlGrwM
import Derived.Test.YtipnhfnjoaoceaaKlSimB
namespace Go.Proofs.Ytipnhfnjoaoceaa
open Go.RowKit Go.Lib Go.Sort
set_option maxRecDepth 100000 in
set_option maxHeartbeats 8000000 in
theorem lawSimplifies (x : Kl.Fv) (vv : Value) (vs : List Int) (w : World) (hx : Kl.Ok w x) (hv : Kl.TsN w vv vs) (hn : vs.length ≤ 17592186044416) :
    Calls Try.prog 5 #[.agg x.enc.toArray, vv] w fun r w' => r = .returned (.bool true) ∧ Below w.heap.size w w' := by
  have mixed : Try.prog.follows Departure.mixedOrders = true := by kernel_rfl
  have CG := hide' (fun w' (g : Below w.heap.size w w') => klGreat x w' (hx.below g))
  have CT := hide' (fun hs w' (g : Below w.heap.size w w') => Kl.twA (x := x) hs (hx.below g))
  have CU := hide' (fun w' (g : Below w.heap.size w w') => lawTruthsF vv vs w' (hv.below g) hn)
  have CI := hide' (fun w' (g : Below w.heap.size w w') => klRefIs x w' (hx.below g))
  have CO := hide' (fun w' (g : Below w.heap.size w w') => klRefGood vv vs w' (hv.1.below g))
  have hvs : ∃ p n c, vv = .slice p n c := by obtain ⟨p, c, e, _⟩ := hv.1; exact ⟨p, _, c, e⟩
  have CE := hide' (fun hG hs w' (g : Below w.heap.size w w') => klRefEval vv vs x hvs w' hG hs (hx.below g) (hv.1.below g))
  have CM := hide' (fun hG hs w' (g : Below w.heap.size w w') => klRefSimplify vv vs x hvs w' hG hs (hx.below g) (hv.1.below g))
  have CQ := hide' (fun v' w' (g : Below w.heap.size w w') (h' : Kl.Ts w' v' vs) => lawEqual14 v' vv vs w' h' (hv.1.below g))
  obtain ⟨f, hf⟩ : ∃ f, Kl.ct x = f := ⟨_, rfl⟩
  have YX : Hid (∀ (y : Kl.Fv) w', Below w.heap.size w w' → Kl.Ok w' y → Kl.ct y = f → Calls Try.prog 29 #[.agg y.enc.toArray, .agg x.enc.toArray] w' fun e w2 => e = .returned (.bool true) ∧ Kl.Gr w' w2) := fun y w' hb ho hc => klSame y x w' (by rw [hc, hf]) ho (hx.below hb)
  simp only [hf] at CG CT CI CE CM
  obtain ⟨s, hS⟩ : ∃ s, Kl.sz f = s := ⟨_, rfl⟩
  have YE : Hid (∀ y w' v', Kl.Ok w' y → Kl.ct y = f → s ≤ 131072 → Kl.Ts w' v' vs → Calls Try.prog 27 #[.agg y.enc.toArray, v'] w' fun e w2 => e = .returned (.tuple #[.int .i64 (if Kl.okE vs f then Kl.ev vs f else 0), .int .i64 (Kl.erO (Kl.okE vs f))]) ∧ Below w'.heap.size w' w2) := fun y w' v' ho hc hs hl => by
    have := klEval y v' vs w' ho hl (by rw [hc]; omega)
    rw [hc] at this
    exact this
  have YS : Hid (∀ y w' v', Kl.Ok w' y → Kl.ct y = f → s ≤ 131072 → Kl.Ts w' v' vs → Kl.okE vs f = true → Calls Try.prog 28 #[.agg y.enc.toArray, v'] w' fun r w2 => Kl.SimE w' (Kl.rs vs f) r w2) := fun y w' v' ho hc hs hl hk => by
    unfold Kl.okE at hk
    simp at hk
    have := klSimplify y v' vs w' ho hl (by rw [hc]; omega) hk.1 (by rw [hc, Kl.isF_isG f _ (by omega)]; exact hk.2)
    rw [hc, (Kl.lse_rs vs f hk.2).1] at this
    exact this
  have YB : Hid (∀ y w' v', Kl.Ok w' y → Kl.ct y = f → s ≤ 131072 → Kl.Ts w' v' vs → Kl.okE vs f = false → Calls Try.prog 28 #[.agg y.enc.toArray, v'] w' fun e w2 => e = .returned (.tuple #[.agg #[.int .i64 0, .int .i64 0, .int .i64 0, .slice none 0 0], .int .i64 6]) ∧ Below w'.heap.size w' w2) := fun y w' v' ho hc hs hl hk => klSimplifyBad y v' vs w' ho hl (by rw [hc]; omega) (by rw [hc]; exact hk)
  have HOK : Hid (Kl.okE vs f = (Kl.goodL vs && Kl.isG f)) := rfl
  simp only [hS] at CG CT CE CM
  obtain ⟨pv, cv, rfl, v1, v2, _⟩ := hv.1
  obtain ⟨nv, hnv⟩ : ∃ n, vs.length = n := ⟨_, rfl⟩
  simp only [hnv] at CU CO CE CM CQ v1 ⊢
  obtain ⟨xo, xv, xn, xp, xc, xl⟩ := x
  obtain ⟨kx, hkx⟩ : ∃ k, xl.length = k := ⟨_, rfl⟩
  simp only [Kl.Fv.enc, hkx] at CG CT CI CE CM ⊢
  rw [show (Kl.Fv.mk xo xv xn xp xc xl).enc.toArray = #[.int .i64 xo, .int .i64 xv, .int .i64 xn, .slice xp kx xc] by simp only [Kl.Fv.enc, hkx]] at YX
  obtain ⟨W, hWd⟩ : ∃ W, w.alloc (.cells #[.int .i64 xo, .int .i64 xv, .int .i64 xn, .slice xp kx xc] 37) = W := ⟨_, rfl⟩
  have HBW : Hid (Below w.heap.size w W) := by rw [← hWd]; exact (Below.refl _ _).alloc (Nat.le_refl _) _
  have HUP : Hid (∀ w', Below W.heap.size W w' → Below w.heap.size w w') := fun w' h => HBW.out.trans (h.mono HBW.out.size)
  have HZ : Hid (W.heap.size = w.heap.size + 1) := by show W.heap.size = _; rw [← hWd]; simp
  have HBX : Hid (∀ w', Below W.heap.size W w' → w'.cell? ⟨w.heap.size, 0, none⟩ = some (.int .i64 xo) ∧ w'.cell? ⟨w.heap.size, 1, none⟩ = some (.int .i64 xv) ∧ w'.cell? ⟨w.heap.size, 2, none⟩ = some (.int .i64 xn) ∧ w'.cell? ⟨w.heap.size, 3, none⟩ = some (.slice xp kx xc)) := fun w' h => by
    have hw0 : w.heap.size < W.heap.size := by rw [HZ.out]; omega
    have e : ∀ o, w'.cell? ⟨w.heap.size, o, none⟩ = W.cell? ⟨w.heap.size, o, none⟩ := fun o => h.cell (p := ⟨w.heap.size, o, none⟩) hw0
    rw [e, e, e, e, ← hWd]
    refine ⟨?_, ?_, ?_, ?_⟩ <;> simp
  have HWd := hide' hWd
  clear hx hv hf hS hkx hWd hnv hn hvs
  go_enter Try.func5, Try.ntmps5
  go_wp2_with fail
  rw [HWd.out]
  refine (CG.out W HBW.out).mono ?_
  rintro r w1 ⟨rfl, hg1⟩
  have HB1 := hide' hg1.below
  clear hg1 CG
  by_cases hgr : 65536 < s
  · have d1 : decide (65536 < s) = true := decide_eq_true hgr
    rw [d1]
    clear d1 hgr CT CU CI CO CE CM CQ YX YE YS YB
    go_wp2_with fail
    refine (klFixed _).mono ?_
    rintro r w2 ⟨rfl, hb2⟩
    have HB2 := hide' (HB1.out.trans (hb2.mono HB1.out.size))
    clear hb2 HB1
    go_wp2_with fail
    go_ret
    exact ⟨rfl, HUP.out _ HB2.out⟩
  have d1 : decide (65536 < s) = false := decide_eq_false hgr
  rw [d1]
  have CT2 := hide' (CT.out (by omega))
  have YE2 := hide' (fun y w' v' ho hc => YE.out y w' v' ho hc (by omega))
  have YS2 := hide' (fun y w' v' ho hc => YS.out y w' v' ho hc (by omega))
  have YB2 := hide' (fun y w' v' ho hc => YB.out y w' v' ho hc (by omega))
  have CE2 := hide' (fun hG => CE.out hG (by omega))
  have CM2 := hide' (fun hG => CM.out hG (by omega))
  obtain ⟨q0, q1, q2, q3⟩ := HBX.out w1 HB1.out
  clear d1 hgr CT YE YS YB CE CM
  go_wp2_with fail
  refine (CT2.out _ (HUP.out _ HB1.out)).mono ?_
  rintro r w2 ⟨y, yo, yv, yn, yp, ky, yc, rfl, HY, HO, HC, HFP, hb⟩
  have HB2 := hide' (HB1.out.trans (hb.out.mono HB1.out.size))
  clear q0 q1 q2 q3 HFP hb HB1 CT2
  go_wp2_with fail
  refine (CU.out _ (HUP.out _ HB2.out)).mono ?_
  rintro r w3 ⟨p3, c3, rfl, HT, hb⟩
  have HB3 := hide' (HB2.out.trans (hb.out.mono HB2.out.size))
  have HO3 := hide' (HO.out.below hb.out)
  clear hb HB2 HO CU
  go_wp2_with fail
  obtain ⟨W4, hW4⟩ : ∃ W9, w3.alloc (.cells #[.int .i64 yo, .int .i64 yv, .int .i64 yn, .slice yp ky yc] 37) = W9 := ⟨_, rfl⟩
  obtain ⟨BM, hBM⟩ : ∃ B9, w3.heap.size = B9 := ⟨_, rfl⟩
  have HBW4 : Hid (Below W.heap.size W W4) := by rw [← hW4]; exact HB3.out.alloc HB3.out.size _
  have HCBM : Hid (∀ w', Below W4.heap.size W4 w' → w'.cell? ⟨BM, 0, none⟩ = some (.int .i64 yo) ∧ w'.cell? ⟨BM, 1, none⟩ = some (.int .i64 yv) ∧ w'.cell? ⟨BM, 2, none⟩ = some (.int .i64 yn) ∧ w'.cell? ⟨BM, 3, none⟩ = some (.slice yp ky yc)) := fun w' h => by
    have hw0 : BM < W4.heap.size := by rw [← hW4, ← hBM]; simp
    have e : ∀ o, w'.cell? ⟨BM, o, none⟩ = W4.cell? ⟨BM, o, none⟩ := fun o => h.cell (p := ⟨BM, o, none⟩) hw0
    rw [e, e, e, e, ← hW4, ← hBM]
    refine ⟨?_, ?_, ?_, ?_⟩ <;> simp
  have H34 : Hid (Below w3.heap.size w3 W4) := by rw [← hW4]; exact (Below.refl _ _).alloc (Nat.le_refl _) _
  rw [hW4, hBM]
  clear hW4 hBM
  have HO4 := hide' (HO3.out.below H34.out)
  have HT4 := hide' (HT.out.below H34.out)
  obtain ⟨q0, q1, q2, q3⟩ := HCBM.out W4 (Below.refl _ _)
  have K := hide' (YE2.out y W4 _ HO4.out HC.out HT4.out)
  rw [HY.out] at K
  obtain ⟨t0, ht0⟩ : ∃ t : Int, (if Kl.okE vs f = true then Kl.ev vs f else 0) = t := ⟨_, rfl⟩
  obtain ⟨e0, he0⟩ : ∃ t : Int, Kl.erO (Kl.okE vs f) = t := ⟨_, rfl⟩
  simp only [ht0, he0] at K
  have HT0 := hide' ht0
  have HE0 := hide' he0
  clear ht0 he0 HO3 HT YE2 HB3 H34
  go_wp2_with fail
  refine K.out.mono ?_
  rintro r w5 ⟨rfl, hb⟩
  have HB5 := hide' (HBW4.out.trans (hb.mono HBW4.out.size))
  have H45 := hide' hb
  have HO5 := hide' (HO4.out.below hb)
  have HT5 := hide' (HT4.out.below hb)
  clear hb K q0 q1 q2 q3 HO4 HT4
  obtain ⟨q0, q1, q2, q3⟩ := HCBM.out w5 H45.out
  by_cases k1 : Kl.okE vs f = true
  · have hh1 : Kl.ev vs f = t0 := by rw [← HT0.out, k1]; rfl
    have hh2 : e0 = 0 := by rw [← HE0.out, k1]; rfl
    have hgd : Kl.goodL vs = true ∧ Kl.isG f = true := by have := HOK.out; rw [k1] at this; rw [eq_comm, Bool.and_eq_true] at this; exact this
    subst hh2
    have K := hide' (YS2.out y w5 _ HO5.out HC.out HT5.out k1)
    rw [HY.out] at K
    have CE3 := hide' (CE2.out hgd.2)
    have CM3 := hide' (CM2.out hgd.2)
    rw [hh1] at CE3
    rw [hgd.2] at CI
    rw [hgd.1] at CO
    clear k1 hh1 hgd HT0 HE0 YS2 YB2 CE2 CM2
    go_wp2_with fail
    refine K.out.mono ?_
    rintro r w6 ⟨g, go, gv, gn, gp, kg, gc, rfl, HGE, HGG⟩
    have HB6 := hide' (HB5.out.trans (HGG.out.2.2.2.mono HB5.out.size))
    have H46 := hide' (H45.out.trans (HGG.out.2.2.2.mono H45.out.size))
    have HO6 := hide' (HO5.out.below HGG.out.2.2.2)
    have HT6 := hide' (HT5.out.below HGG.out.2.2.2)
    clear K q0 q1 q2 q3 HO5 HT5 HB5 H45
    go_wp2_with fail
    have H67 : Hid (∀ ob, Below w6.heap.size w6 (w6.alloc ob)) := fun ob => (Below.refl _ _).alloc (Nat.le_refl _) ob
    have H67b := hide' (H67.out (.cells #[.int .i64 go, .int .i64 gv, .int .i64 gn, .slice gp kg gc] 37))
    obtain ⟨W7, hW7⟩ : ∃ W9, w6.alloc (.cells #[.int .i64 go, .int .i64 gv, .int .i64 gn, .slice gp kg gc] 37) = W9 := ⟨_, rfl⟩
    obtain ⟨BG, hBG⟩ : ∃ B9, w6.heap.size = B9 := ⟨_, rfl⟩
    have HBW7 : Hid (Below W.heap.size W W7) := by rw [← hW7]; exact HB6.out.alloc HB6.out.size _
    have HCBG : Hid (∀ w', Below W7.heap.size W7 w' → w'.cell? ⟨BG, 0, none⟩ = some (.int .i64 go) ∧ w'.cell? ⟨BG, 1, none⟩ = some (.int .i64 gv) ∧ w'.cell? ⟨BG, 2, none⟩ = some (.int .i64 gn) ∧ w'.cell? ⟨BG, 3, none⟩ = some (.slice gp kg gc)) := fun w' h => by
      have hw0 : BG < W7.heap.size := by rw [← hW7, ← hBG]; simp
      have e : ∀ o, w'.cell? ⟨BG, o, none⟩ = W7.cell? ⟨BG, o, none⟩ := fun o => h.cell (p := ⟨BG, o, none⟩) hw0
      rw [e, e, e, e, ← hW7, ← hBG]
      refine ⟨?_, ?_, ?_, ?_⟩ <;> simp
    rw [hW7] at H67b
    rw [hW7, hBG]
    clear hW7 hBG
    have HO7 := hide' (HO6.out.below H67b.out)
    have HT7 := hide' (HT6.out.below H67b.out)
    have H47 := hide' (H46.out.trans (H67b.out.mono H46.out.size))
    have HG7 := hide' (HGG.out.1.ok.below H67b.out)
    have HGC := hide' HGG.out.2.1
    clear HO6 HT6 H46 H67 H67b HGG HB6
    go_wp2_with fail
    refine (klFixed _).mono ?_
    rintro r w8 ⟨rfl, hb⟩
    have HB8 := hide' (HBW7.out.trans (hb.mono HBW7.out.size))
    have H78 := hide' hb
    have HO8 := hide' (HO7.out.below hb)
    have HT8 := hide' (HT7.out.below hb)
    clear hb
    obtain ⟨q0, q1, q2, q3⟩ := HCBM.out w8 (H47.out.trans (H78.out.mono H47.out.size))
    obtain ⟨r0, r1, r2, r3⟩ := HBX.out w8 HB8.out
    have K := hide' (YX.out y w8 (HUP.out _ HB8.out) HO8.out HC.out)
    rw [HY.out] at K
    go_wp2_with fail
    refine K.out.mono ?_
    rintro r w9 ⟨rfl, hg⟩
    have HB9 := hide' (HB8.out.trans (hg.below.mono HB8.out.size))
    have H79 := hide' (H78.out.trans (hg.below.mono H78.out.size))
    have HT9 := hide' (HT8.out.below hg.below)
    clear hg K q0 q1 q2 q3 r0 r1 r2 r3 HO8 HT8 H78 HB8
    have K := hide' (CQ.out _ w9 (HUP.out _ HB9.out) HT9.out)
    go_wp2_with fail
    refine K.out.mono ?_
    rintro r wa ⟨rfl, hb⟩
    have HBa := hide' (HB9.out.trans (hb.mono HB9.out.size))
    have H7a := hide' (H79.out.trans (hb.mono H79.out.size))
    clear hb K HT9 H79 HB9
    obtain ⟨r0, r1, r2, r3⟩ := HBX.out wa HBa.out
    have HGa := hide' (HG7.out.below H7a.out)
    obtain ⟨s0, s1, s2, s3⟩ := HCBG.out wa H7a.out
    have K := hide' (CI.out wa (HUP.out _ HBa.out))
    clear CI CQ YX HG7 HO7 HT7 H47
    go_wp2_with fail
    refine K.out.mono ?_
    rintro r wb ⟨rfl, hg⟩
    have HBb := hide' (HBa.out.trans (hg.below.mono HBa.out.size))
    have H7b := hide' (H7a.out.trans (hg.below.mono H7a.out.size))
    have HGb := hide' (HGa.out.below hg.below)
    clear hg K r0 r1 r2 r3 s0 s1 s2 s3 HBa H7a HGa
    have K := hide' (CO.out wb (HUP.out _ HBb.out))
    clear CO
    go_wp2_with fail
    refine K.out.mono ?_
    rintro r wc ⟨rfl, rfl⟩
    clear K
    go_wp2_with fail
    have HSO : Hid (∀ W', Below wc.heap.size wc W' → W'.cell? ⟨w.heap.size, 0, none⟩ = some (.int .i64 xo) ∧ W'.cell? ⟨w.heap.size, 1, none⟩ = some (.int .i64 xv) ∧ W'.cell? ⟨w.heap.size, 2, none⟩ = some (.int .i64 xn) ∧ W'.cell? ⟨w.heap.size, 3, none⟩ = some (.slice xp kx xc) ∧ W'.cell? ⟨BG, 0, none⟩ = some (.int .i64 go) ∧ W'.cell? ⟨BG, 1, none⟩ = some (.int .i64 gv) ∧ W'.cell? ⟨BG, 2, none⟩ = some (.int .i64 gn) ∧ W'.cell? ⟨BG, 3, none⟩ = some (.slice gp kg gc)) := fun W' h => by
      obtain ⟨r0, r1, r2, r3⟩ := HBX.out W' (HBb.out.trans (h.mono HBb.out.size))
      obtain ⟨s0, s1, s2, s3⟩ := HCBG.out W' (H7b.out.trans (h.mono H7b.out.size))
      exact ⟨r0, r1, r2, r3, s0, s1, s2, s3⟩
    have HUPc : Hid (∀ W', Below wc.heap.size wc W' → Below w.heap.size w W') := fun W' h => HUP.out _ (HBb.out.trans (h.mono HBb.out.size))
    have HGO : Hid (∀ W', Below wc.heap.size wc W' → Kl.Ok W' g) := fun W' h => HGb.out.below h
    have hS0 : Below wc.heap.size wc wc.drew := (Below.refl _ _).drew
    clear HBX HCBG HBb H7b HGb HCBM HBW4 HBW7
    refine wp_region_held_drew (S := fun W' => Below wc.heap.size wc W') (by kernel_rfl) hS0 (fun hHeld => ?_)
    simp only [List.size_toArray, List.length_cons, List.length_nil, Nat.reduceAdd]
    refine wpAnyH_take (i := 0) (v := .int .i64 0) rfl (by kernel_rfl) (by kernel_rfl) (by kernel_rfl) (fun _ _ _ h => h) (Or.inl ⟨by rfl, ?y0⟩) (by assumption) ?_
    case y0 => (intro w' hSw; obtain ⟨z0, z1, z2, z3, z4, z5, z6, z7⟩ := HSO.out w' hSw; go_simp)
    try simp only [List.getElem_toArray, List.getElem_cons_zero, Act.put, List.setIfInBounds_toArray, List.set_cons_zero, List.set_cons_succ]
    refine wpAnyH_take (i := 1) (v := .bool true) rfl (by kernel_rfl) (by kernel_rfl) (by kernel_rfl) (fun _ _ _ h => h) (Or.inl ⟨by rfl, ?y1⟩) (by assumption) ?_
    case y1 => (intro w' hSw; obtain ⟨z0, z1, z2, z3, z4, z5, z6, z7⟩ := HSO.out w' hSw; go_simp)
    try simp only [List.getElem_toArray, List.getElem_cons_zero, List.getElem_cons_succ, Act.put, List.setIfInBounds_toArray, List.set_cons_zero, List.set_cons_succ]
    refine wpAnyH_take (i := 2) (v := .bool true) rfl (by kernel_rfl) (by kernel_rfl) (by kernel_rfl) (fun _ _ _ h => h) (Or.inl ⟨by rfl, ?y2⟩) (by assumption) ?_
    case y2 => (intro w' hSw; obtain ⟨z0, z1, z2, z3, z4, z5, z6, z7⟩ := HSO.out w' hSw; go_simp)
    try simp only [List.getElem_toArray, List.getElem_cons_zero, List.getElem_cons_succ, Act.put, List.setIfInBounds_toArray, List.set_cons_zero, List.set_cons_succ]
    refine wpAnyH_take (i := 3) (v := .int .i64 t0) rfl (by kernel_rfl) (by kernel_rfl) (by kernel_rfl) (fun _ _ _ h => h) (Or.inl ⟨by rfl, ?y3⟩) (by assumption) ?_
    case y3 => (intro w' hSw; obtain ⟨z0, z1, z2, z3, z4, z5, z6, z7⟩ := HSO.out w' hSw; go_simp)
    try simp only [List.getElem_toArray, List.getElem_cons_zero, List.getElem_cons_succ, Act.put, List.setIfInBounds_toArray, List.set_cons_zero, List.set_cons_succ]
    refine wpAnyH_take (i := 4) (v := .agg #[.int .i64 xo, .int .i64 xv, .int .i64 xn, .slice xp kx xc]) rfl (by kernel_rfl) (by kernel_rfl) (by kernel_rfl) (fun _ _ _ h => h) (Or.inl ⟨by rfl, ?y4⟩) (by assumption) ?_
    case y4 => (intro w' hSw; obtain ⟨z0, z1, z2, z3, z4, z5, z6, z7⟩ := HSO.out w' hSw; go_simp)
    try simp only [List.getElem_toArray, List.getElem_cons_zero, List.getElem_cons_succ, Act.put, List.setIfInBounds_toArray, List.set_cons_zero, List.set_cons_succ]
    refine wpAnyH_take (i := 5) (v := .slice pv nv cv) rfl (by kernel_rfl) (by kernel_rfl) (by kernel_rfl) (fun _ _ _ h => h) (Or.inl ⟨by rfl, ?y5⟩) (by assumption) ?_
    case y5 => (intro w' hSw; obtain ⟨z0, z1, z2, z3, z4, z5, z6, z7⟩ := HSO.out w' hSw; go_simp)
    try simp only [List.getElem_toArray, List.getElem_cons_zero, List.getElem_cons_succ, Act.put, List.setIfInBounds_toArray, List.set_cons_zero, List.set_cons_succ]
    refine wpAnyH_ready (rs := [6]) (by kernel_rfl) (by simp) ?_
    refine AllReadyH.cons rfl (fun K hK => ?_) AllReadyH.nil
    try simp only [List.getElem_toArray, List.getElem_cons_zero, List.getElem_cons_succ]
    go_simp
    refine (CE3.out wc.drew (HUPc.out _ hS0)).mono ?_
    rintro e W1 ⟨rfl, hb1⟩
    have hS1 : Below wc.heap.size wc W1 := hS0.trans (hb1.mono hS0.size)
    clear hb1 CE3
    refine hK.out _ _ hS1 (fun hHeld9 => ?_)
    clear hK K
    try simp only [List.getElem_toArray, List.getElem_cons_zero, List.getElem_cons_succ, Act.put, List.setIfInBounds_toArray, List.set_cons_zero, List.set_cons_succ]
    refine wpAnyH_take (i := 7) (v := .bool true) rfl (by kernel_rfl) (by kernel_rfl) (by kernel_rfl) (fun _ _ _ h => h) (Or.inl ⟨by rfl, ?y7⟩) (by assumption) ?_
    case y7 => (intro w' hSw; obtain ⟨z0, z1, z2, z3, z4, z5, z6, z7⟩ := HSO.out w' hSw; go_simp)
    try simp only [List.getElem_toArray, List.getElem_cons_zero, List.getElem_cons_succ, Act.put, List.setIfInBounds_toArray, List.set_cons_zero, List.set_cons_succ]
    refine wpAnyH_take (i := 8) (v := .bool true) rfl (by kernel_rfl) (by kernel_rfl) (by kernel_rfl) (fun _ _ _ h => h) (Or.inl ⟨by rfl, ?y8⟩) (by assumption) ?_
    case y8 => (intro w' hSw; obtain ⟨z0, z1, z2, z3, z4, z5, z6, z7⟩ := HSO.out w' hSw; go_simp)
    try simp only [List.getElem_toArray, List.getElem_cons_zero, List.getElem_cons_succ, Act.put, List.setIfInBounds_toArray, List.set_cons_zero, List.set_cons_succ]
    refine wpAnyH_take (i := 9) (v := .bool true) rfl (by kernel_rfl) (by kernel_rfl) (by kernel_rfl) (fun _ _ _ h => h) (Or.inl ⟨by rfl, ?y9⟩) (by assumption) ?_
    case y9 => (intro w' hSw; obtain ⟨z0, z1, z2, z3, z4, z5, z6, z7⟩ := HSO.out w' hSw; go_simp)
    try simp only [List.getElem_toArray, List.getElem_cons_zero, List.getElem_cons_succ, Act.put, List.setIfInBounds_toArray, List.set_cons_zero, List.set_cons_succ]
    refine wpAnyH_take (i := 10) (v := .agg #[.int .i64 go, .int .i64 gv, .int .i64 gn, .slice gp kg gc]) rfl (by kernel_rfl) (by kernel_rfl) (by kernel_rfl) (fun _ _ _ h => h) (Or.inl ⟨by rfl, ?y10⟩) (by assumption) ?_
    case y10 => (intro w' hSw; obtain ⟨z0, z1, z2, z3, z4, z5, z6, z7⟩ := HSO.out w' hSw; go_simp)
    try simp only [List.getElem_toArray, List.getElem_cons_zero, List.getElem_cons_succ, Act.put, List.setIfInBounds_toArray, List.set_cons_zero, List.set_cons_succ]
    refine wpAnyH_take (i := 11) (v := .agg #[.int .i64 xo, .int .i64 xv, .int .i64 xn, .slice xp kx xc]) rfl (by kernel_rfl) (by kernel_rfl) (by kernel_rfl) (fun _ _ _ h => h) (Or.inl ⟨by rfl, ?y11⟩) (by assumption) ?_
    case y11 => (intro w' hSw; obtain ⟨z0, z1, z2, z3, z4, z5, z6, z7⟩ := HSO.out w' hSw; go_simp)
    try simp only [List.getElem_toArray, List.getElem_cons_zero, List.getElem_cons_succ, Act.put, List.setIfInBounds_toArray, List.set_cons_zero, List.set_cons_succ]
    refine wpAnyH_take (i := 12) (v := .slice pv nv cv) rfl (by kernel_rfl) (by kernel_rfl) (by kernel_rfl) (fun _ _ _ h => h) (Or.inl ⟨by rfl, ?y12⟩) (by assumption) ?_
    case y12 => (intro w' hSw; obtain ⟨z0, z1, z2, z3, z4, z5, z6, z7⟩ := HSO.out w' hSw; go_simp)
    try simp only [List.getElem_toArray, List.getElem_cons_zero, List.getElem_cons_succ, Act.put, List.setIfInBounds_toArray, List.set_cons_zero, List.set_cons_succ]
    refine wpAnyH_ready (rs := [13]) (by kernel_rfl) (by simp) ?_
    refine AllReadyH.cons rfl (fun K hK => ?_) AllReadyH.nil
    try simp only [List.getElem_toArray, List.getElem_cons_zero, List.getElem_cons_succ]
    go_simp
    refine (CM3.out W1 (HUPc.out _ hS1)).mono ?_
    rintro e W2 ⟨m, mo, mv, mn, mp, km, mc, rfl, HME, HMM⟩
    have hS2 : Below wc.heap.size wc W2 := hS1.trans (HMM.out.2.2.2.mono hS1.size)
    have KS := hide' (klSame g m W2 (by rw [HGC.out, HMM.out.2.1]) (HGO.out W2 hS2) HMM.out.1)
    rw [HGE.out, HME.out] at KS
    clear CM3 HMM HGO
    refine hK.out _ _ hS2 (fun hHeld9 => ?_)
    clear hK K
    try simp only [List.getElem_toArray, List.getElem_cons_zero, List.getElem_cons_succ, Act.put, List.setIfInBounds_toArray, List.set_cons_zero, List.set_cons_succ]
    refine wpAnyH_ready (rs := [14]) (by kernel_rfl) (by simp) ?_
    refine AllReadyH.cons rfl (fun K hK => ?_) AllReadyH.nil
    try simp only [List.getElem_toArray, List.getElem_cons_zero, List.getElem_cons_succ]
    go_simp
    refine KS.out.mono ?_
    rintro e W3 ⟨rfl, hg⟩
    have hS3 : Below wc.heap.size wc W3 := hS2.trans (hg.below.mono hS2.size)
    clear KS hg
    refine hK.out _ _ hS3 (fun hHeld9 => ?_)
    clear hK K
    try simp only [List.getElem_toArray, List.getElem_cons_zero, List.getElem_cons_succ, Act.put, List.setIfInBounds_toArray, List.set_cons_zero, List.set_cons_succ]
    refine wpAnyH_take (i := 15) (v := .bool true) rfl (by kernel_rfl) (by kernel_rfl) (by kernel_rfl) (fun _ _ _ h => h) (Or.inl ⟨by rfl, ?y15⟩) (by assumption) ?_
    case y15 => (intro w' hSw; obtain ⟨z0, z1, z2, z3, z4, z5, z6, z7⟩ := HSO.out w' hSw; go_simp)
    try simp only [List.getElem_toArray, List.getElem_cons_zero, List.getElem_cons_succ, Act.put, List.setIfInBounds_toArray, List.set_cons_zero, List.set_cons_succ]
    refine wpAnyH_take (i := 16) (v := .bool true) rfl (by kernel_rfl) (by kernel_rfl) (by kernel_rfl) (fun _ _ _ h => h) (Or.inl ⟨by rfl, ?y16⟩) (by assumption) ?_
    case y16 => (intro w' hSw; obtain ⟨z0, z1, z2, z3, z4, z5, z6, z7⟩ := HSO.out w' hSw; go_simp)
    try simp only [List.getElem_toArray, List.getElem_cons_zero, List.getElem_cons_succ, Act.put, List.setIfInBounds_toArray, List.set_cons_zero, List.set_cons_succ]
    refine wpAnyH_done (by kernel_rfl) ?_ _
    clear HSO
    go_wp2_with fail
    go_ret
    exact ⟨rfl, HUPc.out _ hS3⟩
  · have k2 : Kl.okE vs f = false := by simpa using k1
    have hh1 : t0 = 0 := by rw [← HT0.out, k2]; rfl
    have hh2 : e0 = 6 := by rw [← HE0.out, k2]; rfl
    subst hh1 hh2
    have K := hide' (YB2.out y w5 _ HO5.out HC.out HT5.out k2)
    rw [HY.out] at K
    have HBD : Hid (Kl.isG f = false ∨ (Kl.isG f = true ∧ Kl.goodL vs = false)) := by
      have := HOK.out
      rw [k2] at this
      cases h1 : Kl.isG f with
      | false => exact .inl rfl
      | true => rw [h1, Bool.and_true] at this; exact .inr ⟨rfl, this.symm⟩
    clear k1 k2 HT0 HE0 YS2 YB2 CE2 CM2
    go_wp2_with fail
    refine K.out.mono ?_
    rintro r w6 ⟨rfl, hb⟩
    have HB6 := hide' (HB5.out.trans (hb.mono HB5.out.size))
    have H46 := hide' (H45.out.trans (hb.mono H45.out.size))
    have HO6 := hide' (HO5.out.below hb)
    have HT6 := hide' (HT5.out.below hb)
    clear hb K q0 q1 q2 q3 HO5 HT5 HB5 H45
    go_wp2_with fail
    have H67b : Hid (Below w6.heap.size w6 (w6.alloc (.cells #[.int .i64 0, .int .i64 0, .int .i64 0, .slice none 0 0] 37))) := (Below.refl _ _).alloc (Nat.le_refl _) _
    obtain ⟨W7, hW7⟩ : ∃ W9, w6.alloc (.cells #[.int .i64 0, .int .i64 0, .int .i64 0, .slice none 0 0] 37) = W9 := ⟨_, rfl⟩
    obtain ⟨BG, hBG⟩ : ∃ B9, w6.heap.size = B9 := ⟨_, rfl⟩
    have HBW7 : Hid (Below W.heap.size W W7) := by rw [← hW7]; exact HB6.out.alloc HB6.out.size _
    have HCBG : Hid (∀ w', Below W7.heap.size W7 w' → w'.cell? ⟨BG, 0, none⟩ = some (.int .i64 0) ∧ w'.cell? ⟨BG, 1, none⟩ = some (.int .i64 0) ∧ w'.cell? ⟨BG, 2, none⟩ = some (.int .i64 0) ∧ w'.cell? ⟨BG, 3, none⟩ = some (.slice none 0 0)) := fun w' h => by
      have hw0 : BG < W7.heap.size := by rw [← hW7, ← hBG]; simp
      have e : ∀ o, w'.cell? ⟨BG, o, none⟩ = W7.cell? ⟨BG, o, none⟩ := fun o => h.cell (p := ⟨BG, o, none⟩) hw0
      rw [e, e, e, e, ← hW7, ← hBG]
      refine ⟨?_, ?_, ?_, ?_⟩ <;> simp
    rw [hW7] at H67b
    rw [hW7, hBG]
    clear hW7 hBG
    have HO7 := hide' (HO6.out.below H67b.out)
    have HT7 := hide' (HT6.out.below H67b.out)
    have H47 := hide' (H46.out.trans (H67b.out.mono H46.out.size))
    clear HO6 HT6 H46 H67b HB6
    go_wp2_with fail
    refine (klFixed _).mono ?_
    rintro r w8 ⟨rfl, hb⟩
    have HB8 := hide' (HBW7.out.trans (hb.mono HBW7.out.size))
    have H78 := hide' hb
    have HO8 := hide' (HO7.out.below hb)
    have HT8 := hide' (HT7.out.below hb)
    clear hb
    obtain ⟨q0, q1, q2, q3⟩ := HCBM.out w8 (H47.out.trans (H78.out.mono H47.out.size))
    obtain ⟨r0, r1, r2, r3⟩ := HBX.out w8 HB8.out
    have K := hide' (YX.out y w8 (HUP.out _ HB8.out) HO8.out HC.out)
    rw [HY.out] at K
    go_wp2_with fail
    refine K.out.mono ?_
    rintro r w9 ⟨rfl, hg⟩
    have HB9 := hide' (HB8.out.trans (hg.below.mono HB8.out.size))
    have H79 := hide' (H78.out.trans (hg.below.mono H78.out.size))
    have HT9 := hide' (HT8.out.below hg.below)
    clear hg K q0 q1 q2 q3 r0 r1 r2 r3 HO8 HT8 H78 HB8
    have K := hide' (CQ.out _ w9 (HUP.out _ HB9.out) HT9.out)
    go_wp2_with fail
    refine K.out.mono ?_
    rintro r wa ⟨rfl, hb⟩
    have HBa := hide' (HB9.out.trans (hb.mono HB9.out.size))
    have H7a := hide' (H79.out.trans (hb.mono H79.out.size))
    clear hb K HT9 H79 HB9
    obtain ⟨r0, r1, r2, r3⟩ := HBX.out wa HBa.out
    have K := hide' (CI.out wa (HUP.out _ HBa.out))
    clear CI CQ YX HO7 HT7 H47
    rcases HBD.out with b1 | ⟨b1, b2⟩
    · rw [b1] at K
      clear b1 HBD CO
      go_wp2_with fail
      refine K.out.mono ?_
      rintro r wb ⟨rfl, hg⟩
      have HBb := hide' (HBa.out.trans (hg.below.mono HBa.out.size))
      have H7b := hide' (H7a.out.trans (hg.below.mono H7a.out.size))
      clear hg K r0 r1 r2 r3 HBa H7a
      obtain ⟨s0, s1, s2, s3⟩ := HCBG.out wb H7b.out
      have K := hide' (klSame (.mk 0 0 0 none 0 []) (.mk 0 0 0 none 0 []) wb rfl (Kl.Ok.leaf _ _ _ _) (Kl.Ok.leaf _ _ _ _))
      simp only [Kl.Fv.enc, List.length_nil] at K
      go_wp2_with fail
      refine K.out.mono ?_
      rintro e wz ⟨rfl, hg⟩
      have HBz := hide' (HBb.out.trans (hg.below.mono HBb.out.size))
      clear K hg s0 s1 s2 s3
      go_wp2_with fail
      go_ret
      exact ⟨rfl, HUP.out _ HBz.out⟩
    · rw [b1] at K
      rw [b2] at CO
      clear b1 b2 HBD
      go_wp2_with fail
      refine K.out.mono ?_
      rintro r wb ⟨rfl, hg⟩
      have HBb := hide' (HBa.out.trans (hg.below.mono HBa.out.size))
      have H7b := hide' (H7a.out.trans (hg.below.mono H7a.out.size))
      clear hg K r0 r1 r2 r3 HBa H7a
      have K := hide' (CO.out wb (HUP.out _ HBb.out))
      clear CO
      go_wp2_with fail
      refine K.out.mono ?_
      rintro r wc ⟨rfl, rfl⟩
      clear K
      obtain ⟨s0, s1, s2, s3⟩ := HCBG.out wc H7b.out
      have K := hide' (klSame (.mk 0 0 0 none 0 []) (.mk 0 0 0 none 0 []) wc rfl (Kl.Ok.leaf _ _ _ _) (Kl.Ok.leaf _ _ _ _))
      simp only [Kl.Fv.enc, List.length_nil] at K
      go_wp2_with fail
      refine K.out.mono ?_
      rintro e wz ⟨rfl, hg⟩
      have HBz := hide' (HBb.out.trans (hg.below.mono HBb.out.size))
      clear K hg s0 s1 s2 s3
      go_wp2_with fail
      go_ret
      exact ⟨rfl, HUP.out _ HBz.out⟩
end Go.Proofs.Ytipnhfnjoaoceaa
