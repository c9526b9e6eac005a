/-
  THE WALK over gimletlaw14.KleeneKeeps (gen_kp.py).
-/
import Derived.Test.YtipnhfnjoaoceaaKlSmM
import Derived.Test.YtipnhfnjoaoceaaKlGrwM
import Derived.Test.YtipnhfnjoaoceaaKlSimB
namespace Go.Proofs.Ytipnhfnjoaoceaa
open Go.RowKit Go.Lib Go.Sort
namespace Kl
theorem rs_sz' {vs : List Int} {f : Fm} (h : isG f = true) : sz (rs vs f) ≤ sz f := by
  rw [← (lse_rs vs f h).1]
  exact Nat.le_trans (ord_sz _) (lse_sz vs f)
/-- a variable of the simple formula is the formula's, and unknown -/
theorem vr_keeps {vs : List Int} {f : Fm} (hg : goodL vs = true) (hG : isG f = true) : ∀ q ∈ vr (rs vs f) (gre (rs vs f) + 1).toNat, 0 ≤ q ∧ q ∈ vr f (gre f + 1).toNat ∧ valL vs q = 1 := fun q hq => by
  obtain ⟨h0, h1⟩ := (vr_mem _ _ _).1 hq
  have hp := rs_pd hg f hG
  have h2 := hp.2 q ((hol_gat q _ hp.1).1 h1)
  have h3 := (hol_gat q f hG).2 h2.1
  have h4 := gre_hol q f h3
  exact ⟨h0.1, (vr_mem _ _ _).2 ⟨⟨h0.1, by omega⟩, h3⟩, h2.2⟩
/-- what Simplify answers, asked well or not -/
def SimB (G : Fm) (e0 : Int) (w : World) (r : Ending) (w' : World) : Prop :=
  ∃ (g : Fv) (go gv gn : Int) (gp : Option Addr) (kg gc : Nat), r = .returned (.tuple #[.agg #[.int .i64 go, .int .i64 gv, .int .i64 gn, .slice gp kg gc], .int .i64 e0]) ∧ Hid (g.enc.toArray = #[.int .i64 go, .int .i64 gv, .int .i64 gn, .slice gp kg gc]) ∧ Hid (Ok w' g) ∧ Hid (ct g = G) ∧ Hid (Below w.heap.size w w')
end Kl
set_option maxRecDepth 100000 in
set_option maxHeartbeats 8000000 in
theorem lawKeeps (x : Kl.Fv) (vv vw : Value) (vs us : List Int) (w : World) (hx : Kl.Ok w x) (hv : Kl.TsN w vv vs) (hw : Kl.TsN w vw us) (hn : vs.length ≤ 17592186044416) (hm : us.length ≤ 17592186044416) :
    Calls Try.prog 6 #[.agg x.enc.toArray, vv, vw] w fun r w' => r = .returned (.bool true) ∧ Below w.heap.size w w' := by
  have CG := hide' (fun w' (g : Below w.heap.size w w') => klGreat x w' (hx.below g))
  have CT := hide' (fun hs w' (g : Below w.heap.size w w') => Kl.twA (x := x) hs (hx.below g))
  have CU := hide' (fun w' (g : Below w.heap.size w w') => lawTruthsF vv vs w' (hv.below g) hn)
  have CV := hide' (fun w' (g : Below w.heap.size w w') => lawTruthsF vw us w' (hw.below g) hm)
  have CM := hide' (fun w' (g : Below w.heap.size w w') => lawMergedF vv vw vs us w' (hv.1.below g) (hw.below g) hn hm)
  have HTV := hide' hv.1
  obtain ⟨f, hf⟩ : ∃ f, Kl.ct x = f := ⟨_, rfl⟩
  simp only [hf] at CG CT
  obtain ⟨s, hS⟩ : ∃ s, Kl.sz f = s := ⟨_, rfl⟩
  obtain ⟨G, hG⟩ : ∃ G, (if Kl.okE vs f = true then Kl.rs vs f else .mk 0 0 0 []) = G := ⟨_, rfl⟩
  obtain ⟨e0, he0⟩ : ∃ e0, Kl.erO (Kl.okE vs f) = e0 := ⟨_, rfl⟩
  have HGC : Hid ((Kl.okE vs f = true ∧ G = Kl.rs vs f ∧ e0 = 0) ∨ (Kl.okE vs f = false ∧ G = .mk 0 0 0 [] ∧ e0 = 6)) := by
    cases h : Kl.okE vs f with
    | true => rw [h, if_pos rfl] at hG; rw [h] at he0; exact .inl ⟨rfl, hG.symm, he0.symm⟩
    | false => rw [h, if_neg (by simp)] at hG; rw [h] at he0; exact .inr ⟨rfl, hG.symm, he0.symm⟩
  have HSG : Hid (Kl.sz G ≤ s) := by
    show Kl.sz G ≤ s
    rcases HGC.out with ⟨h1, rfl, _⟩ | ⟨_, rfl, _⟩
    · unfold Kl.okE at h1; simp at h1; rw [← hS]; exact Kl.rs_sz' h1.2
    · have := Kl.sz_pos f; simp only [Kl.sz, Kl.szs]; omega
  have YS : Hid (∀ y w' v', Kl.Ok w' y → Kl.ct y = f → s ≤ 131072 → Kl.Ts w' v' vs → Calls Try.prog 28 #[.agg y.enc.toArray, v'] w' (Kl.SimB G e0 w')) := fun y w' v' ho hc hs hl => by
    rcases HGC.out with ⟨h1, rfl, rfl⟩ | ⟨h1, rfl, rfl⟩
    · unfold Kl.okE at h1
      simp at h1
      refine (klSimplify y v' vs w' ho hl (by rw [hc]; omega) h1.1 (by rw [hc, Kl.isF_isG f _ (by omega)]; exact h1.2)).mono fun r w2 h => ?_
      obtain ⟨g, go, gv, gn, gp, kg, gc, k1, k2, k3, k4, k5, k6⟩ := h
      exact ⟨g, go, gv, gn, gp, kg, gc, k1, by show g.enc.toArray = _; rw [k2.out], k3.ok, by show _ = _; rw [k4, hc, (Kl.lse_rs vs f h1.2).1], k6⟩
    · refine (klSimplifyBad y v' vs w' ho hl (by rw [hc]; omega) (by rw [hc]; exact h1)).mono fun r w2 h => ?_
      obtain ⟨k1, k2⟩ := h
      exact ⟨.mk 0 0 0 none 0 [], 0, 0, 0, none, 0, 0, k1, rfl, Kl.Ok.leaf _ _ _ _, by show _ = _; simp [Kl.ct, Kl.cts], k2⟩
  have YE : Hid (∀ F y w' v' ls, Kl.Ok w' y → Kl.ct y = F → Kl.sz F ≤ 131072 → Kl.Ts w' v' ls → Calls Try.prog 27 #[.agg y.enc.toArray, v'] w' fun e w2 => e = .returned (.tuple #[.int .i64 (if Kl.okE ls F then Kl.ev ls F else 0), .int .i64 (Kl.erO (Kl.okE ls F))]) ∧ Below w'.heap.size w' w2) := fun F y w' v' ls ho hc hs hl => by
    have := klEval y v' ls w' ho hl (by rw [hc]; exact hs)
    rw [hc] at this
    exact this
  have YZ : Hid (∀ F y w', Kl.Ok w' y → Kl.ct y = F → Kl.sz F ≤ 131072 → Kl.isG F = true → Calls Try.prog 23 #[.agg y.enc.toArray] w' fun e w2 => e = .returned (.tuple #[.int .i64 (Kl.sz F), .int .i64 0]) ∧ Kl.Gr w' w2) := fun F y w' ho hc hs hg => by
    have := klSizeO y w' ho (by rw [hc]; omega)
    rw [hc, Kl.isF_isG F _ (by omega), hg] at this
    exact this
  have YV : Hid (∀ F y w', Kl.Ok w' y → Kl.ct y = F → Kl.sz F ≤ 131072 → Kl.isG F = true → Calls Try.prog 22 #[.agg y.enc.toArray] w' fun r w2 => ∃ p c, r = .returned (.tuple #[.slice p (Kl.vr F (Kl.gre F + 1).toNat).length c, .int .i64 0]) ∧ Hid (Kl.Ts w2 (.slice p (Kl.vr F (Kl.gre F + 1).toNat).length c) (Kl.vr F (Kl.gre F + 1).toNat)) ∧ Hid (Below w'.heap.size w' w2)) := fun F y w' ho hc hs hg => by
    have := klVars y w' ho (by rw [hc]; exact hs)
    rw [hc] at this
    refine this.mono fun r w2 h => ?_
    obtain ⟨v, k1, k2, k3, _⟩ := h
    simp only [hg, if_true] at k1 k2
    obtain ⟨p, c, e⟩ := k2.out.form
    subst e
    exact ⟨p, c, k1, k2, k3⟩
  have HM1 : Hid (Kl.okE vs f = true → Kl.okE (Kl.mrg vs us) f = true → Kl.okE us G = true → Kl.ev us G = Kl.ev (Kl.mrg vs us) f ∧ Kl.isG f = true ∧ Kl.isG G = true ∧ Kl.Sm G ∧ ∀ q ∈ Kl.vr G (Kl.gre G + 1).toNat, 0 ≤ q ∧ q ∈ Kl.vr f (Kl.gre f + 1).toNat ∧ Kl.valL vs q = 1) := fun h1 h2 h3 => by
    obtain ⟨_, rfl, _⟩ | ⟨h, _⟩ := HGC.out
    · unfold Kl.okE at h1 h2 h3
      simp at h1 h2 h3
      exact ⟨Kl.ev_rs h1.1 h3.1 h2.1 f h1.2, h1.2, (Kl.rs_pd h1.1 f h1.2).1, Kl.rs_sm vs f h1.2, Kl.vr_keeps h1.1 h1.2⟩
    · rw [h1] at h; cases h
  simp only [hS] at CG CT
  obtain ⟨A, hA⟩ : ∃ A, Kl.mrg vs us = A := ⟨_, rfl⟩
  rw [hA] at CM HM1
  obtain ⟨pv, cv, rfl, v1, v2, _⟩ := hv.1
  obtain ⟨pw, cw, rfl, w1, w2, _⟩ := hw.1
  obtain ⟨nv, hnv⟩ : ∃ n, vs.length = n := ⟨_, rfl⟩
  obtain ⟨nw, hnw⟩ : ∃ n, us.length = n := ⟨_, rfl⟩
  obtain ⟨na, hna⟩ : ∃ n, A.length = n := ⟨_, rfl⟩
  simp only [hnv, hnw, hna] at CU CV CM HTV v1 w1 ⊢
  have HNA := hide' hna
  have HNV := hide' hnv
  obtain ⟨xo, xv, xn, xp, xc, xl⟩ := x
  obtain ⟨kx, hkx⟩ : ∃ k, xl.length = k := ⟨_, rfl⟩
  simp only [Kl.Fv.enc, hkx] at CG CT ⊢
  obtain ⟨W, hWd⟩ : ∃ W, w.alloc (.cells #[.int .i64 xo, .int .i64 xv, .int .i64 xn, .slice xp kx xc] 37) = W := ⟨_, rfl⟩
  have HBW : Hid (Below w.heap.size w W) := by rw [← hWd]; exact (Below.refl _ _).alloc (Nat.le_refl _) _
  have HUP : Hid (∀ w', Below W.heap.size W w' → Below w.heap.size w w') := fun w' h => HBW.out.trans (h.mono HBW.out.size)
  have HZ : Hid (W.heap.size = w.heap.size + 1) := by show W.heap.size = _; rw [← hWd]; simp
  have HBX : Hid (∀ w', Below W.heap.size W w' → w'.cell? ⟨w.heap.size, 0, none⟩ = some (.int .i64 xo) ∧ w'.cell? ⟨w.heap.size, 1, none⟩ = some (.int .i64 xv) ∧ w'.cell? ⟨w.heap.size, 2, none⟩ = some (.int .i64 xn) ∧ w'.cell? ⟨w.heap.size, 3, none⟩ = some (.slice xp kx xc)) := fun w' h => by
    have hw0 : w.heap.size < W.heap.size := by rw [HZ.out]; omega
    have e : ∀ o, w'.cell? ⟨w.heap.size, o, none⟩ = W.cell? ⟨w.heap.size, o, none⟩ := fun o => h.cell (p := ⟨w.heap.size, o, none⟩) hw0
    rw [e, e, e, e, ← hWd]
    refine ⟨?_, ?_, ?_, ?_⟩ <;> simp
  have HSF := hide' hS
  have HWd := hide' hWd
  clear hx hv hw hf hS hA hkx hWd hnv hnw hna hn hm hG he0
  go_enter Try.func6, Try.ntmps6
  go_wp2_with fail
  rw [HWd.out]
  refine (CG.out W HBW.out).mono ?_
  rintro r w1 ⟨rfl, hg1⟩
  have HB1 := hide' hg1.below
  clear hg1 CG
  by_cases hgr : 65536 < s
  · have d1 : decide (65536 < s) = true := decide_eq_true hgr
    rw [d1]
    clear d1 hgr CT CU CV CM YS YE YZ YV HM1 HGC HSG
    go_wp2_with fail
    refine (klFixed _).mono ?_
    rintro r w2 ⟨rfl, hb2⟩
    have HB2 := hide' (HB1.out.trans (hb2.mono HB1.out.size))
    clear hb2 HB1
    go_wp2_with fail
    go_ret
    exact ⟨rfl, HUP.out _ HB2.out⟩
  have d1 : decide (65536 < s) = false := decide_eq_false hgr
  rw [d1]
  have CT2 := hide' (CT.out (by omega))
  have YS2 := hide' (fun y w' v' ho hc => YS.out y w' v' ho hc (by omega))
  have HS1 : Hid (Kl.sz f ≤ 131072) := by show Kl.sz f ≤ _; rw [HSF.out]; omega
  have HS2 : Hid (Kl.sz G ≤ 131072) := by have := HSG.out; show Kl.sz G ≤ _; omega
  clear d1 hgr CT YS
  go_wp2_with fail
  refine (klFixed _).mono ?_
  rintro r w2 ⟨rfl, hb⟩
  have HB2 := hide' (HB1.out.trans (hb.mono HB1.out.size))
  clear hb HB1
  obtain ⟨q0, q1, q2, q3⟩ := HBX.out w2 HB2.out
  go_wp2_with fail
  refine (CT2.out _ (HUP.out _ HB2.out)).mono ?_
  rintro r w3 ⟨y, yo, yv, yn, yp, ky, yc, rfl, HY, HO, HC, HFP, hb⟩
  have HB3 := hide' (HB2.out.trans (hb.out.mono HB2.out.size))
  clear q0 q1 q2 q3 HFP hb HB2
  go_wp2_with fail
  refine (CU.out _ (HUP.out _ HB3.out)).mono ?_
  rintro r w4 ⟨p4, c4, rfl, HT, hb⟩
  have HB4 := hide' (HB3.out.trans (hb.out.mono HB3.out.size))
  have K := hide' (YS2.out y w4 _ (HO.out.below hb.out) HC.out HT.out)
  rw [HY.out] at K
  clear hb HB3 HY HO HC HT YS2 CU
  go_wp2_with fail
  refine K.out.mono ?_
  rintro r w5 ⟨g, go, gv, gn, gp, kg, gc, rfl, HGE, HGO, HGT, hb⟩
  have HB5 := hide' (HB4.out.trans (hb.out.mono HB4.out.size))
  clear hb HB4 K
  obtain ⟨q0, q1, q2, q3⟩ := HBX.out w5 HB5.out
  have hz5 : w.heap.size < w5.heap.size := by have := HB5.out.size; rw [HZ.out] at this; omega
  go_wp2_with fail
  obtain ⟨W6, hW6⟩ : ∃ W9, w5.alloc (.cells #[.int .i64 go, .int .i64 gv, .int .i64 gn, .slice gp kg gc] 37) = W9 := ⟨_, rfl⟩
  obtain ⟨BG, hBG⟩ : ∃ B9, w5.heap.size = B9 := ⟨_, rfl⟩
  have HBW6 : Hid (Below W.heap.size W W6) := by rw [← hW6]; exact HB5.out.alloc HB5.out.size _
  have HCBG : Hid (∀ w', Below W6.heap.size W6 w' → w'.cell? ⟨BG, 0, none⟩ = some (.int .i64 go) ∧ w'.cell? ⟨BG, 1, none⟩ = some (.int .i64 gv) ∧ w'.cell? ⟨BG, 2, none⟩ = some (.int .i64 gn) ∧ w'.cell? ⟨BG, 3, none⟩ = some (.slice gp kg gc)) := fun w' h => by
    have hw0 : BG < W6.heap.size := by rw [← hW6, ← hBG]; simp
    have e : ∀ o, w'.cell? ⟨BG, o, none⟩ = W6.cell? ⟨BG, o, none⟩ := fun o => h.cell (p := ⟨BG, o, none⟩) hw0
    rw [e, e, e, e, ← hW6, ← hBG]
    refine ⟨?_, ?_, ?_, ?_⟩ <;> simp
  have HLBG : Hid (BG < W6.heap.size) := by show BG < _; rw [← hW6, ← hBG]; simp
  have H56 : Hid (Below w5.heap.size w5 W6) := by rw [← hW6]; exact (Below.refl _ _).alloc (Nat.le_refl _) _
  rw [hW6, hBG]
  clear hW6 hBG
  have HGO6 := hide' (HGO.out.below H56.out)
  clear HGO H56 HB5 hz5
  refine (CT2.out _ (HUP.out _ HBW6.out)).mono ?_
  rintro r w7 ⟨y, yo, yv, yn, yp, ky, yc, rfl, HY, HO, HC, HFP, hb⟩
  have HB7 := hide' (HBW6.out.trans (hb.out.mono HBW6.out.size))
  have H67 := hide' hb.out
  clear q0 q1 q2 q3 HFP hb
  go_wp2_with fail
  refine (CM.out _ (HUP.out _ HB7.out)).mono ?_
  rintro r w8 ⟨p8, c8, rfl, HT, hb⟩
  have HB8 := hide' (HB7.out.trans (hb.out.mono HB7.out.size))
  have H68 := hide' (H67.out.trans (hb.out.mono H67.out.size))
  have K := hide' (YE.out f y w8 _ A (HO.out.below hb.out) HC.out HS1.out (Kl.owns_Ts (by rw [HNA.out]; exact HT.out)))
  rw [HY.out] at K
  obtain ⟨t0, ht0⟩ : ∃ t : Int, (if Kl.okE A f = true then Kl.ev A f else 0) = t := ⟨_, rfl⟩
  obtain ⟨h0, hh0⟩ : ∃ t : Int, Kl.erO (Kl.okE A f) = t := ⟨_, rfl⟩
  simp only [ht0, hh0] at K
  have HT0 := hide' ht0
  have HH0 := hide' hh0
  clear hb HB7 H67 HY HO HC HT ht0 hh0 CM
  go_wp2_with fail
  refine K.out.mono ?_
  rintro r w9 ⟨rfl, hb⟩
  have HB9 := hide' (HB8.out.trans (hb.mono HB8.out.size))
  have H69 := hide' (H68.out.trans (hb.mono H68.out.size))
  clear hb HB8 H68 K
  go_wp2_with fail
  have HGO9 := hide' (HGO6.out.below H69.out)
  have HSO : Hid (∀ W', Below w9.heap.size w9 W' → W'.cell? ⟨BG, 0, none⟩ = some (.int .i64 go) ∧ W'.cell? ⟨BG, 1, none⟩ = some (.int .i64 gv) ∧ W'.cell? ⟨BG, 2, none⟩ = some (.int .i64 gn) ∧ W'.cell? ⟨BG, 3, none⟩ = some (.slice gp kg gc)) := fun W' h => HCBG.out W' (H69.out.trans (h.mono H69.out.size))
  have hS0 : Below w9.heap.size w9 w9.drew := (Below.refl _ _).drew
  have CV2 := hide' (CV.out w9.drew (HUP.out _ (HB9.out.trans (hS0.mono HB9.out.size))))
  obtain ⟨u0, hu0⟩ : ∃ t : Int, (if Kl.okE us G = true then Kl.ev us G else 0) = t := ⟨_, rfl⟩
  obtain ⟨i0, hi0⟩ : ∃ t : Int, Kl.erO (Kl.okE us G) = t := ⟨_, rfl⟩
  have YEG : Hid (∀ W' v', Below w9.heap.size w9 W' → Kl.Ts W' v' us → Calls Try.prog 27 #[.agg #[.int .i64 go, .int .i64 gv, .int .i64 gn, .slice gp kg gc], v'] W' fun e w2 => e = .returned (.tuple #[.int .i64 u0, .int .i64 i0]) ∧ Below W'.heap.size W' w2) := fun W' v' hb hl => by
    have := YE.out G g W' v' us (HGO9.out.below hb) HGT.out HS2.out hl
    rw [HGE.out, hu0, hi0] at this
    exact this
  have HU0 := hide' hu0
  have HI0 := hide' hi0
  clear hu0 hi0 CV
  refine wp_region_held_drew (S := fun W' => Below w9.heap.size w9 W') (by kernel_rfl) hS0 (fun hHeld => ?_)
  simp only [List.size_toArray, List.length_cons, List.length_nil, Nat.reduceAdd]
  refine wpAnyH_take (i := 0) (v := .agg #[.int .i64 go, .int .i64 gv, .int .i64 gn, .slice gp kg gc]) rfl (by kernel_rfl) (by kernel_rfl) (by kernel_rfl) (fun _ _ _ h => h) (Or.inl ⟨by rfl, ?y0⟩) (by assumption) ?_
  case y0 => (intro w' hSw; obtain ⟨z0, z1, z2, z3⟩ := HSO.out w' hSw; go_simp)
  try simp only [List.getElem_toArray, List.getElem_cons_zero, Act.put, List.setIfInBounds_toArray, List.set_cons_zero, List.set_cons_succ]
  refine wpAnyH_take (i := 1) (v := .slice pw nw cw) rfl (by kernel_rfl) (by kernel_rfl) (by kernel_rfl) (fun _ _ _ h => h) (Or.inl ⟨by rfl, ?y1⟩) (by assumption) ?_
  case y1 => (intro w' hSw; obtain ⟨z0, z1, z2, z3⟩ := HSO.out w' hSw; go_simp)
  try simp only [List.getElem_toArray, List.getElem_cons_zero, List.getElem_cons_succ, Act.put, List.setIfInBounds_toArray, List.set_cons_zero, List.set_cons_succ]
  refine wpAnyH_ready (rs := [2]) (by kernel_rfl) (by simp) ?_
  refine AllReadyH.cons rfl (fun K hK => ?_) AllReadyH.nil
  try simp only [List.getElem_toArray, List.getElem_cons_zero, List.getElem_cons_succ]
  go_simp
  refine CV2.out.mono ?_
  rintro e W1 ⟨p10, c10, rfl, HT10, hb⟩
  have hS1 : Below w9.heap.size w9 W1 := hS0.trans (hb.out.mono hS0.size)
  have KE := hide' (YEG.out W1 _ hS1 HT10.out)
  clear hb HT10 CV2 YEG
  refine hK.out _ _ hS1 (fun hHeld9 => ?_)
  clear hK K
  try simp only [List.getElem_toArray, List.getElem_cons_zero, List.getElem_cons_succ, Act.put, List.setIfInBounds_toArray, List.set_cons_zero, List.set_cons_succ]
  refine wpAnyH_ready (rs := [3]) (by kernel_rfl) (by simp) ?_
  refine AllReadyH.cons rfl (fun K hK => ?_) AllReadyH.nil
  try simp only [List.getElem_toArray, List.getElem_cons_zero, List.getElem_cons_succ]
  go_simp
  refine KE.out.mono ?_
  rintro e w10 ⟨rfl, hb⟩
  have hS2 : Below w9.heap.size w9 w10 := hS1.trans (hb.mono hS1.size)
  clear KE hb hS1
  refine hK.out _ _ hS2 (fun hHeld9 => ?_)
  clear hK K
  try simp only [List.getElem_toArray, List.getElem_cons_zero, List.getElem_cons_succ, Act.put, List.setIfInBounds_toArray, List.set_cons_zero, List.set_cons_succ]
  refine wpAnyH_take (i := 4) (v := .tuple #[.int .i64 u0, .int .i64 i0]) rfl (by kernel_rfl) (by kernel_rfl) (by kernel_rfl) (fun _ _ _ h => h) (Or.inl ⟨by rfl, ?y4⟩) (by assumption) ?_
  case y4 => (intro w' hSw; obtain ⟨z0, z1, z2, z3⟩ := HSO.out w' hSw; go_simp)
  try simp only [List.getElem_toArray, List.getElem_cons_zero, List.getElem_cons_succ, Act.put, List.setIfInBounds_toArray, List.set_cons_zero, List.set_cons_succ]
  refine wpAnyH_take (i := 5) (v := .int .i64 u0) rfl (by kernel_rfl) (by kernel_rfl) (by kernel_rfl) (fun _ _ _ h => h) (Or.inl ⟨by rfl, ?y5⟩) (by assumption) ?_
  case y5 => (intro w' hSw; obtain ⟨z0, z1, z2, z3⟩ := HSO.out w' hSw; go_simp)
  try simp only [List.getElem_toArray, List.getElem_cons_zero, List.getElem_cons_succ, Act.put, List.setIfInBounds_toArray, List.set_cons_zero, List.set_cons_succ]
  refine wpAnyH_take (i := 6) (v := .int .i64 i0) rfl (by kernel_rfl) (by kernel_rfl) (by kernel_rfl) (fun _ _ _ h => h) (Or.inl ⟨by rfl, ?y6⟩) (by assumption) ?_
  case y6 => (intro w' hSw; obtain ⟨z0, z1, z2, z3⟩ := HSO.out w' hSw; go_simp)
  try simp only [List.getElem_toArray, List.getElem_cons_zero, List.getElem_cons_succ, Act.put, List.setIfInBounds_toArray, List.set_cons_zero, List.set_cons_succ]
  refine wpAnyH_take (i := 7) (v := .int .i64 u0) rfl (by kernel_rfl) (by kernel_rfl) (by kernel_rfl) (fun _ _ _ h => h) (Or.inl ⟨by rfl, ?y7⟩) (by assumption) ?_
  case y7 => (intro w' hSw; obtain ⟨z0, z1, z2, z3⟩ := HSO.out w' hSw; go_simp)
  try simp only [List.getElem_toArray, List.getElem_cons_zero, List.getElem_cons_succ, Act.put, List.setIfInBounds_toArray, List.set_cons_zero, List.set_cons_succ]
  refine wpAnyH_take (i := 8) (v := .int .i64 i0) rfl (by kernel_rfl) (by kernel_rfl) (by kernel_rfl) (fun _ _ _ h => h) (Or.inl ⟨by rfl, ?y8⟩) (by assumption) ?_
  case y8 => (intro w' hSw; obtain ⟨z0, z1, z2, z3⟩ := HSO.out w' hSw; go_simp)
  try simp only [List.getElem_toArray, List.getElem_cons_zero, List.getElem_cons_succ, Act.put, List.setIfInBounds_toArray, List.set_cons_zero, List.set_cons_succ]
  refine wpAnyH_done (by kernel_rfl) ?_ _
  have HB10 := hide' (HB9.out.trans (hS2.mono HB9.out.size))
  have H610 := hide' (H69.out.trans (hS2.mono H69.out.size))
  have HG10 := hide' (HGO9.out.below hS2)
  clear HSO hS0 hS2 hHeld HGO9 HGO6 HB9 H69
  rcases HGC.out with ⟨k1, hG, he⟩ | ⟨k1, hG, he⟩
  rotate_left
  · -- asked badly
    subst he
    obtain ⟨s0, s1, s2, s3⟩ := HCBG.out w10 H610.out
    have K := hide' (klSame g (.mk 0 0 0 none 0 []) w10 (by rw [HGT.out, hG]; simp [Kl.ct, Kl.cts]) HG10.out (Kl.Ok.leaf _ _ _ _))
    rw [HGE.out] at K
    simp only [Kl.Fv.enc, List.length_nil] at K
    clear k1 hG HGC HT0 HH0 HU0 HI0 HM1 CT2 YE YZ YV
    go_wp2_with fail
    refine K.out.mono ?_
    rintro e wz ⟨rfl, hg⟩
    have HBz := hide' (HB10.out.trans (hg.below.mono HB10.out.size))
    clear K hg s0 s1 s2 s3
    go_wp2_with fail
    go_ret
    exact ⟨rfl, HUP.out _ HBz.out⟩
  subst he
  by_cases k2 : Kl.okE A f = true
  rotate_left
  · have k2' : Kl.okE A f = false := by simpa using k2
    have hh2 : h0 = 6 := by rw [← HH0.out, k2']; rfl
    subst hh2
    clear k1 k2 k2' hG HGC HT0 HH0 HU0 HI0 HM1 CT2 YE YZ YV
    go_wp2_with fail
    go_ret
    exact ⟨rfl, HUP.out _ HB10.out⟩
  have hh2 : h0 = 0 := by rw [← HH0.out, k2]; rfl
  subst hh2
  by_cases k3 : Kl.okE us G = true
  rotate_left
  · have k3' : Kl.okE us G = false := by simpa using k3
    have hh3 : i0 = 6 := by rw [← HI0.out, k3']; rfl
    subst hh3
    clear k1 k2 k3 k3' hG HGC HT0 HH0 HU0 HI0 HM1 CT2 YE YZ YV
    go_wp2_with fail
    go_ret
    exact ⟨rfl, HUP.out _ HB10.out⟩
  have hh3 : i0 = 0 := by rw [← HI0.out, k3]; rfl
  subst hh3
  obtain ⟨m1, m2, m3, m4, m5⟩ := HM1.out k1 k2 k3
  have hh4 : u0 = t0 := by rw [← HT0.out, ← HU0.out, k2, k3, if_pos rfl, if_pos rfl, m1]
  subst hh4
  have HGF := hide' m2
  have HGG := hide' m3
  have HVV := hide' m5
  have HSI : Hid (Kl.ord (Kl.lse [] G) = G) := by show _ = _; rw [(Kl.lse_rs [] G m3).1]; exact Kl.sm_rs m4
  have n9 : (u0 != u0) = false := by simp
  clear k1 k2 k3 m1 m2 m3 m4 m5 hG HGC HT0 HH0 HU0 HI0 HM1
  have CTG := hide' (fun w' (hb : Below w10.heap.size w10 w') => Kl.twA (x := g) (w := w') (by rw [HGT.out]; have := HS2.out; omega) (HG10.out.below hb))
  rw [HGT.out, HGE.out] at CTG
  obtain ⟨s0, s1, s2, s3⟩ := HCBG.out w10 H610.out
  go_wp2_with fail
  refine (CTG.out w10 (Below.refl _ _)).mono ?_
  rintro r w11 ⟨y, yo, yv, yn, yp, ky, yc, rfl, HY, HO, HC, HFP, hb⟩
  have HB11 := hide' (HB10.out.trans (hb.out.mono HB10.out.size))
  have HT11 := hide' hb.out
  have K := hide' (klSimplify y (.slice none 0 0) [] w11 HO.out (Kl.Ts.none w11) (by rw [HC.out]; have := HS2.out; omega) rfl (by rw [HC.out, Kl.isF_isG G _ HS2.out]; exact HGG.out))
  rw [HY.out, HC.out, HSI.out] at K
  clear hb s0 s1 s2 s3 HY HO HC HFP HSI
  go_wp2_with fail
  refine K.out.mono ?_
  rintro r w12 ⟨a, ao, av, an, ap, kz, ac, rfl, HAE, HAA⟩
  have HB12 := hide' (HB11.out.trans (HAA.out.2.2.2.mono HB11.out.size))
  have HT12 := hide' (HT11.out.trans (HAA.out.2.2.2.mono HT11.out.size))
  clear K HB11 HT11
  obtain ⟨s0, s1, s2, s3⟩ := HCBG.out w12 (H610.out.trans (HT12.out.mono H610.out.size))
  have hz12 : BG < w12.heap.size := Nat.lt_of_lt_of_le HLBG.out (H610.out.trans (HT12.out.mono H610.out.size)).size
  go_wp2_with fail
  obtain ⟨W13, hW13⟩ : ∃ W9, w12.alloc (.cells #[.int .i64 ao, .int .i64 av, .int .i64 an, .slice ap kz ac] 37) = W9 := ⟨_, rfl⟩
  obtain ⟨BA, hBA⟩ : ∃ B9, w12.heap.size = B9 := ⟨_, rfl⟩
  have HBW13 : Hid (Below W.heap.size W W13) := by rw [← hW13]; exact HB12.out.alloc HB12.out.size _
  have HCBA : Hid (∀ w', Below W13.heap.size W13 w' → w'.cell? ⟨BA, 0, none⟩ = some (.int .i64 ao) ∧ w'.cell? ⟨BA, 1, none⟩ = some (.int .i64 av) ∧ w'.cell? ⟨BA, 2, none⟩ = some (.int .i64 an) ∧ w'.cell? ⟨BA, 3, none⟩ = some (.slice ap kz ac)) := fun w' h => by
    have hw0 : BA < W13.heap.size := by rw [← hW13, ← hBA]; simp
    have e : ∀ o, w'.cell? ⟨BA, o, none⟩ = W13.cell? ⟨BA, o, none⟩ := fun o => h.cell (p := ⟨BA, o, none⟩) hw0
    rw [e, e, e, e, ← hW13, ← hBA]
    refine ⟨?_, ?_, ?_, ?_⟩ <;> simp
  have H12A : Hid (Below w12.heap.size w12 W13) := by rw [← hW13]; exact (Below.refl _ _).alloc (Nat.le_refl _) _
  rw [hW13, hBA]
  clear hW13 hBA
  have HT13 := hide' (HT12.out.trans (H12A.out.mono HT12.out.size))
  have HA13 := hide' (HAA.out.1.ok.below H12A.out)
  have HG13 := hide' (HG10.out.below HT13.out)
  have K := hide' (klSame a g W13 (by rw [HAA.out.2.1, HGT.out]) HA13.out HG13.out)
  rw [HAE.out, HGE.out] at K
  clear H12A HT12 HB12 HAA HA13 HG13 hz12
  refine K.out.mono ?_
  rintro e w14 ⟨rfl, hg⟩
  have HB14 := hide' (HBW13.out.trans (hg.below.mono HBW13.out.size))
  have HT14 := hide' (HT13.out.trans (hg.below.mono HT13.out.size))
  clear K hg s0 s1 s2 s3 HCBA HAE HT13 HBW13
  obtain ⟨sg, hsg⟩ : ∃ k, Kl.sz G = k := ⟨_, rfl⟩
  have HSGN := hide' hsg
  have hle : sg ≤ s := by rw [← hsg]; exact HSG.out
  have hng : ¬ ((s : Int) < (sg : Int)) := by omega
  obtain ⟨R1, hR1⟩ : ∃ R, Kl.vr f (Kl.gre f + 1).toNat = R := ⟨_, rfl⟩
  obtain ⟨R2, hR2⟩ : ∃ R, Kl.vr G (Kl.gre G + 1).toNat = R := ⟨_, rfl⟩
  rw [hR1, hR2] at HVV
  have HR1 := hide' hR1
  have HR2 := hide' hR2
  clear hsg hle hR1 hR2 HSG
  obtain ⟨q0, q1, q2, q3⟩ := HBX.out w14 HB14.out
  go_wp2_with fail
  refine (CT2.out _ (HUP.out _ HB14.out)).mono ?_
  rintro r w15 ⟨y, yo, yv, yn, yp, ky, yc, rfl, HY, HO, HC, HFP, hb⟩
  have HB15 := hide' (HB14.out.trans (hb.out.mono HB14.out.size))
  have HT15 := hide' (HT14.out.trans (hb.out.mono HT14.out.size))
  have K := hide' (YZ.out f y w15 HO.out HC.out HS1.out HGF.out)
  rw [HY.out] at K
  rw [HSF.out] at K
  clear hb q0 q1 q2 q3 HY HO HC HFP HB14 HT14
  go_wp2_with fail
  refine K.out.mono ?_
  rintro r w16 ⟨rfl, hg⟩
  have HB16 := hide' (HB15.out.trans (hg.below.mono HB15.out.size))
  have HT16 := hide' (HT15.out.trans (hg.below.mono HT15.out.size))
  clear K hg HB15 HT15
  obtain ⟨q0, q1, q2, q3⟩ := HCBG.out w16 (H610.out.trans (HT16.out.mono H610.out.size))
  go_wp2_with fail
  refine (CTG.out w16 HT16.out).mono ?_
  rintro r w17 ⟨y, yo, yv, yn, yp, ky, yc, rfl, HY, HO, HC, HFP, hb⟩
  have HB17 := hide' (HB16.out.trans (hb.out.mono HB16.out.size))
  have HT17 := hide' (HT16.out.trans (hb.out.mono HT16.out.size))
  have K := hide' (YZ.out G y w17 HO.out HC.out HS2.out HGG.out)
  rw [HY.out] at K
  rw [HSGN.out] at K
  clear hb q0 q1 q2 q3 HY HO HC HFP HB16 HT16
  go_wp2_with fail
  refine K.out.mono ?_
  rintro r w18 ⟨rfl, hg⟩
  have HB18 := hide' (HB17.out.trans (hg.below.mono HB17.out.size))
  have HT18 := hide' (HT17.out.trans (hg.below.mono HT17.out.size))
  clear K hg HB17 HT17
  obtain ⟨q0, q1, q2, q3⟩ := HBX.out w18 HB18.out
  go_wp2_with fail
  refine (CT2.out _ (HUP.out _ HB18.out)).mono ?_
  rintro r w19 ⟨y, yo, yv, yn, yp, ky, yc, rfl, HY, HO, HC, HFP, hb⟩
  have HB19 := hide' (HB18.out.trans (hb.out.mono HB18.out.size))
  have HT19 := hide' (HT18.out.trans (hb.out.mono HT18.out.size))
  have K := hide' (YV.out f y w19 HO.out HC.out HS1.out HGF.out)
  rw [HY.out] at K
  rw [HR1.out] at K
  clear hb q0 q1 q2 q3 HY HO HC HFP HB18 HT18
  go_wp2_with fail
  refine K.out.mono ?_
  rintro r w20 ⟨pR1, cR1, rfl, HVR1, hb⟩
  have HB20 := hide' (HB19.out.trans (hb.out.mono HB19.out.size))
  have HT20 := hide' (HT19.out.trans (hb.out.mono HT19.out.size))
  clear K HB19 HT19
  clear hb
  obtain ⟨q0, q1, q2, q3⟩ := HCBG.out w20 (H610.out.trans (HT20.out.mono H610.out.size))
  go_wp2_with fail
  refine (CTG.out w20 HT20.out).mono ?_
  rintro r w21 ⟨y, yo, yv, yn, yp, ky, yc, rfl, HY, HO, HC, HFP, hb⟩
  have HB21 := hide' (HB20.out.trans (hb.out.mono HB20.out.size))
  have HT21 := hide' (HT20.out.trans (hb.out.mono HT20.out.size))
  have HTW := hide' hb.out
  have K := hide' (YV.out G y w21 HO.out HC.out HS2.out HGG.out)
  rw [HY.out] at K
  rw [HR2.out] at K
  clear hb q0 q1 q2 q3 HY HO HC HFP HB20 HT20
  go_wp2_with fail
  refine K.out.mono ?_
  rintro r w22 ⟨pR2, cR2, rfl, HVR2, hb⟩
  have HB22 := hide' (HB21.out.trans (hb.out.mono HB21.out.size))
  have HT22 := hide' (HT21.out.trans (hb.out.mono HT21.out.size))
  have HVR1c := hide' ((HVR1.out.below HTW.out).below hb.out)
  clear K HB21 HT21 hb HTW
  obtain ⟨n1, hn1⟩ : ∃ n, R1.length = n := ⟨_, rfl⟩
  obtain ⟨n2, hn2⟩ : ∃ n, R2.length = n := ⟨_, rfl⟩
  rw [hn1] at HVR1c
  rw [hn2] at HVR2
  simp only [hn1, hn2]
  have HN1 := hide' hn1
  have HN2 := hide' hn2
  have HTV2 := hide' (HTV.out.below (HUP.out _ HB22.out))
  clear hn1 hn2 HVR1 HTV CTG CT2 YE YZ YV HBX HCBG HBW6
  go_wp2_with fail
  go_loopw [142] (fun u wr => ∃ (i : Nat), u = .int .i64 i ∧ i ≤ n2 ∧ wr = w22) (fun u _ => n2 - (RowKit.intOf u).toNat)
  case atStart => exact ⟨0, rfl, Nat.zero_le _, rfl⟩
  case round =>
    obtain ⟨i, rfl, hi1, hwe⟩ := hrel
    subst hwe
    obtain ⟨p', c', e', ra1, ra2, ra3⟩ := HVR2.out
    rw [HN2.out] at e' ra1 ra3
    cases e'
    by_cases hlt : i < n2
    · have t1 : (i : Int) < (n2 : Int) := by omega
      obtain ⟨q, hq⟩ := Kl.some_of (l := R2) (i := i) (by rw [HN2.out]; exact hlt)
      obtain ⟨b, o, rfl, kq⟩ := ra3 (by omega)
      have c0 := kq i q hq
      obtain ⟨v1', v2', v3'⟩ := HVV.out q (List.mem_of_getElem? hq)
      have HQ1 := hide' v2'
      have HQ2 := hide' v3'
      clear kq hq ra3 v2' v3'
      go_wp2_with fail
      go_loopw [21, 148] (fun d u w2 => ∃ (j : Nat) (D : Bool), u = .int .i64 j ∧ j ≤ n1 ∧ d = .bool D ∧ Hid (D = true ↔ q ∈ R1.take j) ∧ w2 = wr) (fun _ u _ => n1 - (RowKit.intOf u).toNat)
      case atStart => exact ⟨0, false, rfl, Nat.zero_le _, rfl, by show _ ↔ _; simp, rfl⟩
      case round =>
        obtain ⟨j, D, rfl, hj, rfl, HD, hwe⟩ := hrel
        subst hwe
        obtain ⟨p2, c2, e2, rb1, rb2, rb3⟩ := HVR1c.out
        rw [HN1.out] at e2 rb1 rb3
        cases e2
        by_cases hlj : j < n1
        · have t2 : (j : Int) < (n1 : Int) := by omega
          obtain ⟨m, hm⟩ := Kl.some_of (l := R1) (i := j) (by rw [HN1.out]; exact hlj)
          obtain ⟨b2, o2, rfl, km⟩ := rb3 (by omega)
          have c1 := km j m hm
          have HTK := hide' (Kl.take_snoc hm)
          clear km hm rb3
          cases D with
          | true =>
            have HD2 : Hid (true = true ↔ q ∈ R1.take (j + 1)) := by show _ ↔ _; rw [HTK.out]; exact ⟨fun _ => List.mem_append_left _ (HD.out.1 rfl), fun _ => rfl⟩
            clear HD
            go_wp2_with fail
            go_roundw
            case rel => exact ⟨j + 1, true, by go_num, by omega, rfl, HD2, trivial⟩
            case measure => simp [RowKit.intOf]; omega
          | false =>
            by_cases hmq : m = q
            · subst hmq
              have HD2 : Hid (true = true ↔ m ∈ R1.take (j + 1)) := by show _ ↔ _; rw [HTK.out]; simp
              clear HD
              go_wp2_with fail
              go_roundw
              case rel => exact ⟨j + 1, true, by go_num, by omega, rfl, HD2, trivial⟩
              case measure => simp [RowKit.intOf]; omega
            · have b0 : (m == q) = false := by simpa using hmq
              have HD2 : Hid (false = true ↔ q ∈ R1.take (j + 1)) := by
                show _ ↔ _
                rw [HTK.out, List.mem_append, ← HD.out]
                simp
                exact fun e => hmq e.symm
              clear HD hmq
              go_wp2_with fail
              go_roundw
              case rel => exact ⟨j + 1, false, by go_num, by omega, rfl, HD2, trivial⟩
              case measure => simp [RowKit.intOf]; omega
        · have t2 : ¬ (j : Int) < (n1 : Int) := by omega
          have hD : D = true := HD.out.2 (by rw [List.take_of_length_le (by rw [HN1.out]; omega)]; exact HQ1.out)
          subst hD
          clear HD rb3
          by_cases hqv : q < nv
          · obtain ⟨m, rfl⟩ : ∃ m : Nat, q = m := ⟨q.toNat, by omega⟩
            obtain ⟨p3, c3, e3, rc1, rc2, rc3⟩ := HTV2.out
            rw [HNV.out] at e3 rc1 rc3
            cases e3
            obtain ⟨b3, o3, rfl, kv⟩ := rc3 (by omega)
            obtain ⟨z, hz⟩ := Kl.some_of (l := vs) (i := m) (by rw [HNV.out]; omega)
            have c9 := kv m z hz
            have hz1 : z = 1 := by
              have := HQ2.out
              unfold Kl.valL at this
              rw [HNV.out, if_pos hqv, Int.toNat_natCast, hz] at this
              exact this
            subst hz1
            clear kv rc3 hz HQ2
            go_wp2_with fail
            go_roundw
            case rel => exact ⟨i + 1, by go_num, by omega, trivial⟩
            case measure => simp [RowKit.intOf]; omega
          · go_wp2_with fail
            go_roundw
            case rel => exact ⟨i + 1, by go_num, by omega, trivial⟩
            case measure => simp [RowKit.intOf]; omega
    · have t1 : ¬ (i : Int) < (n2 : Int) := by omega
      clear ra3
      go_wp2_with fail
      go_ret
      exact ⟨rfl, HUP.out _ HB22.out⟩
end Go.Proofs.Ytipnhfnjoaoceaa
