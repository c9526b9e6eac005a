/-
  THE WALK over gimletlaw14.KleeneChecks.
-/
import Derived.Test.YtipnhfnjoaoceaaKlRefV
import Derived.Test.YtipnhfnjoaoceaaKlTwin
import Derived.Test.YtipnhfnjoaoceaaKlRest
import Derived.Test.YtipnhfnjoaoceaaKlFix
import Derived.BigGuard
namespace Go.Proofs.Ytipnhfnjoaoceaa
open Go.RowKit Go.Lib Go.Sort
namespace Kl
/-- what twin answers, cell by cell -/
def TwA (f : Fm) (w : World) (r : Ending) (w' : World) : Prop :=
  ∃ (y : Fv) (yo yv yn : Int) (yp : Option Addr) (ky yc : Nat), r = .returned (.agg #[.int .i64 yo, .int .i64 yv, .int .i64 yn, .slice yp ky yc]) ∧ Hid (y.enc.toArray = #[.int .i64 yo, .int .i64 yv, .int .i64 yn, .slice yp ky yc]) ∧ Hid (Ok w' y) ∧ Hid (ct y = f) ∧ Hid (∀ b ∈ fp y, w.heap.size ≤ b) ∧ Hid (Below w.heap.size w w')
theorem twA {x : Fv} {w : World} (hs : sz (ct x) ≤ 1048576) (hx : Ok w x) : Calls Try.prog 21 #[.agg x.enc.toArray] w (TwA (ct x) w) := (klTwin x w hs hx).mono fun r w' h => by
  obtain ⟨y, h1, h2, h3, h4, h5⟩ := h
  obtain ⟨yo, yv, yn, yp, yc, yl⟩ := y
  exact ⟨.mk yo yv yn yp yc yl, yo, yv, yn, yp, yl.length, yc, h1, rfl, h2, h3, h4, h5⟩
end Kl
set_option maxRecDepth 100000 in
set_option maxHeartbeats 4000000 in
theorem lawChecks (x : Kl.Fv) (w : World) (hx : Kl.Ok w x) : Calls Try.prog 4 #[.agg x.enc.toArray] w fun r w' => r = .returned (.bool true) ∧ Below w.heap.size w w' := by
  have mixed : Try.prog.follows Departure.mixedOrders = true := by kernel_rfl
  have CG := hide' (fun w' (g : Below w.heap.size w w') => klGreat x w' (hx.below g))
  have CT := hide' (fun hs w' (g : Below w.heap.size w w') => Kl.twA (x := x) hs (hx.below g))
  have CI := hide' (fun w' (g : Below w.heap.size w w') => klRefIs x w' (hx.below g))
  have CV := hide' (fun hG w' (g : Below w.heap.size w w') => klRefVars x w' (hx.below g) hG)
  have CS := hide' (fun hs w' (g : Below w.heap.size w w') => klRefSize x w' hs (hx.below g))
  obtain ⟨f, hf⟩ : ∃ f, Kl.ct x = f := ⟨_, rfl⟩
  simp only [hf] at CG CT CI CV CS
  obtain ⟨s, hS⟩ : ∃ s, Kl.sz f = s := ⟨_, rfl⟩
  have YC : Hid (∀ y w', Kl.Ok w' y → Kl.ct y = f → s ≤ 131072 → Calls Try.prog 20 #[.agg y.enc.toArray] w' fun e w2 => e = .returned (.int .i64 (Kl.erO (Kl.isG f))) ∧ Kl.Gr w' w2) := fun y w' ho hc hs => by
    have := klCheck y w' ho
    rw [hc, Kl.isF_isG f _ (by omega)] at this
    exact this
  have YV : Hid (∀ y w', Kl.Ok w' y → Kl.ct y = f → s ≤ 131072 → Calls Try.prog 22 #[.agg y.enc.toArray] w' (Kl.VarE f w')) := fun y w' ho hc hs => by
    have := klVars y w' ho (by rw [hc]; omega)
    rw [hc] at this
    exact this
  have YS : Hid (∀ y w', Kl.Ok w' y → Kl.ct y = f → s ≤ 131072 → Calls Try.prog 23 #[.agg y.enc.toArray] w' fun e w2 => e = .returned (.tuple #[.int .i64 (if Kl.isG f then s else 0), .int .i64 (Kl.erO (Kl.isG f))]) ∧ Kl.Gr w' w2) := fun y w' ho hc hs => by
    have := klSizeO y w' ho (by rw [hc]; omega)
    rw [hc, Kl.isF_isG f _ (by omega), hS] at this
    exact this
  simp only [hS] at CG CT CS
  unfold Kl.VarE at YV
  obtain ⟨t, ht⟩ : ∃ t, Kl.isG f = t := ⟨_, rfl⟩
  obtain ⟨R, hR⟩ : ∃ R, Kl.vr f (Kl.gre f + 1).toNat = R := ⟨_, rfl⟩
  simp only [ht, hR] at CI CV YC YV YS
  obtain ⟨ns, hns⟩ : ∃ n : Int, (if t = true then (s : Int) else 0) = n := ⟨_, rfl⟩
  obtain ⟨es, hes⟩ : ∃ n : Int, Kl.erO t = n := ⟨_, rfl⟩
  simp only [hns, hes] at YC YV YS
  have HNS := hide' hns
  have HES := hide' hes
  obtain ⟨xo, xv, xn, xp, xc, xl⟩ := x
  obtain ⟨kx, hkx⟩ : ∃ k, xl.length = k := ⟨_, rfl⟩
  simp only [Kl.Fv.enc, hkx] at CG CT CI CV CS ⊢
  obtain ⟨W, hWd⟩ : ∃ W, w.alloc (.cells #[.int .i64 xo, .int .i64 xv, .int .i64 xn, .slice xp kx xc] 37) = W := ⟨_, rfl⟩
  have HBW : Hid (Below w.heap.size w W) := by rw [← hWd]; exact (Below.refl _ _).alloc (Nat.le_refl _) _
  have HUP : Hid (∀ w', Below W.heap.size W w' → Below w.heap.size w w') := fun w' h => HBW.out.trans (h.mono HBW.out.size)
  have HZ : Hid (W.heap.size = w.heap.size + 1) := by show W.heap.size = _; rw [← hWd]; simp
  have HBX : Hid (∀ w', Below W.heap.size W w' → w'.cell? ⟨w.heap.size, 0, none⟩ = some (.int .i64 xo) ∧ w'.cell? ⟨w.heap.size, 1, none⟩ = some (.int .i64 xv) ∧ w'.cell? ⟨w.heap.size, 2, none⟩ = some (.int .i64 xn) ∧ w'.cell? ⟨w.heap.size, 3, none⟩ = some (.slice xp kx xc)) := fun w' h => by
    have hw0 : w.heap.size < W.heap.size := by rw [HZ.out]; omega
    have e : ∀ o, w'.cell? ⟨w.heap.size, o, none⟩ = W.cell? ⟨w.heap.size, o, none⟩ := fun o => h.cell (p := ⟨w.heap.size, o, none⟩) hw0
    rw [e, e, e, e, ← hWd]
    refine ⟨?_, ?_, ?_, ?_⟩ <;> simp
  have HWd := hide' hWd
  have HF := hide' hf
  clear hx hf hS ht hR hkx hWd hns hes
  go_enter Try.func4, Try.ntmps4
  go_wp2_with fail
  rw [HWd.out]
  refine (CG.out W HBW.out).mono ?_
  rintro r w1 ⟨rfl, hg1⟩
  have HB1 := hide' hg1.below
  clear hg1 CG
  by_cases hgr : 65536 < s
  · have d1 : decide (65536 < s) = true := decide_eq_true hgr
    rw [d1]
    clear d1 hgr CT CI CV CS YC YV YS
    go_wp2_with fail
    refine (klFixed _).mono ?_
    rintro r w2 ⟨rfl, hb2⟩
    have HB2 := hide' (HB1.out.trans (hb2.mono HB1.out.size))
    clear hb2 HB1
    go_wp2_with fail
    go_ret
    exact ⟨rfl, HUP.out _ HB2.out⟩
  · have d1 : decide (65536 < s) = false := decide_eq_false hgr
    rw [d1]
    have CT2 := hide' (CT.out (by omega))
    have CS2 := hide' (CS.out (by omega))
    have YC2 := hide' (fun y w' ho hc => YC.out y w' ho hc (by omega))
    have YV2 := hide' (fun y w' ho hc => YV.out y w' ho hc (by omega))
    have YS2 := hide' (fun y w' ho hc => YS.out y w' ho hc (by omega))
    clear d1 hgr CT CS YC YV YS
    obtain ⟨q0, q1, q2, q3⟩ := HBX.out w1 HB1.out
    go_wp2_with fail
    refine (CT2.out _ (HUP.out _ HB1.out)).mono ?_
    rintro r w2 ⟨y, yo, yv, yn, yp, ky, yc, rfl, HY, HO, HC, _, hb⟩
    have HB2 := hide' (HB1.out.trans (hb.out.mono HB1.out.size))
    have K := hide' (YC2.out y w2 HO.out HC.out)
    rw [HY.out] at K
    clear hb HB1 q0 q1 q2 q3 HY HO HC YC2
    go_wp2_with fail
    refine K.out.mono ?_
    rintro r w3 ⟨rfl, hg⟩
    have HB3 := hide' (HB2.out.trans (hg.below.mono HB2.out.size))
    clear hg HB2 K
    obtain ⟨q0, q1, q2, q3⟩ := HBX.out w3 HB3.out
    go_wp2_with fail
    refine (CT2.out _ (HUP.out _ HB3.out)).mono ?_
    rintro r w4 ⟨y, yo, yv, yn, yp, ky, yc, rfl, HY, HO, HC, _, hb⟩
    have HB4 := hide' (HB3.out.trans (hb.out.mono HB3.out.size))
    have K := hide' (YV2.out y w4 HO.out HC.out)
    rw [HY.out] at K
    clear hb HB3 q0 q1 q2 q3 HY HO HC YV2
    go_wp2_with fail
    refine K.out.mono ?_
    rintro r w5 ⟨v, rfl, HT5, hb, _⟩
    have HB5 := hide' (HB4.out.trans (hb.out.mono HB4.out.size))
    clear hb HB4 K
    obtain ⟨q0, q1, q2, q3⟩ := HBX.out w5 HB5.out
    obtain ⟨pv, cv, hv⟩ := (show ∃ p c, v = .slice p (if t then R else []).length c by obtain ⟨p, c, e, _⟩ := HT5.out; exact ⟨p, c, e⟩)
    obtain ⟨nv, hnv⟩ : ∃ n, (if t then R else []).length = n := ⟨_, rfl⟩
    rw [hnv] at hv
    subst hv
    have HNV := hide' hnv
    clear hnv
    go_wp2_with fail
    refine (CT2.out _ (HUP.out _ HB5.out)).mono ?_
    rintro r w6 ⟨y, yo, yv, yn, yp, ky, yc, rfl, HY, HO, HC, _, hb⟩
    have HB6 := hide' (HB5.out.trans (hb.out.mono HB5.out.size))
    have HT6 := hide' (HT5.out.below hb.out)
    have K := hide' (YS2.out y w6 HO.out HC.out)
    rw [HY.out] at K
    clear hb HB5 q0 q1 q2 q3 HY HO HC YS2 HT5 CT2
    go_wp2_with fail
    refine K.out.mono ?_
    rintro r w7 ⟨rfl, hg⟩
    have HB7 := hide' (HB6.out.trans (hg.below.mono HB6.out.size))
    have HT7 := hide' (HT6.out.below hg.below)
    clear hg HB6 K HT6
    go_wp2_with fail
    refine (klFixed _).mono ?_
    rintro r w8 ⟨rfl, hb⟩
    have HB8 := hide' (HB7.out.trans (hb.mono HB7.out.size))
    have HT8 := hide' (HT7.out.below hb)
    clear hb HB7 HT7
    obtain ⟨q0, q1, q2, q3⟩ := HBX.out w8 HB8.out
    go_wp2_with fail
    refine (CI.out _ (HUP.out _ HB8.out)).mono ?_
    rintro r w9 ⟨rfl, hg⟩
    have HB9 := hide' (HB8.out.trans (hg.below.mono HB8.out.size))
    have HT9 := hide' (HT8.out.below hg.below)
    clear hg HB8 HT8 CI q0 q1 q2 q3
    cases t with
    | false =>
      have hn0 : nv = 0 := HNV.out.symm
      have hn1 : ns = 0 := HNS.out.symm
      have hn2 : es = 6 := HES.out.symm
      subst hn0 hn1 hn2
      clear CV CS2 HT9 HNV HNS HES
      go_wp2_with fail
      go_ret
      exact ⟨rfl, HUP.out _ HB9.out⟩
    | true =>
      simp only [if_true] at HNV HT9
      have CV2 := hide' (CV.out rfl)
      obtain ⟨q0, q1, q2, q3⟩ := HBX.out w9 HB9.out
      have hn1 : ns = s := HNS.out.symm
      have hn2 : es = 0 := HES.out.symm
      subst hn1 hn2
      clear CV HNS HES
      go_wp2_with fail
      refine (CV2.out _ (HUP.out _ HB9.out)).mono ?_
      rintro r w10 ⟨v2, rfl, HU, hb⟩
      obtain ⟨pu, cu, hv⟩ := (show ∃ p c, v2 = .slice p R.length c by obtain ⟨p, c, e, _⟩ := HU.out; exact ⟨p, c, e⟩)
      rw [HNV.out] at hv
      subst hv
      have HB10 := hide' (HB9.out.trans (hb.out.mono HB9.out.size))
      have HT10 := hide' (HT9.out.below hb.out)
      clear hb HB9 HT9 CV2 q0 q1 q2 q3
      obtain ⟨q0, q1, q2, q3⟩ := HBX.out w10 HB10.out
      go_wp2_with (go_at_call 26; refine (CS2.out _ (HUP.out _ HB10.out)).mono ?_; rintro r w11 ⟨rfl, hg⟩)
      have HB11 := hide' (HB10.out.trans (hg.below.mono HB10.out.size))
      have HT11 := hide' (HT10.out.below hg.below)
      have HU11 := hide' (HU.out.below hg.below)
      clear hg HB10 HT10 HU CS2 q0 q1 q2 q3
      obtain ⟨pv', cv', e1, v1, v2, v3⟩ := HT11.out
      obtain ⟨pu', cu', e2, u1, u2, u3⟩ := HU11.out
      rw [HNV.out] at e1 v1 v3 e2 u1 u3
      cases e1
      cases e2
      have V3 := hide' v3
      have U3 := hide' u3
      clear v3 u3 HT11 HU11
      go_loopw [73] (fun z wr => ∃ i : Nat, z = .int .i64 i ∧ i ≤ nv ∧ Hid (Kl.Gr w11 wr)) (fun z _ => nv - (RowKit.intOf z).toNat)
      case atStart => exact ⟨0, rfl, Nat.zero_le _, Kl.Gr.refl _⟩
      case round =>
        obtain ⟨i, rfl, hi1, HG⟩ := hrel
        by_cases hlt : i < nv
        · have t1 : (i : Int) < (nv : Int) := by omega
          obtain ⟨b, o, rfl, k⟩ := V3.out (by omega)
          obtain ⟨b', o', rfl, k'⟩ := U3.out (by omega)
          obtain ⟨z, hz⟩ := Kl.some_of (l := R) (i := i) (by rw [HNV.out]; exact hlt)
          have c0 := fun q os => cell_grown (block_lt_of_cell (HG.out.cell (k i z hz))) (HG.out.cell (k i z hz)) q os
          have c1 := fun q os => cell_grown (block_lt_of_cell (HG.out.cell (k' i z hz))) (HG.out.cell (k' i z hz)) q os
          clear k k' hz V3 U3
          go_wp2_with fail
          go_quiet_grown (fail)
          have HG2 : Hid (Kl.Gr w11 (grow (wr.drewN nq) osq)) := HG.out.trans ⟨nq, osq, rfl⟩
          clear c0 c1
          go_wp2_with fail
          go_roundw
          case rel => exact ⟨i + 1, by go_num, by omega, HG2⟩
          case measure => simp [RowKit.intOf]; omega
        · have t1 : ¬ (i : Int) < (nv : Int) := by omega
          clear V3 U3
          go_wp2_with fail
          go_ret
          exact ⟨rfl, HUP.out _ (HB11.out.trans (HG.out.below.mono HB11.out.size))⟩
end Go.Proofs.Ytipnhfnjoaoceaa
