/-
  THE WALK over gimletlaw14.KleeneGrows (gen_grw.py).
-/
import Derived.Test.YtdmimkljokjfdaaKlGrwM
import Derived.BigGuard
namespace Go.Proofs.Ytdmimkljokjfdaa
open Go.RowKit Go.Lib Go.Sort
namespace Kl
/-- a row to be read lies apart from a row of one's own -/
def Apt (pr : Option Addr) (nr : Nat) (a : Value) (w : World) : Prop := ∀ b o, pr = some ⟨b, o, none⟩ → 0 < nr → a.ownBlock ≠ some b ∧ b < w.heap.size
theorem Ts.grownBy {w w' : World} {pr : Option Addr} {nr cr : Nat} {R : List Int} {a : Value} (h : Ts w (.slice pr nr cr) R) (ha : Apt pr nr a w) (hg : w.grownBy w' a.ownBlock) : Ts w' (.slice pr nr cr) R := by
  obtain ⟨p, c, e, h1, h2, h3⟩ := h
  cases e
  refine ⟨_, _, rfl, h1, h2, fun h0 => ?_⟩
  obtain ⟨b, o, rfl, k⟩ := h3 h0
  refine ⟨b, o, rfl, fun i x hx => ?_⟩
  obtain ⟨n1, n2⟩ := ha b o rfl h0
  rw [World.cell?_of_block (hg.block b n2 fun e => n1 e.symm)]
  exact k i x hx
theorem Apt.grown {w w' : World} {pr : Option Addr} {nr : Nat} {a a' : Value} (ha : Apt pr nr a w) (hg : w.grownBy w' a.ownBlock) (hat : a'.ownBlock = a.ownBlock ∨ a'.ownBlock = some w.heap.size) : Apt pr nr a' w' := fun b o e h0 => by
  obtain ⟨n1, n2⟩ := ha b o e h0
  refine ⟨fun c => ?_, Nat.lt_of_lt_of_le n2 hg.size⟩
  rcases hat with h | h
  · exact n1 (h ▸ c)
  · rw [h] at c; cases c; omega
theorem Apt.alloc {w : World} {pr : Option Addr} {nr : Nat} {a : Value} (ha : Apt pr nr a w) (o : Obj) : Apt pr nr a (w.alloc o) := fun b o' e h0 => ⟨(ha b o' e h0).1, by have := (ha b o' e h0).2; simp; omega⟩
end Kl
set_option maxRecDepth 100000 in
set_option maxHeartbeats 8000000 in
theorem lawGrows (x : Kl.Fv) (vv vw : Value) (vs us : List Int) (w : World) (hx : Kl.Ok w x) (hv : Kl.TsN w vv vs) (hw : Kl.TsN w vw us) (hn : vs.length ≤ 17592186044416) (hm : us.length ≤ 17592186044416) :
    Calls Try.prog 7 #[.agg x.enc.toArray, vv, vw] w fun r w' => r = .returned (.bool true) ∧ Below w.heap.size w w' := by
  obtain ⟨i0, hi, hz0, hz1, hz2⟩ := info_parts Kl.trInfo
  have CG := hide' (fun w' (g : Below w.heap.size w w') => klGreat x w' (hx.below g))
  have CT := hide' (fun hs w' (g : Below w.heap.size w w') => Kl.twA (x := x) hs (hx.below g))
  have CU := hide' (fun w' (g : Below w.heap.size w w') => lawTruthsF vv vs w' (hv.below g) hn)
  have CM := hide' (fun w' (g : Below w.heap.size w w') => lawMergedF vv vw vs us w' (hv.1.below g) (hw.below g) hn hm)
  obtain ⟨f, hf⟩ : ∃ f, Kl.ct x = f := ⟨_, rfl⟩
  simp only [hf] at CG CT
  obtain ⟨s, hS⟩ : ∃ s, Kl.sz f = s := ⟨_, rfl⟩
  have YE : Hid (∀ y w' v' ls, Kl.Ok w' y → Kl.ct y = f → s ≤ 131072 → Kl.Ts w' v' ls → Calls Try.prog 27 #[.agg y.enc.toArray, v'] w' fun e w2 => e = .returned (.tuple #[.int .i64 (if Kl.okE ls f then Kl.ev ls f else 0), .int .i64 (Kl.erO (Kl.okE ls f))]) ∧ Below w'.heap.size w' w2) := fun y w' v' ls ho hc hs hl => by
    have := klEval y v' ls w' ho hl (by rw [hc]; omega)
    rw [hc] at this
    exact this
  have YV : Hid (∀ y w', Kl.Ok w' y → Kl.ct y = f → s ≤ 131072 → Calls Try.prog 22 #[.agg y.enc.toArray] w' (Kl.VarE f w')) := fun y w' ho hc hs => by
    have := klVars y w' ho (by rw [hc]; omega)
    rw [hc] at this
    exact this
  have YS : Hid (∀ y w' v' ls, Kl.Ok w' y → Kl.ct y = f → s ≤ 131072 → Kl.Ts w' v' ls → Kl.goodL ls = true → Kl.isG f = true → Calls Try.prog 28 #[.agg y.enc.toArray, v'] w' fun r w2 => Kl.SimE w' (Kl.ord (Kl.lse ls f)) r w2) := fun y w' v' ls ho hc hs hl hg hG => by
    have := klSimplify y v' ls w' ho hl (by rw [hc]; omega) hg (by rw [hc, Kl.isF_isG f _ (by omega)]; exact hG)
    rw [hc] at this
    exact this
  simp only [hS] at CG CT
  obtain ⟨A, hA⟩ : ∃ A, Kl.mrg vs us = A := ⟨_, rfl⟩
  have HAL : Hid (A.length ≤ 17592186044416) := by show A.length ≤ _; rw [← hA, Kl.mrg_len]; omega
  have HMN : Hid (Kl.okE vs f = true → Kl.okE A f = true → Kl.ev vs f ≠ 1 → Kl.ev A f = Kl.ev vs f) := fun h1 h2 h3 => by
    unfold Kl.okE at h1 h2
    simp at h1 h2
    rw [← hA] at h2 ⊢
    exact Kl.ev_mono h1.1 h2.1 (Kl.kn_mrg vs us) f h1.2 h3
  have HMF : Hid (∀ k, Kl.okE vs f = true → Kl.okE A f = true → Kl.ev vs f ≠ 1 → Kl.ev (Kl.fil (A ++ List.replicate k 0)) f = Kl.ev vs f) := fun k h1 h2 h3 => by
    unfold Kl.okE at h1 h2
    simp at h1 h2
    rw [← hA] at h2 ⊢
    exact Kl.ev_mono h1.1 (Kl.fil_good (Kl.good_app h2.1 k)) (Kl.kn_fil vs us k) f h1.2 h3
  have HOA : Hid (∀ k, Kl.okE A f = true → (∀ q ∈ Kl.vr f (Kl.gre f + 1).toNat, q < (A ++ List.replicate k 0).length) → Kl.goodL (Kl.fil (A ++ List.replicate k 0)) = true ∧ Kl.isG f = true ∧ Kl.ord (Kl.lse (Kl.fil (A ++ List.replicate k 0)) f) = Kl.cons (Kl.ev (Kl.fil (A ++ List.replicate k 0)) f)) := fun k h2 h3 => by
    unfold Kl.okE at h2
    simp at h2
    rw [← hA] at h2 h3 ⊢
    exact ⟨Kl.fil_good (Kl.good_app h2.1 k), h2.2, Kl.ord_all h2.2 h2.1 h3⟩
  have HGG : Hid (Kl.okE A f = true → Kl.isG f = true) := fun h => by unfold Kl.okE at h; simp at h; exact h.2
  rw [hA] at CM
  unfold Kl.VarE at YV
  obtain ⟨R, hR⟩ : ∃ R, Kl.vr f (Kl.gre f + 1).toNat = R := ⟨_, rfl⟩
  simp only [hR] at YV HOA
  have HRR : Hid (∀ q ∈ R, 0 ≤ q) := fun q hq => by rw [← hR, Kl.vr_mem] at hq; exact hq.1.1
  obtain ⟨pv, cv, rfl, v1, v2, _⟩ := hv.1
  obtain ⟨pw, cw, rfl, w1, w2, _⟩ := hw.1
  obtain ⟨nv, hnv⟩ : ∃ n, vs.length = n := ⟨_, rfl⟩
  obtain ⟨nw, hnw⟩ : ∃ n, us.length = n := ⟨_, rfl⟩
  obtain ⟨na, hna⟩ : ∃ n, A.length = n := ⟨_, rfl⟩
  simp only [hnv, hnw, hna] at CU CM HAL v1 w1 ⊢
  have HNA := hide' hna
  obtain ⟨xo, xv, xn, xp, xc, xl⟩ := x
  obtain ⟨kx, hkx⟩ : ∃ k, xl.length = k := ⟨_, rfl⟩
  simp only [Kl.Fv.enc, hkx] at CG CT ⊢
  obtain ⟨W, hWd⟩ : ∃ W, w.alloc (.cells #[.int .i64 xo, .int .i64 xv, .int .i64 xn, .slice xp kx xc] 37) = W := ⟨_, rfl⟩
  have HBW : Hid (Below w.heap.size w W) := by rw [← hWd]; exact (Below.refl _ _).alloc (Nat.le_refl _) _
  have HUP : Hid (∀ w', Below W.heap.size W w' → Below w.heap.size w w') := fun w' h => HBW.out.trans (h.mono HBW.out.size)
  have HZ : Hid (W.heap.size = w.heap.size + 1) := by show W.heap.size = _; rw [← hWd]; simp
  have HBX : Hid (∀ w', Below W.heap.size W w' → w'.cell? ⟨w.heap.size, 0, none⟩ = some (.int .i64 xo) ∧ w'.cell? ⟨w.heap.size, 1, none⟩ = some (.int .i64 xv) ∧ w'.cell? ⟨w.heap.size, 2, none⟩ = some (.int .i64 xn) ∧ w'.cell? ⟨w.heap.size, 3, none⟩ = some (.slice xp kx xc)) := fun w' h => by
    have hw0 : w.heap.size < W.heap.size := by rw [HZ.out]; omega
    have e : ∀ o, w'.cell? ⟨w.heap.size, o, none⟩ = W.cell? ⟨w.heap.size, o, none⟩ := fun o => h.cell (p := ⟨w.heap.size, o, none⟩) hw0
    rw [e, e, e, e, ← hWd]
    refine ⟨?_, ?_, ?_, ?_⟩ <;> simp
  have HWd := hide' hWd
  clear hx hv hw hf hS hA hR hkx hWd hnv hnw hna hn hm
  go_enter Try.func7, Try.ntmps7
  go_wp2_with fail
  rw [HWd.out]
  refine (CG.out W HBW.out).mono ?_
  rintro r w1 ⟨rfl, hg1⟩
  have HB1 := hide' hg1.below
  clear hg1 CG
  by_cases hgr : 65536 < s
  · have d1 : decide (65536 < s) = true := decide_eq_true hgr
    rw [d1]
    clear d1 hgr CT CU CM YE YV YS HMN HMF HOA HGG HRR
    go_wp2_with fail
    refine (klFixed _).mono ?_
    rintro r w2 ⟨rfl, hb2⟩
    have HB2 := hide' (HB1.out.trans (hb2.mono HB1.out.size))
    clear hb2 HB1
    go_wp2_with fail
    go_ret
    exact ⟨rfl, HUP.out _ HB2.out⟩
  · have d1 : decide (65536 < s) = false := decide_eq_false hgr
    rw [d1]
    have CT2 := hide' (CT.out (by omega))
    have YE2 := hide' (fun y w' v' ls ho hc => YE.out y w' v' ls ho hc (by omega))
    have YV2 := hide' (fun y w' ho hc => YV.out y w' ho hc (by omega))
    have YS2 := hide' (fun y w' v' ls ho hc => YS.out y w' v' ls ho hc (by omega))
    clear d1 hgr CT YE YV YS
    go_wp2_with fail
    refine (klFixed _).mono ?_
    rintro r w2 ⟨rfl, hb⟩
    have HB2 := hide' (HB1.out.trans (hb.mono HB1.out.size))
    clear hb HB1
    obtain ⟨q0, q1, q2, q3⟩ := HBX.out w2 HB2.out
    go_wp2_with fail
    refine (CT2.out _ (HUP.out _ HB2.out)).mono ?_
    rintro r w3 ⟨y, yo, yv, yn, yp, ky, yc, rfl, HY, HO, HC, HFP, hb⟩
    have HB3 := hide' (HB2.out.trans (hb.out.mono HB2.out.size))
    clear q0 q1 q2 q3 HFP
    clear hb HB2
    go_wp2_with fail
    refine (CU.out _ (HUP.out _ HB3.out)).mono ?_
    rintro r w4 ⟨p4, c4, rfl, HT, hb⟩
    have HB4 := hide' (HB3.out.trans (hb.out.mono HB3.out.size))
    have K := hide' (YE2.out y w4 _ _ (HO.out.below hb.out) HC.out HT.out)
    rw [HY.out] at K
    obtain ⟨t0, ht0⟩ : ∃ t : Int, (if Kl.okE vs f = true then Kl.ev vs f else 0) = t := ⟨_, rfl⟩
    obtain ⟨e0, he0⟩ : ∃ t : Int, Kl.erO (Kl.okE vs f) = t := ⟨_, rfl⟩
    simp only [ht0, he0] at K
    have HT0 := hide' ht0
    have HE0 := hide' he0
    clear hb HB3 HY HO HC HT ht0 he0
    go_wp2_with fail
    refine K.out.mono ?_
    rintro r w5 ⟨rfl, hb⟩
    have HB5 := hide' (HB4.out.trans (hb.mono HB4.out.size))
    clear hb HB4 K
    obtain ⟨q0, q1, q2, q3⟩ := HBX.out w5 HB5.out
    go_wp2_with fail
    refine (CT2.out _ (HUP.out _ HB5.out)).mono ?_
    rintro r w6 ⟨y, yo, yv, yn, yp, ky, yc, rfl, HY, HO, HC, HFP, hb⟩
    have HB6 := hide' (HB5.out.trans (hb.out.mono HB5.out.size))
    clear q0 q1 q2 q3 HFP
    clear hb HB5
    go_wp2_with fail
    refine (CM.out _ (HUP.out _ HB6.out)).mono ?_
    rintro r w7 ⟨p7, c7, rfl, HT, hb⟩
    have HB7 := hide' (HB6.out.trans (hb.out.mono HB6.out.size))
    have K := hide' (YE2.out y w7 _ _ (HO.out.below hb.out) HC.out (Kl.owns_Ts (by rw [HNA.out]; exact HT.out)))
    rw [HY.out] at K
    obtain ⟨u0, hu0⟩ : ∃ t : Int, (if Kl.okE A f = true then Kl.ev A f else 0) = t := ⟨_, rfl⟩
    obtain ⟨g0, hg0⟩ : ∃ t : Int, Kl.erO (Kl.okE A f) = t := ⟨_, rfl⟩
    simp only [hu0, hg0] at K
    have HU0 := hide' hu0
    have HG0 := hide' hg0
    clear hb HB6 HY HO HC HT hu0 hg0
    go_wp2_with fail
    refine K.out.mono ?_
    rintro r w8 ⟨rfl, hb⟩
    have HB8 := hide' (HB7.out.trans (hb.mono HB7.out.size))
    clear hb HB7 K
    by_cases k1 : Kl.okE vs f = true
    rotate_left
    · have k1' : Kl.okE vs f = false := by simpa using k1
      have hh1 : t0 = 0 := by rw [← HT0.out, k1']; rfl
      have hh2 : e0 = 6 := by rw [← HE0.out, k1']; rfl
      subst hh1 hh2
      clear k1 k1' HT0 HE0 HU0 HG0 HMN HMF HOA HGG HRR CT2 YE2 YV2 YS2 CU CM
      go_wp2_with fail
      go_ret
      exact ⟨rfl, HUP.out _ HB8.out⟩
    by_cases k2 : Kl.okE A f = true
    rotate_left
    · have k2' : Kl.okE A f = false := by simpa using k2
      have hh1 : u0 = 0 := by rw [← HU0.out, k2']; rfl
      have hh2 : g0 = 6 := by rw [← HG0.out, k2']; rfl
      have hh3 : e0 = 0 := by rw [← HE0.out, k1]; rfl
      subst hh1 hh2 hh3
      clear k1 k2 k2' HT0 HE0 HU0 HG0 HMN HMF HOA HGG HRR CT2 YE2 YV2 YS2 CU CM
      go_wp2_with fail
      go_ret
      exact ⟨rfl, HUP.out _ HB8.out⟩
    have hh1 : Kl.ev A f = u0 := by rw [← HU0.out, k2]; rfl
    have hh2 : g0 = 0 := by rw [← HG0.out, k2]; rfl
    have hh3 : e0 = 0 := by rw [← HE0.out, k1]; rfl
    have hh4 : Kl.ev vs f = t0 := by rw [← HT0.out, k1]; rfl
    have HM1 : Hid (t0 ≠ 1 → u0 = t0) := fun h => by rw [← hh1, HMN.out k1 k2 (by rw [hh4]; exact h), hh4]
    have HM2 : Hid (∀ k, t0 ≠ 1 → Kl.ev (Kl.fil (A ++ List.replicate k 0)) f = t0) := fun k h => by rw [HMF.out k k1 k2 (by rw [hh4]; exact h), hh4]
    have HOA2 := hide' (fun k => HOA.out k k2)
    have HG2 := hide' (HGG.out k2)
    subst hh2 hh3
    clear k1 k2 hh1 hh4 HT0 HE0 HU0 HG0 HMN HMF HOA HGG
    have HT1 : Hid ((t0 = 1 ∧ ((t0 != 1) = false)) ∨ (t0 ≠ 1 ∧ u0 = t0)) := by
      by_cases c : t0 = 1
      · exact .inl ⟨c, by simp [c]⟩
      · exact .inr ⟨c, HM1.out c⟩
    have HTT : Hid (t0 = 1 ∨ t0 ≠ 1) := Decidable.em _
    rcases HT1.out with ⟨_, n1⟩ | ⟨n1, n2⟩
    rotate_left
    · have n3 : (t0 != 1) = true := by simpa using n1
      have n4 : (u0 != t0) = false := by simp [n2]
      clear n1 n2 HM1 HT1
      go_wp2_with fail
      refine (CM.out _ (HUP.out _ HB8.out)).mono ?_
      rintro r w9 ⟨p9, c9, rfl, HA9, hb⟩
      have HB9 := hide' (HB8.out.trans (hb.out.mono HB8.out.size))
      have HWB := hide' HB8.out.size
      have HBZ := hide' hb.out.size
      obtain ⟨B, hB⟩ : ∃ B, w8.heap.size = B := ⟨_, rfl⟩
      rw [hB] at HA9 HWB HBZ
      clear hb HB8 hB CM
      obtain ⟨q0, q1, q2, q3⟩ := HBX.out w9 HB9.out
      go_wp2_with fail
      refine (CT2.out _ (HUP.out _ HB9.out)).mono ?_
      rintro r w10 ⟨y, yo, yv, yn, yp, ky, yc, rfl, HY, HO, HC, HFP, hb⟩
      have HB10 := hide' (HB9.out.trans (hb.out.mono HB9.out.size))
      clear q0 q1 q2 q3 HFP
      have HA10 := hide' (Kl.owns_bel HA9.out hb.out)
      have HBZ10 := hide' (Nat.le_trans HBZ.out hb.out.size)
      have K := hide' (YV2.out y w10 HO.out HC.out)
      rw [HY.out] at K
      simp only [HG2.out, Kl.erO, if_true] at K
      clear hb HB9 HY HO HC YV2 HA9 HBZ
      go_wp2_with fail
      refine K.out.mono ?_
      rintro r w11 ⟨v, rfl, HT11, hb, HFR⟩
      have HB11 := hide' (HB10.out.trans (hb.out.mono HB10.out.size))
      have HA11 := hide' (Kl.owns_bel HA10.out hb.out)
      have HBZ11 := hide' (Nat.le_trans HBZ10.out hb.out.size)
      obtain ⟨pr, cr, hv⟩ := (show ∃ p c, v = .slice p R.length c by obtain ⟨p, c, e, _⟩ := HT11.out; exact ⟨p, c, e⟩)
      obtain ⟨nr, hnr⟩ : ∃ n, R.length = n := ⟨_, rfl⟩
      rw [hnr] at hv
      subst hv
      have HNR := hide' hnr
      have HAP : Hid (Kl.Apt pr nr (.slice p9 na c9) w11) := fun b o e h0 => by
        have h1 := HFR.out b o nr cr (by rw [e]) h0
        refine ⟨fun c => ?_, ?_⟩
        · have := (HA10.out.lt b c).2
          omega
        · obtain ⟨p, c, e', _, _, h3⟩ := HT11.out
          cases e'
          obtain ⟨b', o', e2, k⟩ := h3 h0
          rw [e] at e2
          cases e2
          obtain ⟨z, hz⟩ := Kl.some_of (l := R) (i := 0) h0
          exact block_lt_of_cell (k 0 z hz)
      clear hnr hb HB10 HA10 HBZ10 K HFR
      go_wp2_with fail
      go_loopw [11, 78] (fun a u wr => ∃ (i k : Nat), u = .int .i64 i ∧ i ≤ nr ∧ Hid (wr.ownsRow B 23 1 a (na + k) (Kl.ic (A ++ List.replicate k 0))) ∧ Hid (k = 0 ∨ na + k ≤ 2001) ∧ Hid (∀ j q, j < i → R[j]? = some q → q < ((na + k : Nat) : Int)) ∧ Hid (Below W.heap.size W wr) ∧ Hid (B ≤ wr.heap.size) ∧ Hid (Kl.Ts wr (.slice pr nr cr) R) ∧ Hid (Kl.Apt pr nr a wr)) (fun _ u _ => nr - (RowKit.intOf u).toNat)
      case atStart => exact ⟨0, 0, rfl, Nat.zero_le _, by show w11.ownsRow _ _ _ _ _ _; simpa using HA11.out, .inl rfl, (fun j q h => by omega), HB11, HBZ11, HT11, HAP⟩
      case round =>
        clear HA11 HB11 HBZ11 HT11 HAP
        obtain ⟨i, k, rfl, hi1, HA, HK, HQ, HB, HBZ, HT, HAP⟩ := hrel
        obtain ⟨pa, ca, hf, fa1, fa2⟩ := Kl.owns_sl HA.out
        subst hf
        by_cases hlt : i < nr
        · have t1 : (i : Int) < (nr : Int) := by omega
          obtain ⟨q, hq⟩ := Kl.some_of (l := R) (i := i) (by rw [HNR.out]; exact hlt)
          have hq0 : 0 ≤ q := HRR.out q (List.mem_of_getElem? hq)
          obtain ⟨p', c', e', r1, r2, r3⟩ := HT.out
          rw [HNR.out] at e' r1 r3
          cases e'
          obtain ⟨b, o, hpr, kx⟩ := r3 (by omega)
          subst hpr
          have c0 := kx i q hq
          have HQQ := hide' hq
          clear kx r3 hq
          by_cases hbig : 2000 < q
          · clear HQ HK HA
            go_wp2_with fail
            go_ret
            exact ⟨rfl, HUP.out _ HB.out⟩
          · go_wp2_with fail
            clear c0
            go_loopw [11] (fun a wr => ∃ k' : Nat, Hid (k ≤ k') ∧ Hid (wr.ownsRow B 23 1 a (na + k') (Kl.ic (A ++ List.replicate k' 0))) ∧ Hid (k' = 0 ∨ na + k' ≤ 2001) ∧ Hid (Below W.heap.size W wr) ∧ Hid (B ≤ wr.heap.size) ∧ Hid (Kl.Ts wr (.slice (some ⟨b, o, none⟩) nr cr) R) ∧ Hid (Kl.Apt (some ⟨b, o, none⟩) nr a wr)) (fun a _ => q.toNat + 1 - Kl.slen a)
            case atStart => exact ⟨k, Nat.le_refl _, HA, HK, HB, HBZ, HT, HAP⟩
            case round =>
              clear HA HK HB HBZ HT HAP fa1
              obtain ⟨k', HKK, HA, HK, HB, HBZ, HT, HAP⟩ := hrel
              obtain ⟨pb, cb, hf, fb1, fb2⟩ := Kl.owns_sl HA.out
              subst hf
              obtain ⟨m, hm'⟩ : ∃ m, na + k' = m := ⟨_, rfl⟩
              have HM := hide' hm'
              by_cases hle : (m : Int) ≤ q
              · rw [hm'] at HA fb1 ⊢
                rw [hm'] at HAP
                have hbz := HBZ.out
                clear hm'
                go_wp2_with (at_builtin; refine wpList_append_own_at _ rfl _ _ 22 rfl B 23 i0 (.int .i64 0) 1 8 Try.underlying22 hi hz0 hz1 hz2 rfl (by decide) _ _ _ rfl (HA.out.alloc _) ⟨wr.heap.size, 0, none⟩ 1 1 [.int .i64 0] rfl rfl ?d1 ?d2 ?d3 ?d4 ?d5 ?_)
                case d1 => exact Kl.new_one wr 0 _
                case d2 => intro u hu; simp at hu; subst hu; rfl
                case d3 => unfold maxLen; omega
                case d4 => omega
                case d5 => simp; omega
                intro v' w3 hown' hg3 _ hat
                have hWz : W.heap.size ≤ wr.heap.size := HB.out.size
                have HB3 : Hid (Below W.heap.size W w3) := (HB.out.alloc hWz (.cells #[.int .i64 0] 23)).grown hg3 (by simp; omega) (fun j hj => Nat.le_trans HWB.out (HA.out.lt j hj).1)
                have HA3 : Hid (w3.ownsRow B 23 1 v' (na + (k' + 1)) (Kl.ic (A ++ List.replicate (k' + 1) 0))) := by
                  have e1 : na + (k' + 1) = m + 1 := by have := HM.out; omega
                  rw [e1, List.replicate_succ', ← List.append_assoc, Kl.ic_app]
                  exact hown'
                have HT3 := hide' ((HT.out.below ((Below.refl _ _).alloc (Nat.le_refl _) (.cells #[.int .i64 0] 23))).grownBy (HAP.out.alloc _) hg3)
                have HAP3 : Hid (Kl.Apt (some ⟨b, o, none⟩) nr v' w3) := (HAP.out.alloc (.cells #[.int .i64 0] 23)).grown hg3 (by simpa using hat)
                have HBZ3 : Hid (B ≤ w3.heap.size) := by have := hg3.size; simp at this; show B ≤ _; omega
                obtain ⟨p3, c3, hf3, _⟩ := Kl.owns_sl HA3.out
                subst hf3
                clear hown' hg3 hat HA HAP HT HB
                go_wp2_with fail
                go_roundw
                case rel => exact ⟨k' + 1, Nat.le_trans HKK.out (Nat.le_succ _), HA3, .inr (by have := HM.out; omega), HB3, HBZ3, HT3, HAP3⟩
                case measure => have := HM.out; simp [Kl.slen]; omega
              · go_wp2_with fail
                go_roundw
                case rel => exact ⟨i + 1, k', by go_num, by omega, HA, HK, fun j z hj hz => by
                  by_cases c : j = i
                  · subst c
                    rw [HQQ.out] at hz
                    cases hz
                    have := HM.out
                    omega
                  · have := HQ.out j z (by omega) hz
                    have := HKK.out
                    omega, HB, HBZ, HT, HAP⟩
                case measure => simp [RowKit.intOf]; omega
        · have t1 : ¬ (i : Int) < (nr : Int) := by omega
          have HOA3 := hide' (HOA2.out k (fun q hq => by
            obtain ⟨j, hj⟩ := List.getElem?_of_mem hq
            have hjl := (List.getElem?_eq_some_iff.1 hj).1
            have h1 := HQ.out j q (by rw [HNR.out] at hjl; omega) hj
            rw [List.length_append, List.length_replicate, HNA.out]
            exact h1))
          have HM3 := hide' (HM2.out k)
          obtain ⟨L0, hL0⟩ : ∃ L0, A ++ List.replicate k 0 = L0 := ⟨_, rfl⟩
          obtain ⟨m, hm'⟩ : ∃ m, na + k = m := ⟨_, rfl⟩
          have HL0 : Hid (L0.length = m) := by show L0.length = m; rw [← hL0, List.length_append, List.length_replicate, HNA.out]; exact hm'
          have hmb : m ≤ 17592186044416 := by have := HK.out; have := HAL.out; omega
          rw [hL0] at HOA3 HM3 HA
          rw [hm'] at HA fa1 ⊢
          clear HQ HK HT HAP HOA2 HM2 hL0 hm'
          have HOF := hide' (Kl.owns_form HA.out)
          go_wp2_with fail
          go_loopw [96] (fun u wr => ∃ (i : Nat) (L : List Int), u = .int .i64 i ∧ i ≤ m ∧ Hid (wr.ownsRow B 23 1 (.slice pa m ca) m (Kl.ic L)) ∧ Hid (L.length = m ∧ ∀ j, j < m → Kl.at1 L j = if j < i ∧ Kl.at1 L0 j = 1 then 2 else Kl.at1 L0 j) ∧ Hid (Below W.heap.size W wr)) (fun u _ => m - (RowKit.intOf u).toNat)
          case atStart => exact ⟨0, L0, rfl, Nat.zero_le _, HA, ⟨HL0.out, fun j _ => by simp⟩, HB⟩
          case round =>
            clear HA HB HBZ
            obtain ⟨i3, L, rfl, hi3, HA, HL, HB⟩ := hrel
            by_cases hl3 : i3 < m
            · have t3 : (i3 : Int) < (m : Int) := by omega
              obtain ⟨g, cap, e, hg1⟩ : ∃ g cap, Value.slice pa m ca = .slice (some ⟨g, 0, none⟩) m cap ∧ B ≤ g := by
                rcases HOF.out with ⟨_, h0⟩ | ⟨g, cap, e, h1, _⟩
                · omega
                · exact ⟨g, cap, e, h1⟩
              cases e
              have hat : Kl.at1 L i3 = Kl.at1 L0 i3 := by rw [HL.out.2 i3 hl3]; simp
              obtain ⟨z, hz⟩ : ∃ z, Kl.at1 L0 i3 = z := ⟨_, rfl⟩
              have k0 : wr.cell? ⟨g, i3, none⟩ = some (.int .i64 z) := by
                rw [HA.out.cellAt i3 (by omega), Kl.ic_at (by rw [HL.out.1]; exact hl3), hat, hz]
              have k1 := HA.out.frozenAt i3
              have HZ3 := hide' hz
              clear hz hat
              by_cases hz1' : z = 1
              · subst hz1'
                have HS := hide' (HA.out.stored i3 (.int .i64 2))
                go_wp2_with fail
                go_roundw
                case rel => exact ⟨i3 + 1, L.set i3 2, by go_num, by omega, by rw [Kl.ic_set]; exact HS.out.1, ⟨by rw [List.length_set]; exact HL.out.1, fun j hj => by
                  rw [Kl.at1_set (by rw [HL.out.1]; exact hl3), HL.out.2 j hj]
                  by_cases e : j = i3
                  · subst e; rw [if_pos rfl, if_pos ⟨by omega, HZ3.out⟩]
                  · have : (j < i3 + 1) ↔ (j < i3) := by omega
                    rw [if_neg e]; simp only [this]⟩, HB.out.setCell (p := ⟨g, i3, none⟩) (Nat.le_trans HWB.out hg1) _⟩
                case measure => simp [RowKit.intOf]; omega
              · have b1 : (z == 1) = false := by simpa using hz1'
                have HZN := hide' hz1'
                clear hz1'
                go_wp2_with fail
                go_roundw
                case rel => exact ⟨i3 + 1, L, by go_num, by omega, HA, ⟨HL.out.1, fun j hj => by
                  rw [HL.out.2 j hj]
                  by_cases e : j = i3
                  · subst e; rw [if_neg (fun h => by omega), if_neg (by rw [HZ3.out]; exact fun c => HZN.out c.2)]
                  · have : (j < i3 + 1) ↔ (j < i3) := by omega
                    simp only [this]⟩, HB⟩
                case measure => simp [RowKit.intOf]; omega
            · have t3 : ¬ (i3 : Int) < (m : Int) := by omega
              have hE : L = Kl.fil L0 := Kl.list_at (by rw [HL.out.1, Kl.fil_len, HL0.out]) fun j hj => by
                rw [HL.out.1] at hj
                rw [HL.out.2 j hj, Kl.fil_at (by rw [HL0.out]; exact hj)]
                have : j < i3 := by omega
                simp only [this, true_and]
              rw [hE] at HA
              obtain ⟨gl, hG', hord⟩ := HOA3.out
              obtain ⟨F, hF⟩ : ∃ F, Kl.fil L0 = F := ⟨_, rfl⟩
              rw [hF] at HA gl hord HM3
              have HFL : Hid (F.length = m) := by show F.length = m; rw [← hF, Kl.fil_len, HL0.out]
              obtain ⟨u2, hu2⟩ : ∃ u, Kl.ev F f = u := ⟨_, rfl⟩
              rw [hu2] at hord HM3
              have HOKE : Hid (Kl.okE F f = true) := by show Kl.okE F f = true; unfold Kl.okE; rw [gl, hG']; rfl
              have HGL := hide' gl
              have HG3 := hide' hG'
              have HORD := hide' hord
              have HU2 := hide' hu2
              have HTN := hide' (Kl.owns_TsN (l := F) (by rw [HFL.out]; exact HA.out))
              clear gl hG' hord hu2 hF hE HL HA HOA3
              obtain ⟨q0, q1, q2, q3⟩ := HBX.out wr HB.out
              go_wp2_with fail
              refine (CT2.out _ (HUP.out _ HB.out)).mono ?_
              rintro r w20 ⟨y, yo, yv, yn, yp, ky, yc, rfl, HY, HO, HC, HFP, hb⟩
              have HB20 := hide' (HB.out.trans (hb.out.mono HB.out.size))
              clear q0 q1 q2 q3 HFP
              have HTN20 := hide' (HTN.out.below hb.out)
              have K := hide' (lawTruthsF _ F w20 HTN20.out (by rw [HFL.out]; exact hmb))
              rw [HFL.out] at K
              have HO20 := HO
              clear hb HTN HB
              go_wp2_with fail
              refine K.out.mono ?_
              rintro r w21 ⟨p21, c21, rfl, HT, hb⟩
              have HB21 := hide' (HB20.out.trans (hb.out.mono HB20.out.size))
              have HTN21 := hide' (HTN20.out.below hb.out)
              have K2 := hide' (YE2.out y w21 _ _ (HO20.out.below hb.out) HC.out HT.out)
              rw [HY.out] at K2
              simp only [HOKE.out, HU2.out, Kl.erO, if_true] at K2
              clear hb HTN20 HB20 HY HO HO20 HC HT K
              go_wp2_with fail
              refine K2.out.mono ?_
              rintro r w22 ⟨rfl, hb⟩
              have HB22 := hide' (HB21.out.trans (hb.mono HB21.out.size))
              have HTN22 := hide' (HTN21.out.below hb)
              clear hb HTN21 HB21 K2
              obtain ⟨q0, q1, q2, q3⟩ := HBX.out w22 HB22.out
              go_wp2_with fail
              refine (CT2.out _ (HUP.out _ HB22.out)).mono ?_
              rintro r w23 ⟨y, yo, yv, yn, yp, ky, yc, rfl, HY, HO, HC, HFP, hb⟩
              have HB23 := hide' (HB22.out.trans (hb.out.mono HB22.out.size))
              clear q0 q1 q2 q3 HFP
              have HTN23 := hide' (HTN22.out.below hb.out)
              have K := hide' (lawTruthsF _ F w23 HTN23.out (by rw [HFL.out]; exact hmb))
              rw [HFL.out] at K
              have HO20 := HO
              clear hb HTN22 HB22
              go_wp2_with fail
              refine K.out.mono ?_
              rintro r w24 ⟨p24, c24, rfl, HT, hb⟩
              have HB24 := hide' (HB23.out.trans (hb.out.mono HB23.out.size))
              have K2 := hide' (YS2.out y w24 _ _ (HO20.out.below hb.out) HC.out HT.out HGL.out HG3.out)
              rw [HY.out, HORD.out] at K2
              unfold Kl.SimE at K2
              clear hb HTN23 HB23 HY HO HO20 HC HT K
              go_wp2_with fail
              refine K2.out.mono ?_
              rintro r w25 ⟨y2, zo, zv, zn, zp, kz, zc, rfl, HZE, HZ2⟩
              have HB25 := hide' (HB24.out.trans (HZ2.out.2.2.2.mono HB24.out.size))
              have KS : Hid (∀ ob, Calls Try.prog 29 #[.agg #[.int .i64 zo, .int .i64 zv, .int .i64 zn, .slice zp kz zc], .agg #[.int .i64 0, .int .i64 u2, .int .i64 0, .slice none 0 0]] (w25.alloc ob) fun e w' => e = .returned (.bool true) ∧ Kl.Gr (w25.alloc ob) w') := fun ob => by
                have h := klSame y2 (.mk 0 u2 0 none 0 []) (w25.alloc ob) (by rw [HZ2.out.2.1, Kl.ct]; simp [Kl.cons, Kl.cts]) (HZ2.out.1.ok.below ((Below.refl _ _).alloc (Nat.le_refl _) ob)) (Kl.Ok.leaf _ _ _ _)
                rw [HZE.out] at h
                exact h
              clear HZ2 HB24 K2 HZE
              by_cases hone : t0 = 1
              · subst hone
                go_wp2_with (go_at_call 29; refine (KS.out _).mono ?_; rintro r w26 ⟨rfl, hg⟩)
                go_ret
                exact ⟨rfl, HUP.out _ ((HB25.out.alloc HB25.out.size _).trans (hg.below.mono (by have := HB25.out.size; simp; omega)))⟩
              · have b1 : (t0 == 1) = false := by simpa using hone
                have b2 : (t0 == u2) = true := by rw [HM3.out hone]; simp
                clear hone
                go_wp2_with (go_at_call 29; refine (KS.out _).mono ?_; rintro r w26 ⟨rfl, hg⟩)
                go_ret
                exact ⟨rfl, HUP.out _ ((HB25.out.alloc HB25.out.size _).trans (hg.below.mono (by have := HB25.out.size; simp; omega)))⟩
    · clear HM1 HT1
      go_wp2_with fail
      refine (CM.out _ (HUP.out _ HB8.out)).mono ?_
      rintro r w9 ⟨p9, c9, rfl, HA9, hb⟩
      have HB9 := hide' (HB8.out.trans (hb.out.mono HB8.out.size))
      have HWB := hide' HB8.out.size
      have HBZ := hide' hb.out.size
      obtain ⟨B, hB⟩ : ∃ B, w8.heap.size = B := ⟨_, rfl⟩
      rw [hB] at HA9 HWB HBZ
      clear hb HB8 hB CM
      obtain ⟨q0, q1, q2, q3⟩ := HBX.out w9 HB9.out
      go_wp2_with fail
      refine (CT2.out _ (HUP.out _ HB9.out)).mono ?_
      rintro r w10 ⟨y, yo, yv, yn, yp, ky, yc, rfl, HY, HO, HC, HFP, hb⟩
      have HB10 := hide' (HB9.out.trans (hb.out.mono HB9.out.size))
      clear q0 q1 q2 q3 HFP
      have HA10 := hide' (Kl.owns_bel HA9.out hb.out)
      have HBZ10 := hide' (Nat.le_trans HBZ.out hb.out.size)
      have K := hide' (YV2.out y w10 HO.out HC.out)
      rw [HY.out] at K
      simp only [HG2.out, Kl.erO, if_true] at K
      clear hb HB9 HY HO HC YV2 HA9 HBZ
      go_wp2_with fail
      refine K.out.mono ?_
      rintro r w11 ⟨v, rfl, HT11, hb, HFR⟩
      have HB11 := hide' (HB10.out.trans (hb.out.mono HB10.out.size))
      have HA11 := hide' (Kl.owns_bel HA10.out hb.out)
      have HBZ11 := hide' (Nat.le_trans HBZ10.out hb.out.size)
      obtain ⟨pr, cr, hv⟩ := (show ∃ p c, v = .slice p R.length c by obtain ⟨p, c, e, _⟩ := HT11.out; exact ⟨p, c, e⟩)
      obtain ⟨nr, hnr⟩ : ∃ n, R.length = n := ⟨_, rfl⟩
      rw [hnr] at hv
      subst hv
      have HNR := hide' hnr
      have HAP : Hid (Kl.Apt pr nr (.slice p9 na c9) w11) := fun b o e h0 => by
        have h1 := HFR.out b o nr cr (by rw [e]) h0
        refine ⟨fun c => ?_, ?_⟩
        · have := (HA10.out.lt b c).2
          omega
        · obtain ⟨p, c, e', _, _, h3⟩ := HT11.out
          cases e'
          obtain ⟨b', o', e2, k⟩ := h3 h0
          rw [e] at e2
          cases e2
          obtain ⟨z, hz⟩ := Kl.some_of (l := R) (i := 0) h0
          exact block_lt_of_cell (k 0 z hz)
      clear hnr hb HB10 HA10 HBZ10 K HFR
      go_wp2_with fail
      go_loopw [11, 78] (fun a u wr => ∃ (i k : Nat), u = .int .i64 i ∧ i ≤ nr ∧ Hid (wr.ownsRow B 23 1 a (na + k) (Kl.ic (A ++ List.replicate k 0))) ∧ Hid (k = 0 ∨ na + k ≤ 2001) ∧ Hid (∀ j q, j < i → R[j]? = some q → q < ((na + k : Nat) : Int)) ∧ Hid (Below W.heap.size W wr) ∧ Hid (B ≤ wr.heap.size) ∧ Hid (Kl.Ts wr (.slice pr nr cr) R) ∧ Hid (Kl.Apt pr nr a wr)) (fun _ u _ => nr - (RowKit.intOf u).toNat)
      case atStart => exact ⟨0, 0, rfl, Nat.zero_le _, by show w11.ownsRow _ _ _ _ _ _; simpa using HA11.out, .inl rfl, (fun j q h => by omega), HB11, HBZ11, HT11, HAP⟩
      case round =>
        clear HA11 HB11 HBZ11 HT11 HAP
        obtain ⟨i, k, rfl, hi1, HA, HK, HQ, HB, HBZ, HT, HAP⟩ := hrel
        obtain ⟨pa, ca, hf, fa1, fa2⟩ := Kl.owns_sl HA.out
        subst hf
        by_cases hlt : i < nr
        · have t1 : (i : Int) < (nr : Int) := by omega
          obtain ⟨q, hq⟩ := Kl.some_of (l := R) (i := i) (by rw [HNR.out]; exact hlt)
          have hq0 : 0 ≤ q := HRR.out q (List.mem_of_getElem? hq)
          obtain ⟨p', c', e', r1, r2, r3⟩ := HT.out
          rw [HNR.out] at e' r1 r3
          cases e'
          obtain ⟨b, o, hpr, kx⟩ := r3 (by omega)
          subst hpr
          have c0 := kx i q hq
          have HQQ := hide' hq
          clear kx r3 hq
          by_cases hbig : 2000 < q
          · clear HQ HK HA
            go_wp2_with fail
            go_ret
            exact ⟨rfl, HUP.out _ HB.out⟩
          · go_wp2_with fail
            clear c0
            go_loopw [11] (fun a wr => ∃ k' : Nat, Hid (k ≤ k') ∧ Hid (wr.ownsRow B 23 1 a (na + k') (Kl.ic (A ++ List.replicate k' 0))) ∧ Hid (k' = 0 ∨ na + k' ≤ 2001) ∧ Hid (Below W.heap.size W wr) ∧ Hid (B ≤ wr.heap.size) ∧ Hid (Kl.Ts wr (.slice (some ⟨b, o, none⟩) nr cr) R) ∧ Hid (Kl.Apt (some ⟨b, o, none⟩) nr a wr)) (fun a _ => q.toNat + 1 - Kl.slen a)
            case atStart => exact ⟨k, Nat.le_refl _, HA, HK, HB, HBZ, HT, HAP⟩
            case round =>
              clear HA HK HB HBZ HT HAP fa1
              obtain ⟨k', HKK, HA, HK, HB, HBZ, HT, HAP⟩ := hrel
              obtain ⟨pb, cb, hf, fb1, fb2⟩ := Kl.owns_sl HA.out
              subst hf
              obtain ⟨m, hm'⟩ : ∃ m, na + k' = m := ⟨_, rfl⟩
              have HM := hide' hm'
              by_cases hle : (m : Int) ≤ q
              · rw [hm'] at HA fb1 ⊢
                rw [hm'] at HAP
                have hbz := HBZ.out
                clear hm'
                go_wp2_with (at_builtin; refine wpList_append_own_at _ rfl _ _ 22 rfl B 23 i0 (.int .i64 0) 1 8 Try.underlying22 hi hz0 hz1 hz2 rfl (by decide) _ _ _ rfl (HA.out.alloc _) ⟨wr.heap.size, 0, none⟩ 1 1 [.int .i64 0] rfl rfl ?d1 ?d2 ?d3 ?d4 ?d5 ?_)
                case d1 => exact Kl.new_one wr 0 _
                case d2 => intro u hu; simp at hu; subst hu; rfl
                case d3 => unfold maxLen; omega
                case d4 => omega
                case d5 => simp; omega
                intro v' w3 hown' hg3 _ hat
                have hWz : W.heap.size ≤ wr.heap.size := HB.out.size
                have HB3 : Hid (Below W.heap.size W w3) := (HB.out.alloc hWz (.cells #[.int .i64 0] 23)).grown hg3 (by simp; omega) (fun j hj => Nat.le_trans HWB.out (HA.out.lt j hj).1)
                have HA3 : Hid (w3.ownsRow B 23 1 v' (na + (k' + 1)) (Kl.ic (A ++ List.replicate (k' + 1) 0))) := by
                  have e1 : na + (k' + 1) = m + 1 := by have := HM.out; omega
                  rw [e1, List.replicate_succ', ← List.append_assoc, Kl.ic_app]
                  exact hown'
                have HT3 := hide' ((HT.out.below ((Below.refl _ _).alloc (Nat.le_refl _) (.cells #[.int .i64 0] 23))).grownBy (HAP.out.alloc _) hg3)
                have HAP3 : Hid (Kl.Apt (some ⟨b, o, none⟩) nr v' w3) := (HAP.out.alloc (.cells #[.int .i64 0] 23)).grown hg3 (by simpa using hat)
                have HBZ3 : Hid (B ≤ w3.heap.size) := by have := hg3.size; simp at this; show B ≤ _; omega
                obtain ⟨p3, c3, hf3, _⟩ := Kl.owns_sl HA3.out
                subst hf3
                clear hown' hg3 hat HA HAP HT HB
                go_wp2_with fail
                go_roundw
                case rel => exact ⟨k' + 1, Nat.le_trans HKK.out (Nat.le_succ _), HA3, .inr (by have := HM.out; omega), HB3, HBZ3, HT3, HAP3⟩
                case measure => have := HM.out; simp [Kl.slen]; omega
              · go_wp2_with fail
                go_roundw
                case rel => exact ⟨i + 1, k', by go_num, by omega, HA, HK, fun j z hj hz => by
                  by_cases c : j = i
                  · subst c
                    rw [HQQ.out] at hz
                    cases hz
                    have := HM.out
                    omega
                  · have := HQ.out j z (by omega) hz
                    have := HKK.out
                    omega, HB, HBZ, HT, HAP⟩
                case measure => simp [RowKit.intOf]; omega
        · have t1 : ¬ (i : Int) < (nr : Int) := by omega
          have HOA3 := hide' (HOA2.out k (fun q hq => by
            obtain ⟨j, hj⟩ := List.getElem?_of_mem hq
            have hjl := (List.getElem?_eq_some_iff.1 hj).1
            have h1 := HQ.out j q (by rw [HNR.out] at hjl; omega) hj
            rw [List.length_append, List.length_replicate, HNA.out]
            exact h1))
          have HM3 := hide' (HM2.out k)
          obtain ⟨L0, hL0⟩ : ∃ L0, A ++ List.replicate k 0 = L0 := ⟨_, rfl⟩
          obtain ⟨m, hm'⟩ : ∃ m, na + k = m := ⟨_, rfl⟩
          have HL0 : Hid (L0.length = m) := by show L0.length = m; rw [← hL0, List.length_append, List.length_replicate, HNA.out]; exact hm'
          have hmb : m ≤ 17592186044416 := by have := HK.out; have := HAL.out; omega
          rw [hL0] at HOA3 HM3 HA
          rw [hm'] at HA fa1 ⊢
          clear HQ HK HT HAP HOA2 HM2 hL0 hm'
          have HOF := hide' (Kl.owns_form HA.out)
          go_wp2_with fail
          go_loopw [96] (fun u wr => ∃ (i : Nat) (L : List Int), u = .int .i64 i ∧ i ≤ m ∧ Hid (wr.ownsRow B 23 1 (.slice pa m ca) m (Kl.ic L)) ∧ Hid (L.length = m ∧ ∀ j, j < m → Kl.at1 L j = if j < i ∧ Kl.at1 L0 j = 1 then 2 else Kl.at1 L0 j) ∧ Hid (Below W.heap.size W wr)) (fun u _ => m - (RowKit.intOf u).toNat)
          case atStart => exact ⟨0, L0, rfl, Nat.zero_le _, HA, ⟨HL0.out, fun j _ => by simp⟩, HB⟩
          case round =>
            clear HA HB HBZ
            obtain ⟨i3, L, rfl, hi3, HA, HL, HB⟩ := hrel
            by_cases hl3 : i3 < m
            · have t3 : (i3 : Int) < (m : Int) := by omega
              obtain ⟨g, cap, e, hg1⟩ : ∃ g cap, Value.slice pa m ca = .slice (some ⟨g, 0, none⟩) m cap ∧ B ≤ g := by
                rcases HOF.out with ⟨_, h0⟩ | ⟨g, cap, e, h1, _⟩
                · omega
                · exact ⟨g, cap, e, h1⟩
              cases e
              have hat : Kl.at1 L i3 = Kl.at1 L0 i3 := by rw [HL.out.2 i3 hl3]; simp
              obtain ⟨z, hz⟩ : ∃ z, Kl.at1 L0 i3 = z := ⟨_, rfl⟩
              have k0 : wr.cell? ⟨g, i3, none⟩ = some (.int .i64 z) := by
                rw [HA.out.cellAt i3 (by omega), Kl.ic_at (by rw [HL.out.1]; exact hl3), hat, hz]
              have k1 := HA.out.frozenAt i3
              have HZ3 := hide' hz
              clear hz hat
              by_cases hz1' : z = 1
              · subst hz1'
                have HS := hide' (HA.out.stored i3 (.int .i64 2))
                go_wp2_with fail
                go_roundw
                case rel => exact ⟨i3 + 1, L.set i3 2, by go_num, by omega, by rw [Kl.ic_set]; exact HS.out.1, ⟨by rw [List.length_set]; exact HL.out.1, fun j hj => by
                  rw [Kl.at1_set (by rw [HL.out.1]; exact hl3), HL.out.2 j hj]
                  by_cases e : j = i3
                  · subst e; rw [if_pos rfl, if_pos ⟨by omega, HZ3.out⟩]
                  · have : (j < i3 + 1) ↔ (j < i3) := by omega
                    rw [if_neg e]; simp only [this]⟩, HB.out.setCell (p := ⟨g, i3, none⟩) (Nat.le_trans HWB.out hg1) _⟩
                case measure => simp [RowKit.intOf]; omega
              · have b1 : (z == 1) = false := by simpa using hz1'
                have HZN := hide' hz1'
                clear hz1'
                go_wp2_with fail
                go_roundw
                case rel => exact ⟨i3 + 1, L, by go_num, by omega, HA, ⟨HL.out.1, fun j hj => by
                  rw [HL.out.2 j hj]
                  by_cases e : j = i3
                  · subst e; rw [if_neg (fun h => by omega), if_neg (by rw [HZ3.out]; exact fun c => HZN.out c.2)]
                  · have : (j < i3 + 1) ↔ (j < i3) := by omega
                    simp only [this]⟩, HB⟩
                case measure => simp [RowKit.intOf]; omega
            · have t3 : ¬ (i3 : Int) < (m : Int) := by omega
              have hE : L = Kl.fil L0 := Kl.list_at (by rw [HL.out.1, Kl.fil_len, HL0.out]) fun j hj => by
                rw [HL.out.1] at hj
                rw [HL.out.2 j hj, Kl.fil_at (by rw [HL0.out]; exact hj)]
                have : j < i3 := by omega
                simp only [this, true_and]
              rw [hE] at HA
              obtain ⟨gl, hG', hord⟩ := HOA3.out
              obtain ⟨F, hF⟩ : ∃ F, Kl.fil L0 = F := ⟨_, rfl⟩
              rw [hF] at HA gl hord HM3
              have HFL : Hid (F.length = m) := by show F.length = m; rw [← hF, Kl.fil_len, HL0.out]
              obtain ⟨u2, hu2⟩ : ∃ u, Kl.ev F f = u := ⟨_, rfl⟩
              rw [hu2] at hord HM3
              have HOKE : Hid (Kl.okE F f = true) := by show Kl.okE F f = true; unfold Kl.okE; rw [gl, hG']; rfl
              have HGL := hide' gl
              have HG3 := hide' hG'
              have HORD := hide' hord
              have HU2 := hide' hu2
              have HTN := hide' (Kl.owns_TsN (l := F) (by rw [HFL.out]; exact HA.out))
              clear gl hG' hord hu2 hF hE HL HA HOA3
              obtain ⟨q0, q1, q2, q3⟩ := HBX.out wr HB.out
              go_wp2_with fail
              refine (CT2.out _ (HUP.out _ HB.out)).mono ?_
              rintro r w20 ⟨y, yo, yv, yn, yp, ky, yc, rfl, HY, HO, HC, HFP, hb⟩
              have HB20 := hide' (HB.out.trans (hb.out.mono HB.out.size))
              clear q0 q1 q2 q3 HFP
              have HTN20 := hide' (HTN.out.below hb.out)
              have K := hide' (lawTruthsF _ F w20 HTN20.out (by rw [HFL.out]; exact hmb))
              rw [HFL.out] at K
              have HO20 := HO
              clear hb HTN HB
              go_wp2_with fail
              refine K.out.mono ?_
              rintro r w21 ⟨p21, c21, rfl, HT, hb⟩
              have HB21 := hide' (HB20.out.trans (hb.out.mono HB20.out.size))
              have HTN21 := hide' (HTN20.out.below hb.out)
              have K2 := hide' (YE2.out y w21 _ _ (HO20.out.below hb.out) HC.out HT.out)
              rw [HY.out] at K2
              simp only [HOKE.out, HU2.out, Kl.erO, if_true] at K2
              clear hb HTN20 HB20 HY HO HO20 HC HT K
              go_wp2_with fail
              refine K2.out.mono ?_
              rintro r w22 ⟨rfl, hb⟩
              have HB22 := hide' (HB21.out.trans (hb.mono HB21.out.size))
              have HTN22 := hide' (HTN21.out.below hb)
              clear hb HTN21 HB21 K2
              obtain ⟨q0, q1, q2, q3⟩ := HBX.out w22 HB22.out
              go_wp2_with fail
              refine (CT2.out _ (HUP.out _ HB22.out)).mono ?_
              rintro r w23 ⟨y, yo, yv, yn, yp, ky, yc, rfl, HY, HO, HC, HFP, hb⟩
              have HB23 := hide' (HB22.out.trans (hb.out.mono HB22.out.size))
              clear q0 q1 q2 q3 HFP
              have HTN23 := hide' (HTN22.out.below hb.out)
              have K := hide' (lawTruthsF _ F w23 HTN23.out (by rw [HFL.out]; exact hmb))
              rw [HFL.out] at K
              have HO20 := HO
              clear hb HTN22 HB22
              go_wp2_with fail
              refine K.out.mono ?_
              rintro r w24 ⟨p24, c24, rfl, HT, hb⟩
              have HB24 := hide' (HB23.out.trans (hb.out.mono HB23.out.size))
              have K2 := hide' (YS2.out y w24 _ _ (HO20.out.below hb.out) HC.out HT.out HGL.out HG3.out)
              rw [HY.out, HORD.out] at K2
              unfold Kl.SimE at K2
              clear hb HTN23 HB23 HY HO HO20 HC HT K
              go_wp2_with fail
              refine K2.out.mono ?_
              rintro r w25 ⟨y2, zo, zv, zn, zp, kz, zc, rfl, HZE, HZ2⟩
              have HB25 := hide' (HB24.out.trans (HZ2.out.2.2.2.mono HB24.out.size))
              have KS : Hid (∀ ob, Calls Try.prog 29 #[.agg #[.int .i64 zo, .int .i64 zv, .int .i64 zn, .slice zp kz zc], .agg #[.int .i64 0, .int .i64 u2, .int .i64 0, .slice none 0 0]] (w25.alloc ob) fun e w' => e = .returned (.bool true) ∧ Kl.Gr (w25.alloc ob) w') := fun ob => by
                have h := klSame y2 (.mk 0 u2 0 none 0 []) (w25.alloc ob) (by rw [HZ2.out.2.1, Kl.ct]; simp [Kl.cons, Kl.cts]) (HZ2.out.1.ok.below ((Below.refl _ _).alloc (Nat.le_refl _) ob)) (Kl.Ok.leaf _ _ _ _)
                rw [HZE.out] at h
                exact h
              clear HZ2 HB24 K2 HZE
              by_cases hone : t0 = 1
              · subst hone
                go_wp2_with (go_at_call 29; refine (KS.out _).mono ?_; rintro r w26 ⟨rfl, hg⟩)
                go_ret
                exact ⟨rfl, HUP.out _ ((HB25.out.alloc HB25.out.size _).trans (hg.below.mono (by have := HB25.out.size; simp; omega)))⟩
              · have b1 : (t0 == 1) = false := by simpa using hone
                have b2 : (t0 == u2) = true := by rw [HM3.out hone]; simp
                clear hone
                go_wp2_with (go_at_call 29; refine (KS.out _).mono ?_; rintro r w26 ⟨rfl, hg⟩)
                go_ret
                exact ⟨rfl, HUP.out _ ((HB25.out.alloc HB25.out.size _).trans (hg.below.mono (by have := HB25.out.size; simp; omega)))⟩
end Go.Proofs.Ytdmimkljokjfdaa
