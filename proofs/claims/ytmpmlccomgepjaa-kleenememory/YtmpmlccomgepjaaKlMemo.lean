/-
  THE WALK over gimletlaw14.KleeneMemory (gen_memo.py).
-/
import Derived.Test.YtmpmlccomgepjaaKlSpoW
import Derived.Test.YtmpmlccomgepjaaKlGrwM
import Derived.Test.YtmpmlccomgepjaaKlSimB
import Derived.Test.YtmpmlccomgepjaaKlVarsO
import Derived.BigGuard
import Derived.BigQuiet
namespace Go.Proofs.Ytmpmlccomgepjaa
open Go.RowKit Go.Lib Go.Sort
namespace Kl
/-- what Simplify answers, asked well or not: a formula in rows of its own, new memory -/
def SimD (G : Fm) (e0 : Int) (w : World) (r : Ending) (w' : World) : Prop :=
  ∃ (g : Fv) (go gv gn : Int) (gp : Option Addr) (kg gc : Nat), r = .returned (.tuple #[.agg #[.int .i64 go, .int .i64 gv, .int .i64 gn, .slice gp kg gc], .int .i64 e0]) ∧ Hid (g.enc = [.int .i64 go, .int .i64 gv, .int .i64 gn, .slice gp kg gc]) ∧ Hid (Dp w' g) ∧ Hid (ct g = G) ∧ Hid (∀ b ∈ fp g, w.heap.size ≤ b) ∧ Hid (Below w.heap.size w w')
theorem owns_lt {w : World} {base n : Nat} {e : TypeId} {v : Value} {xs : List Value} (h : w.ownsRow base e 1 v n xs) {g : Nat} (hg : v.ownBlock = some g) : base ≤ g ∧ g < w.heap.size := by
  rcases h.2 with ⟨rfl, _⟩ | ⟨g', cap, cur, rfl, h1, h2, _⟩
  · cases hg
  · cases hg; exact ⟨h1, (Array.getElem?_eq_some_iff.1 h2).1⟩
theorem owns_blk {w w' : World} {base n : Nat} {e : TypeId} {v : Value} {xs : List Value} (h : w.ownsRow base e 1 v n xs) (hb : ∀ g, v.ownBlock = some g → w'.heap[g]? = w.heap[g]?) : w'.ownsRow base e 1 v n xs := by
  refine ⟨h.1, ?_⟩
  rcases h.2 with h0 | ⟨g, cap, cur, e1, h1, h2, h3⟩
  · exact .inl h0
  · exact .inr ⟨g, cap, cur, e1, h1, (hb g (by rw [e1]; rfl)).trans h2, h3⟩
theorem owns_cell {w : World} {base n : Nat} {e : TypeId} {p : Option Addr} {c m : Nat} {xs : List Value} (h : w.ownsRow base e 1 (.slice p m c) n xs) {j : Nat} {u : Value} (hj : xs[j]? = some u) : ∃ g, p = some ⟨g, 0, none⟩ ∧ w.cell? ⟨g, j, none⟩ = some u ∧ (∀ i, w.frozen? ⟨g, i, none⟩ = false) ∧ base ≤ g ∧ g < w.heap.size := by
  rcases h.2 with ⟨e0, h0⟩ | ⟨g, cap, cur, e1, h1, h2, h3, h4, h5, h6⟩
  · have : xs = [] := List.eq_nil_of_length_eq_zero (by rw [h.1, h0])
    rw [this] at hj; simp at hj
  · cases e1
    refine ⟨g, rfl, ?_, fun i => Lib.frozen_of_heap h2 i, h1, (Array.getElem?_eq_some_iff.1 h2).1⟩
    rw [Lib.cell_of_heap h2]
    have hjl := (List.getElem?_eq_some_iff.1 hj).1
    rw [h.1] at hjl
    rw [← h6, List.getElem?_take_of_lt hjl, Array.getElem?_toList] at hj
    exact hj
theorem row3_news (W : World) (a : Int) (t : TypeId) : ∀ j u, ([.int .i64 a, .int .i64 a, .int .i64 a] : List Value)[j]? = some u → (W.alloc (.cells #[.int .i64 a, .int .i64 a, .int .i64 a] t)).cell? (Addr.add ⟨W.heap.size, 0, none⟩ j) = some u := by
  intro j u hj
  have hl := (List.getElem?_eq_some_iff.1 hj).1
  simp at hl
  rcases (show j = 0 ∨ j = 1 ∨ j = 2 by omega) with rfl | rfl | rfl <;> (simp at hj; subst hj; simp [Addr.add])
end Kl
set_option maxRecDepth 100000 in
set_option maxHeartbeats 8000000 in
theorem lawMemory14 (x : Kl.Fv) (vv : Value) (vs : List Int) (w : World) (hx : Kl.Ok w x) (hv : Kl.TsN w vv vs) (hn : vs.length ≤ 17592186044416) :
    Calls Try.prog 3 #[.agg x.enc.toArray, vv] w fun r w' => r = .returned (.bool true) ∧ Below w.heap.size w w' := by
  obtain ⟨i0, hi, hz0, hz1, hz2⟩ := info_parts Kl.inInfo
  have CG := hide' (fun w' (g : Below w.heap.size w w') => klGreat x w' (hx.below g))
  have CT := hide' (fun hs w' (g : Below w.heap.size w w') => Kl.twA (x := x) hs (hx.below g))
  have CU := hide' (fun w' (g : Below w.heap.size w w') => lawTruthsF vv vs w' (hv.below g) hn)
  have HTV := hide' hv.1
  have HOX := hide' hx
  obtain ⟨f, hf⟩ : ∃ f, Kl.ct x = f := ⟨_, rfl⟩
  have HCX := hide' hf
  simp only [hf] at CG CT
  obtain ⟨s, hS⟩ : ∃ s, Kl.sz f = s := ⟨_, rfl⟩
  obtain ⟨G, hG⟩ : ∃ G, (if Kl.okE vs f = true then Kl.ord (Kl.lse vs f) else .mk 0 0 0 []) = G := ⟨_, rfl⟩
  obtain ⟨e0, he0⟩ : ∃ e0, Kl.erO (Kl.okE vs f) = e0 := ⟨_, rfl⟩
  have HGC : Hid ((Kl.okE vs f = true ∧ G = Kl.ord (Kl.lse vs f) ∧ e0 = 0) ∨ (Kl.okE vs f = false ∧ G = .mk 0 0 0 [] ∧ e0 = 6)) := by
    cases h : Kl.okE vs f with
    | true => rw [h, if_pos rfl] at hG; rw [h] at he0; exact .inl ⟨rfl, hG.symm, he0.symm⟩
    | false => rw [h, if_neg (by simp)] at hG; rw [h] at he0; exact .inr ⟨rfl, hG.symm, he0.symm⟩
  have HSG : Hid (Kl.sz G ≤ s) := by
    show Kl.sz G ≤ s
    rcases HGC.out with ⟨_, rfl, _⟩ | ⟨_, rfl, _⟩
    · rw [← hS]; exact Nat.le_trans (Kl.ord_sz _) (Kl.lse_sz vs f)
    · have := Kl.sz_pos f; simp only [Kl.sz, Kl.szs]; omega
  have YS : Hid (∀ y w' v', Kl.Ok w' y → Kl.ct y = f → s ≤ 131072 → Kl.Ts w' v' vs → Calls Try.prog 8 #[.agg y.enc.toArray, v'] w' (Kl.SimD G e0 w')) := fun y w' v' ho hc hs hl => by
    rcases HGC.out with ⟨h1, rfl, rfl⟩ | ⟨h1, rfl, rfl⟩
    · unfold Kl.okE at h1
      simp at h1
      refine (klSimplify y v' vs w' ho hl (by rw [hc]; omega) h1.1 (by rw [hc, Kl.isF_isG f _ (by omega)]; exact h1.2)).mono fun r w2 h => ?_
      obtain ⟨g, go, gv, gn, gp, kg, gc, k1, k2, k3, k4, k5, k6⟩ := h
      exact ⟨g, go, gv, gn, gp, kg, gc, k1, k2, k3.dp, by show _ = _; rw [k4, hc], k5, k6⟩
    · refine (klSimplifyBad y v' vs w' ho hl (by rw [hc]; omega) (by rw [hc]; exact h1)).mono fun r w2 h => ?_
      obtain ⟨k1, k2⟩ := h
      exact ⟨.mk 0 0 0 none 0 [], 0, 0, 0, none, 0, 0, k1, rfl, Kl.Dp.leaf _ _ _ _, by show _ = _; simp [Kl.ct, Kl.cts], (fun b hb => by simp [Kl.fp, Kl.fps, Kl.pb] at hb), k2⟩
  have YV : Hid (∀ y w', Kl.Ok w' y → Kl.ct y = f → s ≤ 131072 → Calls Try.prog 12 #[.agg y.enc.toArray] w' (Kl.VarO (Kl.isG f) (if Kl.isG f then Kl.vr f (Kl.gre f + 1).toNat else []) w')) := fun y w' ho hc hs => by
    have := klVarsO y w' ho (by rw [hc]; omega)
    rw [hc] at this
    exact this
  obtain ⟨R, hR⟩ : ∃ R, (if Kl.isG f then Kl.vr f (Kl.gre f + 1).toNat else []) = R := ⟨_, rfl⟩
  obtain ⟨e1, he1⟩ : ∃ e1, Kl.erO (Kl.isG f) = e1 := ⟨_, rfl⟩
  have HRR : Hid (∀ q ∈ R, 0 ≤ q) := fun q hq => by
    rw [← hR] at hq
    split at hq
    · rw [Kl.vr_mem] at hq; exact hq.1.1
    · cases hq
  have HRL : Hid (R.length ≤ 65536) := by
    show R.length ≤ _
    rw [← hR]
    split
    · rename_i hg
      have h1 := Kl.vr_len f (Kl.gre f + 1).toNat
      have h2 := (Kl.gre_rng f hg).2
      omega
    · simp
  unfold Kl.VarO at YV
  simp only [hR, he1] at YV
  obtain ⟨nr, hnr⟩ : ∃ n, R.length = n := ⟨_, rfl⟩
  simp only [hnr] at YV
  have HNR := hide' hnr
  have hnr2 : nr ≤ 65536 := by rw [← hnr]; exact HRL.out
  simp only [hS] at CG CT
  obtain ⟨pv, cv, rfl, v1, v2, _⟩ := hv.1
  obtain ⟨nv, hnv⟩ : ∃ n, vs.length = n := ⟨_, rfl⟩
  simp only [hnv] at CU HTV v1 ⊢
  have HNV := hide' hnv
  have HEN : Hid (x.enc = x.enc) := rfl
  obtain ⟨xo, xv, xn, xp, xc, xl⟩ := x
  obtain ⟨kx, hkx⟩ : ∃ k, xl.length = k := ⟨_, rfl⟩
  have HXE : Hid ((Kl.Fv.mk xo xv xn xp xc xl).enc = [.int .i64 xo, .int .i64 xv, .int .i64 xn, .slice xp kx xc]) := by show _ = _; simp only [Kl.Fv.enc, hkx]
  simp only [Kl.Fv.enc, hkx] at CG CT ⊢
  obtain ⟨W, hWd⟩ : ∃ W, w.alloc (.cells #[.int .i64 xo, .int .i64 xv, .int .i64 xn, .slice xp kx xc] 26) = W := ⟨_, rfl⟩
  have HBW : Hid (Below w.heap.size w W) := by rw [← hWd]; exact (Below.refl _ _).alloc (Nat.le_refl _) _
  have HUP : Hid (∀ w', Below W.heap.size W w' → Below w.heap.size w w') := fun w' h => HBW.out.trans (h.mono HBW.out.size)
  have HZ : Hid (W.heap.size = w.heap.size + 1) := by show W.heap.size = _; rw [← hWd]; simp
  have HBX : Hid (∀ w', Below W.heap.size W w' → w'.cell? ⟨w.heap.size, 0, none⟩ = some (.int .i64 xo) ∧ w'.cell? ⟨w.heap.size, 1, none⟩ = some (.int .i64 xv) ∧ w'.cell? ⟨w.heap.size, 2, none⟩ = some (.int .i64 xn) ∧ w'.cell? ⟨w.heap.size, 3, none⟩ = some (.slice xp kx xc)) := fun w' h => by
    have hw0 : w.heap.size < W.heap.size := by rw [HZ.out]; omega
    have e : ∀ o, w'.cell? ⟨w.heap.size, o, none⟩ = W.cell? ⟨w.heap.size, o, none⟩ := fun o => h.cell (p := ⟨w.heap.size, o, none⟩) hw0
    rw [e, e, e, e, ← hWd]
    refine ⟨?_, ?_, ?_, ?_⟩ <;> simp
  have HSF := hide' hS
  have HWd := hide' hWd
  clear hx hv hf hS hkx hWd hnv hn hG he0 hR he1 hnr HEN HRL
  go_enter Try.func3, Try.ntmps3
  go_wp2_with fail
  rw [HWd.out]
  refine (CG.out W HBW.out).mono ?_
  rintro r w1 ⟨rfl, hg1⟩
  have HB1 := hide' hg1.below
  clear hg1 CG
  by_cases hgr : 65536 < s
  · have d1 : decide (65536 < s) = true := decide_eq_true hgr
    rw [d1]
    clear d1 hgr CT CU YS YV HGC HSG HRR
    go_wp2_with fail
    refine (klFixed _).mono ?_
    rintro r w2 ⟨rfl, hb2⟩
    have HB2 := hide' (HB1.out.trans (hb2.mono HB1.out.size))
    clear hb2 HB1
    go_wp2_with fail
    go_ret
    exact ⟨rfl, HUP.out _ HB2.out⟩
  have d1 : decide (65536 < s) = false := decide_eq_false hgr
  rw [d1]
  have CT2 := hide' (CT.out (by omega))
  have YS2 := hide' (fun y w' v' ho hc => YS.out y w' v' ho hc (by omega))
  have YV2 := hide' (fun y w' ho hc => YV.out y w' ho hc (by omega))
  have HS2 : Hid (Kl.sz G ≤ 65536) := by have := HSG.out; show Kl.sz G ≤ _; omega
  clear d1 hgr CT YS YV HGC
  go_wp2_with fail
  refine (klFixed _).mono ?_
  rintro r w2 ⟨rfl, hb⟩
  have HB2 := hide' (HB1.out.trans (hb.mono HB1.out.size))
  clear hb HB1
  obtain ⟨q0, q1, q2, q3⟩ := HBX.out w2 HB2.out
  go_wp2_with fail
  refine (CT2.out _ (HUP.out _ HB2.out)).mono ?_
  rintro r w3 ⟨y, yo, yv, yn, yp, ky, yc, rfl, HY, HO, HC, HFP, hb⟩
  have HB3 := hide' (HB2.out.trans (hb.out.mono HB2.out.size))
  clear q0 q1 q2 q3 HFP hb HB2
  go_wp2_with fail
  refine (CU.out _ (HUP.out _ HB3.out)).mono ?_
  rintro r w4 ⟨p4, c4, rfl, HT, hb⟩
  have HB4 := hide' (HB3.out.trans (hb.out.mono HB3.out.size))
  have HO4 := hide' (HO.out.below hb.out)
  clear hb HB3 HO CU CT2
  go_wp2_with fail
  obtain ⟨W5, hW5⟩ : ∃ W9, w4.alloc (.cells #[.int .i64 yo, .int .i64 yv, .int .i64 yn, .slice yp ky yc] 26) = W9 := ⟨_, rfl⟩
  obtain ⟨BM, hBM⟩ : ∃ B9, w4.heap.size = B9 := ⟨_, rfl⟩
  have HBW5 : Hid (Below W.heap.size W W5) := by rw [← hW5]; exact HB4.out.alloc HB4.out.size _
  have HCBM : Hid (∀ w', Below W5.heap.size W5 w' → w'.cell? ⟨BM, 0, none⟩ = some (.int .i64 yo) ∧ w'.cell? ⟨BM, 1, none⟩ = some (.int .i64 yv) ∧ w'.cell? ⟨BM, 2, none⟩ = some (.int .i64 yn) ∧ w'.cell? ⟨BM, 3, none⟩ = some (.slice yp ky yc)) := fun w' h => by
    have hw0 : BM < W5.heap.size := by rw [← hW5, ← hBM]; simp
    have e : ∀ o, w'.cell? ⟨BM, o, none⟩ = W5.cell? ⟨BM, o, none⟩ := fun o => h.cell (p := ⟨BM, o, none⟩) hw0
    rw [e, e, e, e, ← hW5, ← hBM]
    refine ⟨?_, ?_, ?_, ?_⟩ <;> simp
  have H45 : Hid (Below w4.heap.size w4 W5) := by rw [← hW5]; exact (Below.refl _ _).alloc (Nat.le_refl _) _
  have HLBM : Hid (BM < W5.heap.size) := by show BM < _; rw [← hW5, ← hBM]; simp
  rw [hW5, hBM]
  clear hW5 hBM
  have HO5 := hide' (HO4.out.below H45.out)
  have HT5 := hide' (HT.out.below H45.out)
  have K := hide' (YS2.out y W5 _ HO5.out HC.out HT5.out)
  rw [HY.out] at K
  clear HO4 HT HB4 H45
  obtain ⟨q0, q1, q2, q3⟩ := HCBM.out W5 (Below.refl _ _)
  go_wp2_with fail
  refine K.out.mono ?_
  rintro r w6 ⟨g, go, gv, gn, gp, kg, gc, rfl, HGE, HGD, HGT, HGF, hb⟩
  have H56 := hide' hb.out
  clear q0 q1 q2 q3 hb K
  go_wp2_with fail
  obtain ⟨W7, hW7⟩ : ∃ W9, w6.alloc (.cells #[.int .i64 go, .int .i64 gv, .int .i64 gn, .slice gp kg gc] 26) = W9 := ⟨_, rfl⟩
  obtain ⟨BA, hBA⟩ : ∃ B9, w6.heap.size = B9 := ⟨_, rfl⟩
  have HCBA : Hid (∀ w', Below W7.heap.size W7 w' → w'.cell? ⟨BA, 0, none⟩ = some (.int .i64 go) ∧ w'.cell? ⟨BA, 1, none⟩ = some (.int .i64 gv) ∧ w'.cell? ⟨BA, 2, none⟩ = some (.int .i64 gn) ∧ w'.cell? ⟨BA, 3, none⟩ = some (.slice gp kg gc)) := fun w' h => by
    have hw0 : BA < W7.heap.size := by rw [← hW7, ← hBA]; simp
    have e : ∀ o, w'.cell? ⟨BA, o, none⟩ = W7.cell? ⟨BA, o, none⟩ := fun o => h.cell (p := ⟨BA, o, none⟩) hw0
    rw [e, e, e, e, ← hW7, ← hBA]
    refine ⟨?_, ?_, ?_, ?_⟩ <;> simp
  have H67 : Hid (Below w6.heap.size w6 W7) := by rw [← hW7]; exact (Below.refl _ _).alloc (Nat.le_refl _) _
  have HBAE := hide' hBA
  have HBA7 : Hid (BA < W7.heap.size) := by show BA < _; rw [← hW7, ← hBA]; simp
  have H56S := hide' H56.out.size
  have HBLK : Hid (∃ cur, W7.heap[BA]? = some (.cells cur 26 (0, 0)) ∧ cur.size = 4) := by show ∃ cur, _; rw [← hW7, ← hBA]; exact ⟨_, heap_alloc_new w6 _, rfl⟩
  rw [hW7, hBA]
  clear hW7 hBA
  have HGD7 := hide' (HGD.out.below H67.out)
  have HGL : Hid (∀ b ∈ Kl.fp g, b < BA) := fun b hb => by have := (HGD.out.ok g).lt g b hb; rw [HBAE.out] at this; exact this
  have H57 := hide' (H56.out.trans (H67.out.mono H56.out.size))
  have K := hide' (Kl.twA (x := g) (w := W7) (by rw [HGT.out]; have := HS2.out; omega) (HGD7.out.ok g))
  rw [HGE.out, HGT.out] at K
  clear HGD H56 H67
  obtain ⟨q0, q1, q2, q3⟩ := HCBA.out W7 (Below.refl _ _)
  go_wp2_with fail
  refine K.out.mono ?_
  rintro r w8 ⟨z, zo, zv, zn, zp, kz, zc, rfl, HZE, HZO, HZC, HZF, hb⟩
  have H78 := hide' hb.out
  clear q0 q1 q2 q3 hb K
  have H58 := hide' (H57.out.trans (H78.out.mono H57.out.size))
  obtain ⟨q0, q1, q2, q3⟩ := HCBM.out w8 H58.out
  have hzM : BM < w8.heap.size := Nat.lt_of_lt_of_le HLBM.out H58.out.size
  go_wp2_with fail
  obtain ⟨W9, hW9⟩ : ∃ W9, w8.alloc (.cells #[.int .i64 zo, .int .i64 zv, .int .i64 zn, .slice zp kz zc] 26) = W9 := ⟨_, rfl⟩
  obtain ⟨BW, hBW⟩ : ∃ B9, w8.heap.size = B9 := ⟨_, rfl⟩
  have HCBW : Hid (∀ w', Below W9.heap.size W9 w' → w'.cell? ⟨BW, 0, none⟩ = some (.int .i64 zo) ∧ w'.cell? ⟨BW, 1, none⟩ = some (.int .i64 zv) ∧ w'.cell? ⟨BW, 2, none⟩ = some (.int .i64 zn) ∧ w'.cell? ⟨BW, 3, none⟩ = some (.slice zp kz zc)) := fun w' h => by
    have hw0 : BW < W9.heap.size := by rw [← hW9, ← hBW]; simp
    have e : ∀ o, w'.cell? ⟨BW, o, none⟩ = W9.cell? ⟨BW, o, none⟩ := fun o => h.cell (p := ⟨BW, o, none⟩) hw0
    rw [e, e, e, e, ← hW9, ← hBW]
    refine ⟨?_, ?_, ?_, ?_⟩ <;> simp
  have H89 : Hid (Below w8.heap.size w8 W9) := by rw [← hW9]; exact (Below.refl _ _).alloc (Nat.le_refl _) _
  have HBWE := hide' hBW
  have HBW9 : Hid (BW < W9.heap.size) := by show BW < _; rw [← hW9, ← hBW]; simp
  have H78S := hide' H78.out.size
  rw [hW9, hBW]
  clear hW9 hBW
  clear q0 q1 q2 q3 hzM H58
  have HZO9 := hide' (HZO.out.below H89.out)
  have H79 := hide' (H78.out.trans (H89.out.mono H78.out.size))
  have H59 := hide' (H57.out.trans (H79.out.mono H57.out.size))
  have K := hide' (YS2.out y W9 _ (HO5.out.below H59.out) HC.out (HT5.out.below H59.out))
  rw [HY.out] at K
  clear HZO H78 H89 H57 YS2
  refine K.out.mono ?_
  rintro r w10 ⟨bb, bo, bv, bn, bp, kb, bc, rfl, HVE, HVD, HVT, HVF, hb⟩
  have H910 := hide' hb.out
  clear hb K
  have g0 : (e0 != e0) = false := by simp
  obtain ⟨q4, q5, q6, q7⟩ := HCBW.out w10 H910.out
  have hzW : BW < w10.heap.size := Nat.lt_of_lt_of_le HBW9.out H910.out.size
  go_wp2_with fail
  obtain ⟨W11, hW11⟩ : ∃ W9, w10.alloc (.cells #[.int .i64 bo, .int .i64 bv, .int .i64 bn, .slice bp kb bc] 26) = W9 := ⟨_, rfl⟩
  obtain ⟨BB, hBB⟩ : ∃ B9, w10.heap.size = B9 := ⟨_, rfl⟩
  have HCBB : Hid (∀ w', Below W11.heap.size W11 w' → w'.cell? ⟨BB, 0, none⟩ = some (.int .i64 bo) ∧ w'.cell? ⟨BB, 1, none⟩ = some (.int .i64 bv) ∧ w'.cell? ⟨BB, 2, none⟩ = some (.int .i64 bn) ∧ w'.cell? ⟨BB, 3, none⟩ = some (.slice bp kb bc)) := fun w' h => by
    have hw0 : BB < W11.heap.size := by rw [← hW11, ← hBB]; simp
    have e : ∀ o, w'.cell? ⟨BB, o, none⟩ = W11.cell? ⟨BB, o, none⟩ := fun o => h.cell (p := ⟨BB, o, none⟩) hw0
    rw [e, e, e, e, ← hW11, ← hBB]
    refine ⟨?_, ?_, ?_, ?_⟩ <;> simp
  have H1011 : Hid (Below w10.heap.size w10 W11) := by rw [← hW11]; exact (Below.refl _ _).alloc (Nat.le_refl _) _
  have HBBE := hide' hBB
  have HBB11 : Hid (BB < W11.heap.size) := by show BB < _; rw [← hW11, ← hBB]; simp
  have H910S := hide' H910.out.size
  rw [hW11, hBB]
  clear hW11 hBB
  clear q4 q5 q6 q7 hzW g0
  have H911 := hide' (H910.out.trans (H1011.out.mono H910.out.size))
  have H711 := hide' (H79.out.trans (H911.out.mono H79.out.size))
  have HVO := hide' ((HVD.out.ok bb).below H1011.out)
  have HZO11 := hide' (HZO9.out.below H911.out)
  have K : Hid (∀ wc, Kl.Ok wc bb → Kl.Ok wc z → Calls Try.prog 9 #[.agg #[.int .i64 bo, .int .i64 bv, .int .i64 bn, .slice bp kb bc], .agg #[.int .i64 zo, .int .i64 zv, .int .i64 zn, .slice zp kz zc]] wc fun e w' => e = .returned (.bool true) ∧ Kl.Gr wc w') := fun wc h1 h2 => by
    have := klSame bb z wc (by rw [HVT.out, HZC.out]) h1 h2
    rw [HVE.out, HZE.out] at this
    exact this
  clear HZO9 H910 H1011 HVD
  refine (K.out W11 HVO.out HZO11.out).mono ?_
  rintro r w12 ⟨rfl, hg⟩
  have HG12 := hide' hg
  have HVO12 := hide' (hg.ok HVO.out)
  have HZO12 := hide' (hg.ok HZO11.out)
  have H1112 := hide' hg.below
  clear hg HVO HZO11
  have H712 := hide' (H711.out.trans (H1112.out.mono H711.out.size))
  have KS : Hid (Calls Try.prog 10 #[.pointer (some ⟨BA, 0, none⟩), .int .i64 3] w12 fun r w' => (∃ u, r = .returned u) ∧ Kl.SpE w12 BA 0 (Kl.fp g) w') := by
    refine klSpoil g 3 w12 BA 0 (by omega) (by rw [HGT.out]; have := HS2.out; omega) ?_ ?_ (HGD7.out.below H712.out) (fun hb => by have := HGL.out BA hb; omega)
    · obtain ⟨cur, h1, h2⟩ := HBLK.out
      exact ⟨cur, _, (H712.out.block BA HBA7.out).trans h1, by omega⟩
    · intro j u hj
      obtain ⟨q0, q1, q2, q3⟩ := HCBA.out w12 H712.out
      rw [HGE.out] at hj
      rw [Nat.zero_add]
      match j, hj with
      | 0, hj => cases hj; exact q0
      | 1, hj => cases hj; exact q1
      | 2, hj => cases hj; exact q2
      | 3, hj => cases hj; exact q3
      | j + 4, hj => simp at hj
  clear HG12
  go_wp2_with fail
  refine KS.out.mono ?_
  rintro r w13 ⟨⟨u13, rfl⟩, hsp⟩
  have HCH := hide' hsp.ch
  have H513 : Hid (Below W5.heap.size W5 w13) := by
    have h12 : Below W5.heap.size W5 w12 := (H59.out.trans ((H911.out.trans (H1112.out.mono H911.out.size)).mono H59.out.size))
    refine h12.trans (HCH.out.below (fun k hk => ?_) h12.size)
    rcases List.mem_cons.1 hk with rfl | hk
    · rw [← HBAE.out]; exact H56S.out
    · exact HGF.out k hk
  have HNB : Hid (∀ k, BA < k → k ∉ BA :: Kl.fp g) := fun k hk hm => by
    rcases List.mem_cons.1 hm with rfl | hm
    · omega
    · have := HGL.out k hm; omega
  have HVO13 : Hid (Kl.Ok w13 bb) := HCH.out.ok HVO12.out fun b hb => HNB.out b (by have := HVF.out b hb; have := H79.out.size; have := HBA7.out; omega)
  have HZO13 : Hid (Kl.Ok w13 z) := HCH.out.ok HZO12.out fun b hb => HNB.out b (by have := HZF.out b hb; have := HBA7.out; omega)
  have HCW13 : Hid (∀ w', Below w13.heap.size w13 w' → w'.cell? ⟨BW, 0, none⟩ = some (.int .i64 zo) ∧ w'.cell? ⟨BW, 1, none⟩ = some (.int .i64 zv) ∧ w'.cell? ⟨BW, 2, none⟩ = some (.int .i64 zn) ∧ w'.cell? ⟨BW, 3, none⟩ = some (.slice zp kz zc)) := fun w' h => by
    have hlt : BW < w12.heap.size := Nat.lt_of_lt_of_le HBW9.out (Nat.le_trans H911.out.size H1112.out.size)
    have hk := HCH.out.block BW hlt (HNB.out BW (by have := HBA7.out; have := H79.out.size; have := HBWE.out; have := H78S.out; omega))
    have e : ∀ o, w'.cell? ⟨BW, o, none⟩ = w12.cell? ⟨BW, o, none⟩ := fun o => (h.cell (p := ⟨BW, o, none⟩) (Nat.lt_of_lt_of_le hlt HCH.out.size)).trans (World.cell?_of_block (a := ⟨BW, o, none⟩) hk)
    rw [e, e, e, e]
    exact HCBW.out w12 (H911.out.trans (H1112.out.mono H911.out.size))
  have HCB13 : Hid (∀ w', Below w13.heap.size w13 w' → w'.cell? ⟨BB, 0, none⟩ = some (.int .i64 bo) ∧ w'.cell? ⟨BB, 1, none⟩ = some (.int .i64 bv) ∧ w'.cell? ⟨BB, 2, none⟩ = some (.int .i64 bn) ∧ w'.cell? ⟨BB, 3, none⟩ = some (.slice bp kb bc)) := fun w' h => by
    have hlt : BB < w12.heap.size := Nat.lt_of_lt_of_le HBB11.out H1112.out.size
    have hk := HCH.out.block BB hlt (HNB.out BB (by have := HBA7.out; have := H79.out.size; have := HBBE.out; have := H910S.out; omega))
    have e : ∀ o, w'.cell? ⟨BB, o, none⟩ = w12.cell? ⟨BB, o, none⟩ := fun o => (h.cell (p := ⟨BB, o, none⟩) (Nat.lt_of_lt_of_le hlt HCH.out.size)).trans (World.cell?_of_block (a := ⟨BB, o, none⟩) hk)
    rw [e, e, e, e]
    exact HCBB.out w12 H1112.out
  have HB13 := hide' (HBW5.out.trans (H513.out.mono HBW5.out.size))
  have HO13 := hide' (HO5.out.below H513.out)
  clear hsp KS HCH HNB HVO12 HZO12 HGD7 HCBW HCBB HCBA HGF HGL HGE HGT H712 H711 H911 H1112 H79 H59 HBLK HBA7 HBAE HBWE HBBE HBW9 HBB11 H56S H78S H910S HVF HZF
  obtain ⟨q0, q1, q2, q3⟩ := HCBM.out w13 H513.out
  obtain ⟨q4, q5, q6, q7⟩ := HBX.out w13 HB13.out
  have K2 := hide' (klSame y (.mk xo xv xn xp xc xl) w13 (by rw [HC.out, HCX.out]) HO13.out (HOX.out.below (HUP.out _ HB13.out)))
  rw [HY.out, HXE.out] at K2
  go_wp2_with fail
  refine K2.out.mono ?_
  rintro r w14 ⟨rfl, hg⟩
  have HVO14 := hide' (hg.ok HVO13.out)
  have HZO14 := hide' (hg.ok HZO13.out)
  have H1314 := hide' hg.below
  clear hg q0 q1 q2 q3 q4 q5 q6 q7 HVO13 HZO13 K2
  obtain ⟨q0, q1, q2, q3⟩ := HCB13.out w14 H1314.out
  obtain ⟨q4, q5, q6, q7⟩ := HCW13.out w14 H1314.out
  go_wp2_with fail
  refine (K.out w14 HVO14.out HZO14.out).mono ?_
  rintro r w15 ⟨rfl, hg⟩
  have H1315 := hide' (H1314.out.trans (hg.below.mono H1314.out.size))
  clear hg q0 q1 q2 q3 q4 q5 q6 q7 HVO14 HZO14 K H1314 HCB13 HCW13
  have H515 := hide' (H513.out.trans (H1315.out.mono H513.out.size))
  have HB15 := hide' (HBW5.out.trans (H515.out.mono HBW5.out.size))
  have K := hide' (lawEqual14 (.slice p4 nv c4) (.slice pv nv cv) vs w15 (HT5.out.below H515.out) (HTV.out.below (HUP.out _ HB15.out)))
  clear H513 H1315 HB13
  go_wp2_with fail
  refine K.out.mono ?_
  rintro r w16 ⟨rfl, hb⟩
  have H516 := hide' (H515.out.trans (hb.mono H515.out.size))
  clear hb K H515 HB15 HT5 HTV
  obtain ⟨q0, q1, q2, q3⟩ := HCBM.out w16 H516.out
  have K := hide' (YV2.out y w16 (HO5.out.below H516.out) HC.out)
  rw [HY.out] at K
  go_wp2_with fail
  refine K.out.mono ?_
  rintro r w17 ⟨vx, rfl, HX, hb⟩
  have H1617 := hide' hb.out
  have H517 := hide' (H516.out.trans (hb.out.mono H516.out.size))
  clear q0 q1 q2 q3 hb K
  obtain ⟨px, cx, hfx, fx1, fx2⟩ := Kl.owns_sl HX.out
  subst hfx
  obtain ⟨q0, q1, q2, q3⟩ := HCBM.out w17 H517.out
  have K := hide' (YV2.out y w17 (HO5.out.below H517.out) HC.out)
  rw [HY.out] at K
  go_wp2_with fail
  refine K.out.mono ?_
  rintro r w18 ⟨vy, rfl, HYR, hb⟩
  have H1618 := hide' (H1617.out.trans (hb.out.mono H1617.out.size))
  have HX18 := hide' (Kl.owns_bel HX.out hb.out)
  have HX17 : Hid (∀ q, (Value.slice px nr cx).ownBlock = some q → q < w17.heap.size) := fun q hq => (Kl.owns_lt HX.out hq).2
  have H1718 := hide' hb.out.size
  obtain ⟨py, cy, hfy, fy1, fy2⟩ := Kl.owns_sl HYR.out
  subst hfy
  clear q0 q1 q2 q3 hb K HX
  have g1 : (e1 != e1) = false := by simp
  have g2 : ((nr : Int) != (nr : Int)) = false := by simp
  go_wp2_with fail
  go_loopw [84] (fun u wr => ∃ (i : Nat) (L : List Int), u = .int .i64 i ∧ i ≤ nr ∧ Hid (wr.ownsRow w16.heap.size 3 1 (.slice px nr cx) nr (Kl.ic L)) ∧ Hid (L.length = nr) ∧ Hid (wr.ownsRow w17.heap.size 3 1 (.slice py nr cy) nr (Kl.ic R)) ∧ Hid (Below w16.heap.size w16 wr) ∧ Hid (w17.heap.size ≤ wr.heap.size)) (fun u _ => nr - (RowKit.intOf u).toNat)
  case atStart => exact ⟨0, R, rfl, Nat.zero_le _, HX18, HNR, HYR, H1618, H1718⟩
  case round =>
    clear HX18 HYR H1618 H1718
    obtain ⟨i, L, rfl, hi1, HX, HLN, HYR, H16, H17⟩ := hrel
    by_cases hlt : i < nr
    · have t1 : (i : Int) < (nr : Int) := by omega
      obtain ⟨u, hu⟩ : ∃ u, (Kl.ic L)[i]? = some u := ⟨_, List.getElem?_eq_getElem (by have := HX.out.1; omega)⟩
      obtain ⟨gx, hpx, cxx, fzx, bx, _⟩ := Kl.owns_cell HX.out hu
      subst hpx
      have fz := fzx i
      have HS := hide' (HX.out.stored i (.int .i64 (-1)))
      have HGX := hide' (HX17.out gx rfl)
      have HBXG := hide' bx
      clear fzx bx
      go_wp2_with fail
      go_roundw
      case rel => exact ⟨i + 1, L.set i (-1), by go_num, by omega, by rw [Kl.ic_set]; exact HS.out.1, by show (L.set i (-1)).length = nr; rw [List.length_set]; exact HLN.out, Kl.owns_blk HYR.out (fun q hq => Below.heap_setCell _ _ _ _ (by have := (Kl.owns_lt HYR.out hq).1; have := HGX.out; show q ≠ gx; omega)), H16.out.setCell (p := ⟨gx, i, none⟩) HBXG.out _, by have := H17.out; show _ ≤ _; simpa using this⟩
      case measure => simp [RowKit.intOf]; omega
    · have t1 : ¬ (i : Int) < (nr : Int) := by omega
      have hz16 : w16.heap.size ≤ wr.heap.size := H16.out.size
      have hz17 : w17.heap.size ≤ wr.heap.size := H17.out
      go_wp2_with (first | (at_builtin; refine wpList_append_own_at _ rfl (.tmp 91) (.tmp 92) 39 rfl w16.heap.size 3 i0 (.int .i64 0) 1 8 Try.underlying39 hi hz0 hz1 hz2 rfl (by decide) _ _ _ rfl (Kl.owns_bel HX.out ((Below.refl _ _).alloc (Nat.le_refl _) _)) ⟨wr.heap.size, 0, none⟩ 3 3 [.int .i64 7, .int .i64 7, .int .i64 7] rfl rfl ?d1 ?d2 ?d3 ?d4 ?d5 ?_))
      case d2 => rfl
      case d3 => unfold maxLen; omega
      case d4 => omega
      case d5 => omega
      intro v1 w19 hown1 hg1 _ hat1
      have HYR19 : Hid (w19.ownsRow w17.heap.size 3 1 (.slice py nr cy) nr (Kl.ic R)) := Kl.owns_blk HYR.out fun q hq => by
        obtain ⟨l1, l2⟩ := Kl.owns_lt HYR.out hq
        rw [hg1.block q (by simp; omega) fun e => by have := HX17.out q e.symm; omega]
        exact ((Below.refl _ _).alloc (Nat.le_refl _) _).block q l2
      have HL19 := hide' hown1
      have H1619 : Hid (Below w16.heap.size w16 w19) := (H16.out.alloc hz16 _).grown hg1 (by simp; omega) fun q hq => (Kl.owns_lt HX.out hq).1
      have HA19 : Hid (∀ q, v1.ownBlock = some q → q < w17.heap.size ∨ q = wr.heap.size + 1) := fun q hq => by
        rcases hat1 with e | e
        · exact .inl (HX17.out q (e ▸ hq))
        · rw [e] at hq; simp at hq; exact .inr hq.symm
      have hs19 : wr.heap.size + 1 ≤ w19.heap.size := by have := hg1.size; simpa using this
      have HYL : Hid (∀ q, (Value.slice py nr cy).ownBlock = some q → w17.heap.size ≤ q ∧ q < wr.heap.size) := fun q hq => Kl.owns_lt HYR.out hq
      obtain ⟨p1, c1, hf1, k1a, k1b⟩ := Kl.owns_sl hown1
      subst hf1
      clear hown1 hg1 hat1 HX HYR HX17
      go_wp2_with (first | (at_builtin; refine wpList_append_keep rfl (.tmp 94) (.tmp 95) 39 rfl w17.heap.size 3 i0 (.int .i64 0) 8 Try.underlying39 hi hz0 hz1 hz2 rfl _ _ _ rfl (Kl.owns_bel HYR19.out ((Below.refl _ _).alloc (Nat.le_refl _) _)) ⟨w19.heap.size, 0, none⟩ 3 3 [.int .i64 8, .int .i64 8, .int .i64 8] rfl rfl ?f1 ?f2 ?f3 ?f4 ?f5 ?_))
      case f1 => exact Kl.row3_news w19 8 _
      case f2 => intro u hu; simp at hu; subst hu; rfl
      case f3 => unfold maxLen; omega
      case f4 => omega
      case f5 => simp; omega
      intro v2 w20 hown2 hg2 hkeep _
      have HL20 : Hid (w20.ownsRow w16.heap.size 3 1 (.slice p1 (nr + 3) c1) (nr + 3) (Kl.ic L ++ [.int .i64 7, .int .i64 7, .int .i64 7])) := Kl.owns_blk HL19.out fun q hq => by
        obtain ⟨l1, l2⟩ := Kl.owns_lt HL19.out hq
        rw [hg2.block q (by simp; omega) fun e => by
          have h1 := HYL.out q e.symm
          rcases HA19.out q hq with h2 | h2 <;> omega]
        exact ((Below.refl _ _).alloc (Nat.le_refl _) _).block q l2
      have HM20 := hide' hown2
      have HY20 := hide' hkeep
      have H1620 : Hid (Below w16.heap.size w16 w20) := (H1619.out.alloc H1619.out.size _).grown hg2 (by simp; have := H1619.out.size; omega) fun q hq => by
        have := (HYL.out q hq).1
        have := H1617.out.size
        omega
      obtain ⟨p2, c2, hf2, k2a, k2b⟩ := Kl.owns_sl hown2
      subst hf2
      clear hown2 hg2 hkeep HYR19 HL19 HA19 HYL H1619
      have H520 := hide' (H516.out.trans (H1620.out.mono H516.out.size))
      obtain ⟨q0, q1, q2, q3⟩ := HCBM.out w20 H520.out
      have K := hide' (YV2.out y w20 (HO5.out.below H520.out) HC.out)
      rw [HY.out] at K
      go_wp2_with fail
      refine K.out.mono ?_
      rintro r w21 ⟨vz, rfl, HZR, hb⟩
      have H1621 := hide' (H1620.out.trans (hb.out.mono H1620.out.size))
      have H521 := hide' (H516.out.trans (H1621.out.mono H516.out.size))
      have HL21 := hide' (Kl.owns_bel HL20.out hb.out)
      have HM21 := hide' (Kl.owns_bel HM20.out hb.out)
      have HY21 := hide' (Kl.owns_bel HY20.out hb.out)
      have HB21 := hide' (HBW5.out.trans (H521.out.mono HBW5.out.size))
      obtain ⟨pz, cz, hfz, fz1, fz2⟩ := Kl.owns_sl HZR.out
      subst hfz
      clear q0 q1 q2 q3 hb K HL20 HM20 HY20 H1620 H520
      go_wp2_with fail
      go_loopw [124] (fun u wr => ∃ i : Nat, u = .int .i64 i ∧ i ≤ nr ∧ ∃ k, wr = w21.drewN k) (fun u _ => nr - (RowKit.intOf u).toNat)
      case atStart => exact ⟨0, rfl, Nat.zero_le _, 0, rfl⟩
      case round =>
        obtain ⟨i9, rfl, hi9, k9, hk9⟩ := hrel
        by_cases hlt9 : i9 < nr
        · have t9 : (i9 : Int) < (nr : Int) := by omega
          obtain ⟨r9, hr9⟩ := Kl.some_of (l := R) (i := i9) (by rw [HNR.out]; exact hlt9)
          have hic : (Kl.ic R)[i9]? = some (.int .i64 r9) := by unfold Kl.ic; rw [List.getElem?_map, hr9]; rfl
          have hr0 : 0 ≤ r9 := HRR.out r9 (List.mem_of_getElem? hr9)
          obtain ⟨ga, rfl, ca9, _, _, _⟩ := Kl.owns_cell HY21.out hic
          obtain ⟨gb, rfl, cb9, _, _, _⟩ := Kl.owns_cell HZR.out hic
          have ca : wr.cell? ⟨ga, i9, none⟩ = some (.int .i64 r9) := by rw [hk9]; exact ca9
          have cb : wr.cell? ⟨gb, i9, none⟩ = some (.int .i64 r9) := by rw [hk9]; exact cb9
          have e9 : (r9 != r9) = false := by simp
          have n9 : ¬ r9 < 0 := by omega
          have n9' : decide (r9 < 0) = false := decide_eq_false n9
          have HK9 := hide' hk9
          clear hic hr9 ca9 cb9 hk9 hr0
          go_wp2_with fail
          go_quiet (fail)
          go_wp2_with fail
          go_roundw
          case rel => exact ⟨i9 + 1, by go_num, by omega, _, by rw [HK9.out, World.drewN_drewN]⟩
          case measure => simp [RowKit.intOf]; omega
        · have t9 : ¬ (i9 : Int) < (nr : Int) := by omega
          have HLL : Hid ((Kl.ic L).length = nr) := by show _ = _; unfold Kl.ic; rw [List.length_map, HLN.out]
          have HRL2 : Hid ((Kl.ic R).length = nr) := by show _ = _; unfold Kl.ic; rw [List.length_map, HNR.out]
          obtain ⟨ga, rfl, a7, _, _, _⟩ := Kl.owns_cell HL21.out (j := nr) (u := .int .i64 7) (by rw [List.getElem?_append_right (by rw [HLL.out]; exact Nat.le_refl _), HLL.out]; simp)
          obtain ⟨_, e7, a9, _, _, _⟩ := Kl.owns_cell HL21.out (j := nr + 2) (u := .int .i64 7) (by rw [List.getElem?_append_right (by rw [HLL.out]; omega), HLL.out]; simp)
          cases e7
          obtain ⟨gb, rfl, b7, _, _, _⟩ := Kl.owns_cell HM21.out (j := nr) (u := .int .i64 8) (by rw [List.getElem?_append_right (by rw [HRL2.out]; exact Nat.le_refl _), HRL2.out]; simp)
          obtain ⟨_, e8, b9, _, _, _⟩ := Kl.owns_cell HM21.out (j := nr + 2) (u := .int .i64 8) (by rw [List.getElem?_append_right (by rw [HRL2.out]; omega), HRL2.out]; simp)
          cases e8
          have x7 : wr.cell? ⟨ga, nr, none⟩ = some (.int .i64 7) := by rw [hk9]; exact a7
          have x9 : wr.cell? ⟨ga, nr + 2, none⟩ = some (.int .i64 7) := by rw [hk9]; exact a9
          have y7 : wr.cell? ⟨gb, nr, none⟩ = some (.int .i64 8) := by rw [hk9]; exact b7
          have y9 : wr.cell? ⟨gb, nr + 2, none⟩ = some (.int .i64 8) := by rw [hk9]; exact b9
          have HK9 := hide' hk9
          have l7 : (nr : Int) < ((nr + 3 : Nat) : Int) := by omega
          have l9 : (nr : Int) + 2 < ((nr + 3 : Nat) : Int) := by omega
          clear a7 a9 b7 b9 hk9
          go_wp2_with fail
          go_ret
          refine ⟨rfl, HUP.out _ (HB21.out.trans ?_)⟩
          rw [HK9.out]
          exact Below.mono (B := w21.heap.size) ⟨rfl, rfl, rfl, Nat.le_refl _, fun _ _ => rfl⟩ HB21.out.size
end Go.Proofs.Ytmpmlccomgepjaa
