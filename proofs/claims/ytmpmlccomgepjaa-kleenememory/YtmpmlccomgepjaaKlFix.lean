/-
  WALKS over kleene.Simplify and gimletlaw14.fixed.
-/
import Derived.Test.YtmpmlccomgepjaaKlSim
import Derived.BigGuard
namespace Go.Proofs.Ytmpmlccomgepjaa
open Go.RowKit Go.Lib Go.Sort
namespace Kl
/-- what Simplify answers of a formula -/
def SimE (w : World) (f : Fm) (r : Ending) (w' : World) : Prop :=
  ∃ (y : Fv) (yo yv yn : Int) (yp : Option Addr) (ky yc : Nat), r = .returned (.tuple #[.agg #[.int .i64 yo, .int .i64 yv, .int .i64 yn, .slice yp ky yc], .int .i64 0]) ∧ Hid (y.enc = [.int .i64 yo, .int .i64 yv, .int .i64 yn, .slice yp ky yc]) ∧ Hid (Lo w' y ∧ ct y = f ∧ (∀ b ∈ fp y, w.heap.size ≤ b) ∧ Below w.heap.size w w')
end Kl
set_option maxRecDepth 100000 in
set_option maxHeartbeats 4000000 in
theorem klSimplify (x : Kl.Fv) (vv : Value) (vs : List Int) (w : World) (hx : Kl.Ok w x) (hv : Kl.Ts w vv vs) (hs : Kl.sz (Kl.ct x) ≤ 1048576) (hg : Kl.goodL vs = true) (hF : Kl.isF (Kl.ct x) 131072 = true) :
    Calls Try.prog 8 #[.agg x.enc.toArray, vv] w fun r w' => Kl.SimE w (Kl.ord (Kl.lse vs (Kl.ct x))) r w' := by
  have cC := fun W (hb : Below w.heap.size w W) => klCheckWith x vv vs W (hx.below hb) (hv.below hb)
  rw [hg, hF] at cC
  have cL := fun W (hb : Below w.heap.size w W) => (klLoose x W vv vs 131072 (hx.below hb) (hv.below hb) hF hs).mono fun r w' h => h.ans
  have hls : Kl.sz (Kl.lse vs (Kl.ct x)) ≤ 1048576 := Nat.le_trans (Kl.lse_sz vs _) hs
  obtain ⟨f, hf⟩ : ∃ f, Kl.lse vs (Kl.ct x) = f := ⟨_, rfl⟩
  simp only [hf] at cL hls ⊢
  have cO : ∀ w1 w2 y, Kl.Lo w2 y ∧ Kl.ct y = f ∧ (∀ b ∈ Kl.fp y, w1.heap.size ≤ b) ∧ Below w1.heap.size w1 w2 → Calls Try.prog 17 #[.agg y.enc.toArray] w2 fun r w' => Kl.Ans (Kl.ord f) w1 r w' := fun w1 w2 y h => (klOrdered y w2 h.1 (by rw [h.2.1]; exact hls)).mono fun r w' hd => by
    obtain ⟨z, z1, z2, z3, z4, z5⟩ := hd
    obtain ⟨zo, zv, zn, zp, zc, zl⟩ := z
    exact ⟨.mk zo zv zn zp zc zl, zo, zv, zn, zp, zl.length, zc, z1, rfl, z2, by rw [z3, h.2.1], fun b hb => h.2.2.1 b (z4 b hb), h.2.2.2.trans (z5.below h.2.2.1 h.2.2.2.size)⟩
  obtain ⟨xo, xv, xn, xp, xc, xl⟩ := x
  obtain ⟨kx, hkx⟩ : ∃ k, xl.length = k := ⟨_, rfl⟩
  have ex : (Kl.Fv.mk xo xv xn xp xc xl).enc.toArray = #[.int .i64 xo, .int .i64 xv, .int .i64 xn, .slice xp kx xc] := by simp only [Kl.Fv.enc, hkx]
  obtain ⟨pv, cv, rfl, _⟩ := hv
  obtain ⟨nv, hnv⟩ : ∃ nv, vs.length = nv := ⟨_, rfl⟩
  simp only [ex, hnv] at cC cL ⊢
  obtain ⟨W, hWd⟩ : ∃ W, (w.alloc (.cells #[.int .i64 xo, .int .i64 xv, .int .i64 xn, .slice xp kx xc] 26)).alloc (.cells #[.int .i64 0, .int .i64 0, .int .i64 0, .slice none 0 0] 26) = W := ⟨_, rfl⟩
  have HBW : Hid (Below w.heap.size w W) := by rw [← hWd]; exact ((Below.refl _ _).alloc (Nat.le_refl _) _).alloc (by simp) _
  have SZW : Hid (W.heap.size = w.heap.size + 2) := by show W.heap.size = _; rw [← hWd]; simp
  have HB0 : Hid (W.cell? ⟨w.heap.size, 0, none⟩ = some (.int .i64 xo) ∧ W.cell? ⟨w.heap.size, 1, none⟩ = some (.int .i64 xv) ∧ W.cell? ⟨w.heap.size, 2, none⟩ = some (.int .i64 xn) ∧ W.cell? ⟨w.heap.size, 3, none⟩ = some (.slice xp kx xc)) := by rw [← hWd]; refine ⟨?_, ?_, ?_, ?_⟩ <;> simp
  have HD : Hid (W.cell? ⟨w.heap.size + 1, 0, none⟩ = some (.int .i64 0) ∧ W.cell? ⟨w.heap.size + 1, 1, none⟩ = some (.int .i64 0) ∧ W.cell? ⟨w.heap.size + 1, 2, none⟩ = some (.int .i64 0) ∧ W.cell? ⟨w.heap.size + 1, 3, none⟩ = some (.slice none 0 0)) := by rw [← hWd]; refine ⟨?_, ?_, ?_, ?_⟩ <;> simp
  have HF : Hid (∀ o, W.frozen? ⟨w.heap.size + 1, o, none⟩ = false) := fun o => by rw [← hWd]; simp
  have HWd := hide' hWd
  have CC := hide' cC
  have CL := hide' cL
  have CO := hide' cO
  clear cC cL cO hf hls hWd hx hs hg hF hkx ex hnv
  go_enter Try.func8, Try.ntmps8
  go_wp2_with fail
  rw [HWd.out]
  refine (CC.out W HBW.out).mono ?_
  rintro r w1 ⟨hr, hg1⟩
  obtain rfl : r = .returned (.int .i64 0) := hr
  obtain ⟨k0, k1, k2, k3⟩ := HB0.out
  have b0 := hg1.cell k0
  have b1 := hg1.cell k1
  have b2 := hg1.cell k2
  have b3 := hg1.cell k3
  have HG1 := hide' hg1
  clear hg1 k0 k1 k2 k3
  go_wp2_with fail
  refine (CL.out w1 (HBW.out.trans (HG1.out.below.mono HBW.out.size))).mono ?_
  rintro r w2 ⟨y, yo, yv, yn, yp, ky, yc, rfl, HYE, HY⟩
  clear b0 b1 b2 b3
  go_wp2_with fail
  have cO2 := CO.out w1 w2 y HY.out
  rw [HYE.out] at cO2
  refine cO2.mono ?_
  rintro r w3 ⟨z, zo, zv, zn, zp, kz, zc, rfl, HZE, HZ⟩
  have hb3 : Below W.heap.size W w3 := HG1.out.below.trans (HZ.out.2.2.2.mono HG1.out.below.size)
  obtain ⟨rc, rf⟩ := Kl.bc hb3
  have hsw := SZW.out
  obtain ⟨k0, k1, k2, k3⟩ := HD.out
  have d0 := (rc (w.heap.size + 1) 0 (by omega)).trans k0
  have d1 := (rc (w.heap.size + 1) 1 (by omega)).trans k1
  have d2 := (rc (w.heap.size + 1) 2 (by omega)).trans k2
  have d3 := (rc (w.heap.size + 1) 3 (by omega)).trans k3
  have d4 : ∀ o, w3.frozen? ⟨w.heap.size + 1, o, none⟩ = false := fun o => (rf (w.heap.size + 1) o (by omega)).trans (HF.out o)
  have HB3 := hide' hb3
  clear cO2 hb3 rc rf hsw k0 k1 k2 k3
  go_wp2_with fail
  refine bodyPost_ret (v := .tuple #[.agg #[.int .i64 zo, .int .i64 zv, .int .i64 zn, .slice zp kz zc], .int .i64 0]) (by simp [results, Try.results8, go_sem, d0, d1, d2, d3]) rfl ?_
  obtain ⟨y', e1, e2, e3, e4, e5⟩ := Kl.fin4 HBW.out SZW.out HB3.out HZ.out.1 HZ.out.2.1 (fun b hb => Nat.le_trans HG1.out.below.size (HZ.out.2.2.1 b hb)) (.int .i64 zo) (.int .i64 zv) (.int .i64 zn) (.slice zp kz zc)
  have hye : y'.enc = z.enc := by
    have := Ending.returned.inj e1
    simp only [Value.agg.injEq] at this
    exact (List.toArray_inj this).symm
  exact ⟨y', zo, zv, zn, zp, kz, zc, rfl, by show y'.enc = _; rw [hye]; exact HZE.out, e2, e3, e4, e5⟩
namespace Kl
def fx0 : Fm := .mk 3 0 0 [.mk 1 0 1 [], .mk 1 0 0 [], .mk 1 0 1 []]
theorem fx_lse : lse [] fx0 = fx0 := by
  simp [fx0, lse, lses, varF, valL, ofM, isC, Fm.op, lft, rst, jnd, spread, sprd, ord, ord1, dif, cmpF, cmpL, fst3, compareInt]
theorem fx_ord : ord fx0 = .mk 3 0 0 [.mk 1 0 0 [], .mk 1 0 1 []] := by
  simp [fx0, ord, ord1, Fm.op, Fm.ar, Fm.va, Fm.vr, sr, put, cmpF, cmpL, fst3, compareInt]
theorem fx_is : isF fx0 131072 = true := by
  simp [fx0, isF, areF]
theorem fx_sz : sz fx0 ≤ 1048576 := by simp [fx0, sz, szs]
end Kl
/-- gimletlaw14.fixed answers true -/
def Kl.Fixed (w : World) : Prop := Calls Try.prog 5 #[] w fun r w' => r = .returned (.bool true) ∧ Below w.heap.size w w'
set_option maxRecDepth 100000 in
set_option maxHeartbeats 4000000 in
theorem klFixed (w : World) : Kl.Fixed w := by
  have cS : ∀ W, W.cell? ⟨w.heap.size, 0, none⟩ = some (.int .i64 1) ∧ W.cell? ⟨w.heap.size, 1, none⟩ = some (.int .i64 0) ∧ W.cell? ⟨w.heap.size, 2, none⟩ = some (.int .i64 1) ∧ W.cell? ⟨w.heap.size, 3, none⟩ = some (.slice none 0 0) ∧ W.cell? ⟨w.heap.size, 4, none⟩ = some (.int .i64 1) ∧ W.cell? ⟨w.heap.size, 5, none⟩ = some (.int .i64 0) ∧ W.cell? ⟨w.heap.size, 6, none⟩ = some (.int .i64 0) ∧ W.cell? ⟨w.heap.size, 7, none⟩ = some (.slice none 0 0) ∧ W.cell? ⟨w.heap.size, 8, none⟩ = some (.int .i64 1) ∧ W.cell? ⟨w.heap.size, 9, none⟩ = some (.int .i64 0) ∧ W.cell? ⟨w.heap.size, 10, none⟩ = some (.int .i64 1) ∧ W.cell? ⟨w.heap.size, 11, none⟩ = some (.slice none 0 0) →
      Calls Try.prog 8 #[.agg #[.int .i64 3, .int .i64 0, .int .i64 0, .slice (some ⟨w.heap.size, 0, none⟩) 3 3], .slice none 0 0] W fun r w' => Kl.SimE W (.mk 3 0 0 [.mk 1 0 0 [], .mk 1 0 1 []]) r w' := fun W hW => by
    obtain ⟨h0, h1, h2, h3, h4, h5, h6, h7, h8, h9, h10, h11⟩ := hW
    have hok : Kl.Ok W (.mk 3 0 0 (some ⟨w.heap.size, 0, none⟩) 3 [.mk 1 0 1 none 0 [], .mk 1 0 0 none 0 [], .mk 1 0 1 none 0 []]) := by
      refine Kl.Ok.mk' (by simp) (by omega) fun _ => ⟨_, 0, rfl, fun i x hx => ?_⟩
      match i, hx with
      | 0, hx =>
        simp at hx; subst hx
        refine ⟨fun j v hj => ?_, Kl.Ok.leaf _ _ _ _⟩
        match j, hj with
        | 0, hj => simp [Kl.Fv.enc] at hj; subst hj; exact h0
        | 1, hj => simp [Kl.Fv.enc] at hj; subst hj; exact h1
        | 2, hj => simp [Kl.Fv.enc] at hj; subst hj; exact h2
        | 3, hj => simp [Kl.Fv.enc] at hj; subst hj; exact h3
        | j + 4, hj => simp [Kl.Fv.enc] at hj
      | 1, hx =>
        simp at hx; subst hx
        refine ⟨fun j v hj => ?_, Kl.Ok.leaf _ _ _ _⟩
        match j, hj with
        | 0, hj => simp [Kl.Fv.enc] at hj; subst hj; exact h4
        | 1, hj => simp [Kl.Fv.enc] at hj; subst hj; exact h5
        | 2, hj => simp [Kl.Fv.enc] at hj; subst hj; exact h6
        | 3, hj => simp [Kl.Fv.enc] at hj; subst hj; exact h7
        | j + 4, hj => simp [Kl.Fv.enc] at hj
      | 2, hx =>
        simp at hx; subst hx
        refine ⟨fun j v hj => ?_, Kl.Ok.leaf _ _ _ _⟩
        match j, hj with
        | 0, hj => simp [Kl.Fv.enc] at hj; subst hj; exact h8
        | 1, hj => simp [Kl.Fv.enc] at hj; subst hj; exact h9
        | 2, hj => simp [Kl.Fv.enc] at hj; subst hj; exact h10
        | 3, hj => simp [Kl.Fv.enc] at hj; subst hj; exact h11
        | j + 4, hj => simp [Kl.Fv.enc] at hj
      | i + 3, hx => simp at hx
    have hct : Kl.ct (.mk 3 0 0 (some ⟨w.heap.size, 0, none⟩) 3 [.mk 1 0 1 none 0 [], .mk 1 0 0 none 0 [], .mk 1 0 1 none 0 []]) = Kl.fx0 := by simp [Kl.ct, Kl.cts, Kl.fx0]
    have := klSimplify _ (.slice none 0 0) [] W hok (Kl.Ts.none W) (by rw [hct]; exact Kl.fx_sz) rfl (by rw [hct]; exact Kl.fx_is)
    rw [hct, Kl.fx_lse, Kl.fx_ord] at this
    exact this
  have cA := fun W B (h0 : W.cell? ⟨B, 0, none⟩ = some (.int .i64 2)) (h1 : W.cell? ⟨B, 1, none⟩ = some (.int .i64 1)) => klAnd (.slice (some ⟨B, 0, none⟩) 2 2) [2, 1] W ⟨_, 2, rfl, by simp, by omega, fun _ => ⟨B, 0, rfl, fun i x hx => by
    match i, hx with
    | 0, hx => simp at hx; subst hx; exact h0
    | 1, hx => simp at hx; subst hx; exact h1
    | i + 2, hx => simp at hx⟩⟩
  have eA : Kl.andL [2, 1] = 1 := by decide
  have eN : Kl.notT 0 = 2 := by decide
  have cN := fun W => klNot 0 W
  simp only [eA] at cA
  simp only [eN] at cN
  have CS := hide' cS
  have CA := hide' cA
  have CN := hide' cN
  clear cS cA cN eA eN
  unfold Kl.Fixed
  go_enter Try.func5, Try.ntmps5
  go_wp2_with fail
  refine (CS.out _ ?_).mono ?_
  · refine ⟨?_, ?_, ?_, ?_, ?_, ?_, ?_, ?_, ?_, ?_, ?_, ?_⟩ <;> simp
  rintro r w1 ⟨y, yo, yv, yn, yp, ky, yc, rfl, HYE, HY⟩
  obtain ⟨b, o, rfl, rfl, f0, f1⟩ : ∃ b o, yp = some ⟨b, o, none⟩ ∧ ky = 2 ∧ w1.cell? ⟨b, o + 2, none⟩ = some (.int .i64 0) ∧ w1.cell? ⟨b, o + 4 + 2, none⟩ = some (.int .i64 1) := by
    have hok := HY.out.1.ok
    have hct := HY.out.2.1
    have hye := HYE.out
    obtain ⟨zo, zv, zn, zp, zc, zl⟩ := y
    rw [Kl.ct_mk] at hct
    simp only [Kl.Fm.mk.injEq] at hct
    obtain ⟨_, _, _, hl⟩ := hct
    match zl, hl with
    | [a, b'], hl =>
      simp only [List.map_cons, List.map_nil, List.cons.injEq, and_true] at hl
      obtain ⟨ha, hb⟩ := hl
      obtain ⟨_, _, k⟩ := hok.row
      obtain ⟨b, o, e, k⟩ := k (by simp)
      simp only [Kl.Fv.enc, List.cons.injEq, Value.slice.injEq, and_true] at hye
      obtain ⟨_, _, _, e1, e2, _⟩ := hye
      obtain ⟨ao, av, an, ap, ac, al⟩ := a
      obtain ⟨bo, bv, bn, bp, bc, bl⟩ := b'
      rw [Kl.ct_mk] at ha hb
      simp only [Kl.Fm.mk.injEq] at ha hb
      have q0 := (Kl.cells4 (k 0 _ rfl).1).2.2.1
      have q1 := (Kl.cells4 (k 1 _ rfl).1).2.2.1
      rw [ha.2.2.1] at q0
      rw [hb.2.2.1] at q1
      refine ⟨b, o, by rw [← e1, e], by rw [← e2]; rfl, ?_, ?_⟩
      · simpa using q0
      · simpa using q1
    | [], hl => simp at hl
    | [a], hl => simp at hl
    | a :: b :: c :: l, hl => simp at hl
  have hz := HY.out.2.2.2.size
  simp only [World.size_alloc] at hz
  have HBB := hide' HY.out.2.2.2
  have hb1 : b < w1.heap.size := block_lt_of_cell f0
  clear HYE HY
  go_wp2_with (first | (go_at_call 14; refine (CA.out _ _ (by simp) (by simp)).mono ?_; rintro r w2 ⟨rfl, rfl⟩) | (go_at_call 15; refine (CN.out _).mono ?_; rintro r w2 ⟨rfl, rfl⟩))
  go_ret
  have hbw : Below w.heap.size w ((w.alloc (.cells #[.int .i64 1, .int .i64 0, .int .i64 1, .slice none 0 0, .int .i64 1, .int .i64 0, .int .i64 0, .slice none 0 0, .int .i64 1, .int .i64 0, .int .i64 1, .slice none 0 0] 26)).alloc (.cells #[.int .i64 3, .int .i64 0, .int .i64 0, .slice (some ⟨w.heap.size, 0, none⟩) 3 3] 26)) := ((Below.refl _ _).alloc (Nat.le_refl _) _).alloc (by simp) _
  exact ⟨rfl, ((hbw.trans (HBB.out.mono (by simp; omega))).alloc (by omega) _).alloc (by simp; omega) _⟩
end Go.Proofs.Ytmpmlccomgepjaa
