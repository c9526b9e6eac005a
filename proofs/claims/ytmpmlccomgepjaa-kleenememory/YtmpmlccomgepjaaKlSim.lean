/-
  WALKS over kleene.loose, at any formula, and kleene.Simplify.
-/
import Derived.Test.YtmpmlccomgepjaaKlLoo
namespace Go.Proofs.Ytmpmlccomgepjaa
open Go.RowKit Go.Lib Go.Sort
namespace Kl
/-- an answer, cell by cell -/
def Ans (f : Fm) (W : World) (r : Ending) (w' : World) : Prop := ∃ (y : Fv) (yo yv yn : Int) (yp : Option Addr) (ky yc : Nat), r = .returned (.agg #[.int .i64 yo, .int .i64 yv, .int .i64 yn, .slice yp ky yc]) ∧ Hid (y.enc = [.int .i64 yo, .int .i64 yv, .int .i64 yn, .slice yp ky yc]) ∧ Hid (Lo w' y ∧ ct y = f ∧ (∀ b ∈ fp y, W.heap.size ≤ b) ∧ Below W.heap.size W w')
theorem LseE.ans {f : Fm} {W : World} {r : Ending} {w' : World} (h : LseE W f r w') : Ans f W r w' := by
  obtain ⟨y, h1, h2, h3, h4, h5⟩ := h
  obtain ⟨yo, yv, yn, yp, yc, yl⟩ := y
  exact ⟨.mk yo yv yn yp yc yl, yo, yv, yn, yp, yl.length, yc, h1, rfl, h2, h3, h4, h5⟩
end Kl
set_option maxRecDepth 100000 in
set_option maxHeartbeats 4000000 in
theorem klLoose1 (xo xv xn : Int) (xp : Option Addr) (xc : Nat) (xl : List Kl.Fv) (ih : ∀ a ∈ xl, Kl.LooOf a) : Kl.LooOf (.mk xo xv xn xp xc xl) := by
  intro w vv vs r hx hv hF hs
  rw [Kl.ct_mk] at hF hs ⊢
  have hrow := hx.row
  obtain ⟨kx, hkx⟩ : ∃ k, xl.length = k := ⟨_, rfl⟩
  have ex : (Kl.Fv.mk xo xv xn xp xc xl).enc.toArray = #[.int .i64 xo, .int .i64 xv, .int .i64 xn, .slice xp kx xc] := by simp only [Kl.Fv.enc, hkx]
  simp only [ex]
  have hsz : Kl.szs (xl.map Kl.ct) ≤ 1048576 := by rw [Kl.sz] at hs; omega
  obtain ⟨W, hWd⟩ : ∃ W, (w.alloc (.cells #[.int .i64 xo, .int .i64 xv, .int .i64 xn, .slice xp kx xc] 26)).alloc (.cells #[.int .i64 0, .int .i64 0, .int .i64 0, .slice none 0 0] 26) = W := ⟨_, rfl⟩
  have HBW : Hid (Below w.heap.size w W) := by rw [← hWd]; exact ((Below.refl _ _).alloc (Nat.le_refl _) _).alloc (by simp) _
  have SZW : Hid (W.heap.size = w.heap.size + 2) := by show W.heap.size = _; rw [← hWd]; simp
  have HD0 : Hid (W.cell? ⟨w.heap.size + 1, 0, none⟩ = some (.int .i64 0)) := by show W.cell? _ = _; rw [← hWd]; simp
  have HD1 : Hid (W.cell? ⟨w.heap.size + 1, 1, none⟩ = some (.int .i64 0)) := by show W.cell? _ = _; rw [← hWd]; simp
  have HD2 : Hid (W.cell? ⟨w.heap.size + 1, 2, none⟩ = some (.int .i64 0)) := by show W.cell? _ = _; rw [← hWd]; simp
  have HD3 : Hid (W.cell? ⟨w.heap.size + 1, 3, none⟩ = some (.slice none 0 0)) := by show W.cell? _ = _; rw [← hWd]; simp
  have HF : Hid (∀ o, W.frozen? ⟨w.heap.size + 1, o, none⟩ = false) := fun o => by rw [← hWd]; simp
  have HWd := hide' hWd
  -- behind a call, at the end
  have HEND : Hid (∀ (w1 : World) (y : Kl.Fv) (f : Kl.Fm) (yo yv yn : Int) (yp : Option Addr) (ky yc : Nat), y.enc = [.int .i64 yo, .int .i64 yv, .int .i64 yn, .slice yp ky yc] → Kl.Lo w1 y ∧ Kl.ct y = f ∧ (∀ b ∈ Kl.fp y, W.heap.size ≤ b) ∧ Below W.heap.size W w1 → Kl.LseE w f (.returned (.agg #[.int .i64 yo, .int .i64 yv, .int .i64 yn, .slice yp ky yc])) ((((w1.setCell ⟨w.heap.size + 1, 0, none⟩ (.int .i64 yo)).setCell ⟨w.heap.size + 1, 1, none⟩ (.int .i64 yv)).setCell ⟨w.heap.size + 1, 2, none⟩ (.int .i64 yn)).setCell ⟨w.heap.size + 1, 3, none⟩ (.slice yp ky yc))) := fun w1 y f yo yv yn yp ky yc he h => by
    have hfin := Kl.fin4 HBW.out SZW.out h.2.2.2 h.1 h.2.1 h.2.2.1 (.int .i64 yo) (.int .i64 yv) (.int .i64 yn) (.slice yp ky yc)
    rw [he] at hfin
    exact hfin
  have HFACT : Hid (∀ w1, Below W.heap.size W w1 → w1.cell? ⟨w.heap.size + 1, 0, none⟩ = some (.int .i64 0) ∧ w1.cell? ⟨w.heap.size + 1, 1, none⟩ = some (.int .i64 0) ∧ w1.cell? ⟨w.heap.size + 1, 2, none⟩ = some (.int .i64 0) ∧ w1.cell? ⟨w.heap.size + 1, 3, none⟩ = some (.slice none 0 0) ∧ ∀ o, w1.frozen? ⟨w.heap.size + 1, o, none⟩ = false) := fun w1 hb => by
    obtain ⟨rc, rf⟩ := Kl.bc hb
    have hsw := SZW.out
    exact ⟨(rc (w.heap.size + 1) 0 (by omega)).trans HD0.out, (rc (w.heap.size + 1) 1 (by omega)).trans HD1.out, (rc (w.heap.size + 1) 2 (by omega)).trans HD2.out, (rc (w.heap.size + 1) 3 (by omega)).trans HD3.out, fun o => (rf (w.heap.size + 1) o (by omega)).trans (HF.out o)⟩
  have HTS : Hid (Kl.Ts W vv vs) := hv.below HBW.out
  have HOF : Hid ((∀ x ∈ xl.map Kl.ct, Kl.isF x (r - 1) = true) → ∀ op id st, op = 2 ∨ op = 3 → Calls Try.prog 34 #[.agg #[.int .i64 op, .int .i64 id, .int .i64 st], .slice xp kx xc, vv] W fun r w' => Kl.Ans (Kl.ofM op id st (Kl.lses vs (xl.map Kl.ct))) W r w') := fun hFa op id st ho => by
    have := klOf op id st xp xc xl vv vs W hrow.1 hrow.2.1 (fun h0 => by
      obtain ⟨b, o, e, k⟩ := hrow.2.2 h0
      exact ⟨b, o, e, fun i x hx j u hj => (HBW.out.cell (p := ⟨b, o + i * 4 + j, none⟩) (block_lt_of_cell ((k i x hx).1 j u hj))).trans ((k i x hx).1 j u hj)⟩) HTS.out (fun a ha W' hb => by
      obtain ⟨i, hi⟩ := List.getElem?_of_mem ha
      obtain ⟨b, o, e, k⟩ := hrow.2.2 (by have := (List.getElem?_eq_some_iff.1 hi).1; omega)
      exact ih a ha W' vv vs (r - 1) ((k i a hi).2.below (HBW.out.trans (hb.mono HBW.out.size))) (HTS.out.below hb) (hFa _ (List.mem_map.2 ⟨a, ha, rfl⟩)) (by
        have := Kl.szs_mem (List.mem_map.2 ⟨a, ha, rfl⟩ : Kl.ct a ∈ xl.map Kl.ct); omega)) hsz ho
    rw [hkx] at this
    exact this.mono fun r w' h => h.ans
  obtain ⟨pv, cv, rfl, _⟩ := id hv
  obtain ⟨nv, hnv⟩ : ∃ nv, vs.length = nv := ⟨_, rfl⟩
  rcases Kl.isF_cases hF with e | ⟨e, hn⟩ | ⟨e, hFa⟩ | ⟨e, hl1, hFa⟩
  · subst e
    have hres : Kl.lse vs (.mk 0 xv xn (xl.map Kl.ct)) = Kl.cons xv := by rw [Kl.lse, if_pos rfl]
    rw [hres, hnv]
    clear hres hF hs hrow hsz hWd ih hx hv HOF HTS hnv hkx ex
    go_enter Try.func18, Try.ntmps18
    go_wp2_with fail
    rw [HWd.out]
    refine (klConstant xv W).mono ?_
    rintro r' w1 ⟨rfl, hb1⟩
    obtain ⟨d0, d1, d2, d3, d4⟩ := HFACT.out w1 hb1
    have HB := hide' hb1
    clear hb1
    go_wp2_with fail
    refine bodyPost_ret (v := .agg #[.int .i64 0, .int .i64 xv, .int .i64 0, .slice none 0 0]) (by simp [results, Try.results18, go_sem, d0, d1, d2, d3]) rfl ?_
    exact HEND.out w1 (.mk 0 xv 0 none 0 []) _ _ _ _ _ _ _ rfl ⟨Kl.lo_leaf _ _ _ _ (.inl rfl), by rw [Kl.ct_mk]; rfl, by rw [Kl.fp_leaf]; simp, HB.out⟩
  · subst e
    have hres : Kl.lse vs (.mk 1 xv xn (xl.map Kl.ct)) = Kl.varF xn (Kl.valL vs xn) := by rw [Kl.lse, if_neg (by decide), if_pos rfl]
    rw [hres]
    exact klLooVar xv xn xp kx xc w _ vs hv hn
  · have hres : Kl.lse vs (.mk xo xv xn (xl.map Kl.ct)) = if xo = 2 then Kl.ofM 2 2 0 (Kl.lses vs (xl.map Kl.ct)) else Kl.ofM 3 0 2 (Kl.lses vs (xl.map Kl.ct)) := by rw [Kl.lse, if_neg (by omega), if_neg (by omega), if_neg (by omega)]
    have COF := hide' (HOF.out hFa)
    simp only [hnv] at COF ⊢
    rcases e with e | e
    · subst e
      rw [hres, if_pos rfl]
      have CO := hide' (COF.out 2 2 0 (.inl rfl))
      clear hres hF hs hrow hsz hWd ih hx hv HOF HTS hnv hkx ex hFa COF
      go_enter Try.func18, Try.ntmps18
      go_wp2_with fail
      rw [HWd.out]
      refine CO.out.mono ?_
      rintro r' w1 ⟨y, yo, yv, yn, yp, ky, yc, rfl, HYE, HY⟩
      obtain ⟨d0, d1, d2, d3, d4⟩ := HFACT.out w1 HY.out.2.2.2
      go_wp2_with fail
      refine bodyPost_ret (v := .agg #[.int .i64 yo, .int .i64 yv, .int .i64 yn, .slice yp ky yc]) (by simp [results, Try.results18, go_sem, d0, d1, d2, d3]) rfl ?_
      exact HEND.out w1 y _ _ _ _ _ _ _ HYE.out HY.out
    · subst e
      rw [hres, if_neg (by decide)]
      have CO := hide' (COF.out 3 0 2 (.inr rfl))
      clear hres hF hs hrow hsz hWd ih hx hv HOF HTS hnv hkx ex hFa COF
      go_enter Try.func18, Try.ntmps18
      go_wp2_with fail
      rw [HWd.out]
      refine CO.out.mono ?_
      rintro r' w1 ⟨y, yo, yv, yn, yp, ky, yc, rfl, HYE, HY⟩
      obtain ⟨d0, d1, d2, d3, d4⟩ := HFACT.out w1 HY.out.2.2.2
      go_wp2_with fail
      refine bodyPost_ret (v := .agg #[.int .i64 yo, .int .i64 yv, .int .i64 yn, .slice yp ky yc]) (by simp [results, Try.results18, go_sem, d0, d1, d2, d3]) rfl ?_
      exact HEND.out w1 y _ _ _ _ _ _ _ HYE.out HY.out
  · subst e
    obtain ⟨a, rfl⟩ : ∃ a, xl = [a] := by
      cases xl with
      | nil => simp at hl1
      | cons a m => cases m with
        | nil => exact ⟨a, rfl⟩
        | cons b m => simp at hl1
    obtain rfl : kx = 1 := hkx.symm
    have hres : Kl.lse vs (.mk 4 xv xn ([a].map Kl.ct)) = Kl.den (Kl.lse vs (Kl.ct a)) := by rw [Kl.lse, if_neg (by decide), if_neg (by decide), if_pos rfl]; simp [Kl.lses]
    rw [hres]
    obtain ⟨b, o, rfl, k⟩ := hrow.2.2 (by simp)
    obtain ⟨ka, oa⟩ := k 0 a rfl
    have cA := (ih a (by simp) W _ vs (r - 1) (oa.below HBW.out) HTS.out (hFa _ (by simp)) (by simp [Kl.szs] at hsz; omega)).mono fun r w' h => h.ans
    have cD : ∀ w1 y, Kl.Lo w1 y ∧ Kl.ct y = Kl.lse vs (Kl.ct a) ∧ (∀ b ∈ Kl.fp y, W.heap.size ≤ b) ∧ Below W.heap.size W w1 → Calls Try.prog 33 #[.agg y.enc.toArray] w1 fun r w' => Kl.Ans (Kl.den (Kl.lse vs (Kl.ct a))) W r w' := fun w1 y h => (klDenied y w1 h.1).mono fun r w' hd => by
      obtain ⟨z, z1, z2, z3, z4, z5⟩ := hd
      obtain ⟨zo, zv, zn, zp, zc, zl⟩ := z
      refine ⟨.mk zo zv zn zp zc zl, zo, zv, zn, zp, zl.length, zc, z1, rfl, z2, by rw [z3, h.2.1], fun b hb => ?_, h.2.2.2.trans (z5.mono h.2.2.2.size)⟩
      rcases z4 b hb with q | q
      · exact h.2.2.1 b q
      · have := h.2.2.2.size; omega
    have CD := hide' cD
    obtain ⟨ao, av, an, ap, ac, al⟩ := a
    obtain ⟨kal, hkal⟩ : ∃ k, al.length = k := ⟨_, rfl⟩
    obtain ⟨q0, q1, q2, q3⟩ := Kl.cells4 ka
    have hcr : ∀ {a : Addr} {u : Value}, w.cell? a = some u → W.cell? a = some u := fun {a u} h => (HBW.out.cell (p := a) (block_lt_of_cell h)).trans h
    have p0 := hcr q0
    have p1 := hcr q1
    have p2 := hcr q2
    have p3 := hcr q3
    have eb : (Kl.Fv.mk ao av an ap ac al).enc.toArray = #[.int .i64 ao, .int .i64 av, .int .i64 an, .slice ap kal ac] := by simp only [Kl.Fv.enc, hkal]
    rw [hkal] at p3
    simp only [Nat.zero_mul, Nat.add_zero] at p0 p1 p2 p3
    simp only [eb, hnv] at cA ⊢
    have hbl := block_lt_of_cell q0
    have hbl' : b < w.heap.size := hbl
    have r0 := q0
    have r1 := q1
    have r2 := q2
    have r3 := q3
    rw [hkal] at r3
    simp only [Nat.zero_mul, Nat.add_zero] at r0 r1 r2 r3
    have CA := hide' cA
    clear hres hF hs hrow hsz hWd ih hx hv HOF HTS hnv hkx ex hFa hl1 k ka oa cA cD q0 q1 q2 q3 hcr eb hkal hbl
    go_enter Try.func18, Try.ntmps18
    go_wp2_with fail
    rw [HWd.out]
    refine CA.out.mono ?_
    rintro r' w1 ⟨y, yo, yv, yn, yp, ky, yc, rfl, HYE, HY⟩
    go_wp2_with fail
    have cD2 := CD.out w1 y HY.out
    rw [HYE.out] at cD2
    refine cD2.mono ?_
    rintro r' w2 ⟨z, zo, zv, zn, zp, kz, zc, rfl, HZE, HZ⟩
    obtain ⟨d0, d1, d2, d3, d4⟩ := HFACT.out w2 HZ.out.2.2.2
    clear cD2
    go_wp2_with fail
    refine bodyPost_ret (v := .agg #[.int .i64 zo, .int .i64 zv, .int .i64 zn, .slice zp kz zc]) (by simp [results, Try.results18, go_sem, d0, d1, d2, d3]) rfl ?_
    exact HEND.out w2 z _ _ _ _ _ _ _ HZE.out HZ.out
theorem klLoose : ∀ x : Kl.Fv, Kl.LooOf x := Kl.Fv.ind fun o v n p c l ih => klLoose1 o v n p c l ih
end Go.Proofs.Ytmpmlccomgepjaa
