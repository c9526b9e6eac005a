/-
 THE WALK over gimletlaw14.KleeneTurns (gen_trn.py).
-/
import Derived.Test.YtipnhfnjoaoceaaKlTrnL
import Derived.Deep.CutBlock
import Derived.Deep.DeepCutAuto
import Derived.BigGuard
namespace Go.Proofs.Ytipnhfnjoaoceaa
open Go.RowKit Go.Lib Go.Sort
set_option maxRecDepth 100000 in
set_option maxHeartbeats 16000000 in
theorem lawTurns (x y z : Kl.Fv) (vv : Value) (vs : List Int) (w : World) (hx : Kl.Ok w x) (hy : Kl.Ok w y) (hz : Kl.Ok w z) (hv : Kl.TsN w vv vs) (hn : vs.length ≤ 17592186044416) :
 Calls Try.prog 8 #[.agg ((x.enc ++ (y.enc ++ (z.enc ++ [vv])))).toArray] w fun r w' => r = .returned (.bool true) ∧ Below w.heap.size w w' := by
 have CGX := hide' (fun w' (g : Below w.heap.size w w') => klGreat x w' (hx.below g))
 have CGY := hide' (fun w' (g : Below w.heap.size w w') => klGreat y w' (hy.below g))
 have CGZ := hide' (fun w' (g : Below w.heap.size w w') => klGreat z w' (hz.below g))
 have CTX := hide' (fun hs w' (g : Below w.heap.size w w') => Kl.twA (x := x) hs (hx.below g))
 have CTY := hide' (fun hs w' (g : Below w.heap.size w w') => Kl.twA (x := y) hs (hy.below g))
 have CTZ := hide' (fun hs w' (g : Below w.heap.size w w') => Kl.twA (x := z) hs (hz.below g))
 have CNX := hide' (fun hs w' (g : Below w.heap.size w w') => lawNot14 x w' (hx.below g) hs)
 have CNY := hide' (fun hs w' (g : Below w.heap.size w w') => lawNot14 y w' (hy.below g) hs)
 have CNZ := hide' (fun hs w' (g : Below w.heap.size w w') => lawNot14 z w' (hz.below g) hs)
 have CU := hide' (fun w' (g : Below w.heap.size w w') => lawTruthsF vv vs w' (hv.below g) hn)
 obtain ⟨X, hX⟩ : ∃ F, Kl.ct x = F := ⟨_, rfl⟩
 obtain ⟨Y, hY⟩ : ∃ F, Kl.ct y = F := ⟨_, rfl⟩
 obtain ⟨Z, hZ⟩ : ∃ F, Kl.ct z = F := ⟨_, rfl⟩
 simp only [hX] at CGX CTX CNX
 simp only [hY] at CGY CTY CNY
 simp only [hZ] at CGZ CTZ CNZ
 obtain ⟨sX, hsX⟩ : ∃ s, Kl.sz X = s := ⟨_, rfl⟩
 obtain ⟨sY, hsY⟩ : ∃ s, Kl.sz Y = s := ⟨_, rfl⟩
 obtain ⟨sZ, hsZ⟩ : ∃ s, Kl.sz Z = s := ⟨_, rfl⟩
 have HSX := hide' hsX
 have HSY := hide' hsY
 have HSZ := hide' hsZ
 simp only [hsX] at CGX CTX CNX
 simp only [hsY] at CGY CTY CNY
 simp only [hsZ] at CGZ CTZ CNZ
 obtain ⟨pv, cv, rfl, v1, v2, _⟩ := hv.1
 obtain ⟨nv, hnv⟩ : ∃ n, vs.length = n := ⟨_, rfl⟩
 simp only [hnv] at CU v1 ⊢
 obtain ⟨xo, xv, xn, xp, xc, xl⟩ := x
 obtain ⟨yo, yv, yn, yp, yc, yl⟩ := y
 obtain ⟨zo, zv, zn, zp, zc, zl⟩ := z
 obtain ⟨kx, hkx⟩ : ∃ k, xl.length = k := ⟨_, rfl⟩
 obtain ⟨ky, hky⟩ : ∃ k, yl.length = k := ⟨_, rfl⟩
 obtain ⟨kz, hkz⟩ : ∃ k, zl.length = k := ⟨_, rfl⟩
 simp only [Kl.Fv.enc, hkx] at CGX CTX CNX
 simp only [Kl.Fv.enc, hky] at CGY CTY CNY
 simp only [Kl.Fv.enc, hkz] at CGZ CTZ CNZ
 simp only [Kl.Fv.enc, hkx, hky, hkz, List.cons_append, List.nil_append]
 obtain ⟨W, hWd⟩ : ∃ W, w.alloc (.cells #[.int .i64 xo, .int .i64 xv, .int .i64 xn, .slice xp kx xc, .int .i64 yo, .int .i64 yv, .int .i64 yn, .slice yp ky yc, .int .i64 zo, .int .i64 zv, .int .i64 zn, .slice zp kz zc, .slice pv nv cv] 60) = W := ⟨_, rfl⟩
 have HBW : Hid (Below w.heap.size w W) := by rw [← hWd]; exact (Below.refl _ _).alloc (Nat.le_refl _) _
 have HUP : Hid (∀ w', Below W.heap.size W w' → Below w.heap.size w w') := fun w' h => HBW.out.trans (h.mono HBW.out.size)
 have HZW : Hid (W.heap.size = w.heap.size + 1) := by show W.heap.size = _; rw [← hWd]; simp
 have HBQ : Hid (∀ w', Below W.heap.size W w' → w'.cell? ⟨w.heap.size, 0, none⟩ = some (.int .i64 xo) ∧ w'.cell? ⟨w.heap.size, 1, none⟩ = some (.int .i64 xv) ∧ w'.cell? ⟨w.heap.size, 2, none⟩ = some (.int .i64 xn) ∧ w'.cell? ⟨w.heap.size, 3, none⟩ = some (.slice xp kx xc) ∧ w'.cell? ⟨w.heap.size, 4, none⟩ = some (.int .i64 yo) ∧ w'.cell? ⟨w.heap.size, 5, none⟩ = some (.int .i64 yv) ∧ w'.cell? ⟨w.heap.size, 6, none⟩ = some (.int .i64 yn) ∧ w'.cell? ⟨w.heap.size, 7, none⟩ = some (.slice yp ky yc) ∧ w'.cell? ⟨w.heap.size, 8, none⟩ = some (.int .i64 zo) ∧ w'.cell? ⟨w.heap.size, 9, none⟩ = some (.int .i64 zv) ∧ w'.cell? ⟨w.heap.size, 10, none⟩ = some (.int .i64 zn) ∧ w'.cell? ⟨w.heap.size, 11, none⟩ = some (.slice zp kz zc) ∧ w'.cell? ⟨w.heap.size, 12, none⟩ = some (.slice pv nv cv)) := fun w' h => by
  have hw0 : w.heap.size < W.heap.size := by rw [HZW.out]; omega
  have e : ∀ o, w'.cell? ⟨w.heap.size, o, none⟩ = W.cell? ⟨w.heap.size, o, none⟩ := fun o => h.cell (p := ⟨w.heap.size, o, none⟩) hw0
  rw [e, e, e, e, e, e, e, e, e, e, e, e, e, ← hWd]
  refine ⟨?_, ?_, ?_, ?_, ?_, ?_, ?_, ?_, ?_, ?_, ?_, ?_, ?_⟩ <;> simp
 have HWd := hide' hWd
 clear hx hy hz hv hX hY hZ hsX hsY hsZ hkx hky hkz hWd hnv hn
 go_enter Try.func8, Try.ntmps8
 go_wp2_with fail
 rw [HWd.out]
 have HB0 : Hid (Below W.heap.size W W) := Below.refl _ _
 obtain ⟨b0, b1, b2, b3, b4, b5, b6, b7, b8, b9, b10, b11, b12⟩ := HBQ.out W HB0.out
 go_wp2_with fail
 refine (CGX.out _ (HUP.out _ HB0.out)).mono ?_
 rintro r wg1 ⟨rfl, hg⟩
 have HBg1 := hide' (HB0.out.trans (hg.below.mono HB0.out.size))
 clear hg CGX
 clear b0 b1 b2 b3 b4 b5 b6 b7 b8 b9 b10 b11 b12
 by_cases gx : 65536 < sX
 · have d1 : decide (65536 < sX) = true := decide_eq_true gx
   rw [d1]
   clear d1 gx
   go_wp2_with fail
   refine (klFixed _).mono ?_
   rintro r wf ⟨rfl, hb⟩
   have HBf := hide' (HBg1.out.trans (hb.mono HBg1.out.size))
   clear hb
   go_wp2_with fail
   go_ret
   exact ⟨rfl, HUP.out _ HBf.out⟩
 have d1 : decide (65536 < sX) = false := decide_eq_false gx
 rw [d1]
 have HGX : Hid (sX ≤ 65536) := by show sX ≤ _; omega
 clear d1 gx
 obtain ⟨b0, b1, b2, b3, b4, b5, b6, b7, b8, b9, b10, b11, b12⟩ := HBQ.out wg1 HBg1.out
 go_wp2_with fail
 refine (CGY.out _ (HUP.out _ HBg1.out)).mono ?_
 rintro r wg2 ⟨rfl, hg⟩
 have HBg2 := hide' (HBg1.out.trans (hg.below.mono HBg1.out.size))
 clear hg CGY
 clear b0 b1 b2 b3 b4 b5 b6 b7 b8 b9 b10 b11 b12
 by_cases gy : 65536 < sY
 · have d1 : decide (65536 < sY) = true := decide_eq_true gy
   rw [d1]
   clear d1 gy
   go_wp2_with fail
   refine (klFixed _).mono ?_
   rintro r wf ⟨rfl, hb⟩
   have HBf := hide' (HBg2.out.trans (hb.mono HBg2.out.size))
   clear hb
   go_wp2_with fail
   go_ret
   exact ⟨rfl, HUP.out _ HBf.out⟩
 have d1 : decide (65536 < sY) = false := decide_eq_false gy
 rw [d1]
 have HGY : Hid (sY ≤ 65536) := by show sY ≤ _; omega
 clear d1 gy
 obtain ⟨b0, b1, b2, b3, b4, b5, b6, b7, b8, b9, b10, b11, b12⟩ := HBQ.out wg2 HBg2.out
 go_wp2_with fail
 refine (CGZ.out _ (HUP.out _ HBg2.out)).mono ?_
 rintro r wg3 ⟨rfl, hg⟩
 have HBg3 := hide' (HBg2.out.trans (hg.below.mono HBg2.out.size))
 clear hg CGZ
 clear b0 b1 b2 b3 b4 b5 b6 b7 b8 b9 b10 b11 b12
 by_cases gz : 65536 < sZ
 · have d1 : decide (65536 < sZ) = true := decide_eq_true gz
   rw [d1]
   clear d1 gz
   go_wp2_with fail
   refine (klFixed _).mono ?_
   rintro r wf ⟨rfl, hb⟩
   have HBf := hide' (HBg3.out.trans (hb.mono HBg3.out.size))
   clear hb
   go_wp2_with fail
   go_ret
   exact ⟨rfl, HUP.out _ HBf.out⟩
 have d1 : decide (65536 < sZ) = false := decide_eq_false gz
 rw [d1]
 have HGZ : Hid (sZ ≤ 65536) := by show sZ ≤ _; omega
 clear d1 gz
 go_upto_region 3 with fail
 go_cut [3, 4, 5, 6] from 34 to 41 (fun a b c d wx => ∃ B1 B2 B3, a = .pointer (some ⟨B1, 0, none⟩) ∧ b = .pointer (some ⟨B2, 0, none⟩) ∧ c = .pointer (some ⟨B3, 0, none⟩) ∧ d = .slice pv nv cv ∧ Hid (wx.rangeAt B1 0 [.int .i64 xo, .int .i64 xv, .int .i64 xn, .slice xp kx xc] ∧ wx.rangeAt B2 0 [.int .i64 yo, .int .i64 yv, .int .i64 yn, .slice yp ky yc] ∧ wx.rangeAt B3 0 [.int .i64 zo, .int .i64 zv, .int .i64 zn, .slice zp kz zc]) ∧ Hid (Below W.heap.size W wx))
 case first =>
  have hS0 : Below wg3.heap.size wg3 wg3.drew := (Below.refl _ _).drew
  have HSO : Hid (∀ W', Below wg3.heap.size wg3 W' → W'.cell? ⟨w.heap.size, 0, none⟩ = some (.int .i64 xo) ∧ W'.cell? ⟨w.heap.size, 1, none⟩ = some (.int .i64 xv) ∧ W'.cell? ⟨w.heap.size, 2, none⟩ = some (.int .i64 xn) ∧ W'.cell? ⟨w.heap.size, 3, none⟩ = some (.slice xp kx xc) ∧ W'.cell? ⟨w.heap.size, 4, none⟩ = some (.int .i64 yo) ∧ W'.cell? ⟨w.heap.size, 5, none⟩ = some (.int .i64 yv) ∧ W'.cell? ⟨w.heap.size, 6, none⟩ = some (.int .i64 yn) ∧ W'.cell? ⟨w.heap.size, 7, none⟩ = some (.slice yp ky yc) ∧ W'.cell? ⟨w.heap.size, 8, none⟩ = some (.int .i64 zo) ∧ W'.cell? ⟨w.heap.size, 9, none⟩ = some (.int .i64 zv) ∧ W'.cell? ⟨w.heap.size, 10, none⟩ = some (.int .i64 zn) ∧ W'.cell? ⟨w.heap.size, 11, none⟩ = some (.slice zp kz zc) ∧ W'.cell? ⟨w.heap.size, 12, none⟩ = some (.slice pv nv cv)) := fun W' h => HBQ.out W' (HBg3.out.trans (h.mono HBg3.out.size))
  clear HBQ CTX CTY CTZ CNX CNY CNZ CU
  refine wp_region_held_drew (S := fun W' => Below wg3.heap.size wg3 W') (by kernel_rfl) hS0 (fun hHeld => ?_)
  simp only [List.size_toArray, List.length_cons, List.length_nil, Nat.reduceAdd]
  generalize wg3.drew = W00 at hHeld hS0 ⊢
  refine Kl.tk 0 (.pointer (some ⟨w.heap.size, 0, none⟩)) rfl (by kernel_rfl) (fun _ _ _ h => h) (by assumption) (Or.inl ⟨by rfl, ?y0⟩) ?_
  case y0 => (intro w' hSw; obtain ⟨b0, b1, b2, b3, b4, b5, b6, b7, b8, b9, b10, b11, b12⟩ := HSO.out w' hSw; go_simp)
  try simp only [Kl.pts]
  refine Kl.tk 1 (.agg #[.int .i64 xo, .int .i64 xv, .int .i64 xn, .slice xp kx xc]) rfl (by kernel_rfl) (fun _ _ _ h => h) (by assumption) (Or.inl ⟨by rfl, ?y1⟩) ?_
  case y1 => (intro w' hSw; obtain ⟨b0, b1, b2, b3, b4, b5, b6, b7, b8, b9, b10, b11, b12⟩ := HSO.out w' hSw; go_simp)
  try simp only [Kl.pts]
  refine Kl.tk 2 (.pointer (some ⟨w.heap.size, 4, none⟩)) rfl (by kernel_rfl) (fun _ _ _ h => h) (by assumption) (Or.inl ⟨by rfl, ?y2⟩) ?_
  case y2 => (intro w' hSw; obtain ⟨b0, b1, b2, b3, b4, b5, b6, b7, b8, b9, b10, b11, b12⟩ := HSO.out w' hSw; go_simp)
  try simp only [Kl.pts]
  refine Kl.tk 3 (.agg #[.int .i64 yo, .int .i64 yv, .int .i64 yn, .slice yp ky yc]) rfl (by kernel_rfl) (fun _ _ _ h => h) (by assumption) (Or.inl ⟨by rfl, ?y3⟩) ?_
  case y3 => (intro w' hSw; obtain ⟨b0, b1, b2, b3, b4, b5, b6, b7, b8, b9, b10, b11, b12⟩ := HSO.out w' hSw; go_simp)
  try simp only [Kl.pts]
  refine Kl.tk 4 (.pointer (some ⟨w.heap.size, 8, none⟩)) rfl (by kernel_rfl) (fun _ _ _ h => h) (by assumption) (Or.inl ⟨by rfl, ?y4⟩) ?_
  case y4 => (intro w' hSw; obtain ⟨b0, b1, b2, b3, b4, b5, b6, b7, b8, b9, b10, b11, b12⟩ := HSO.out w' hSw; go_simp)
  try simp only [Kl.pts]
  refine Kl.tk 5 (.agg #[.int .i64 zo, .int .i64 zv, .int .i64 zn, .slice zp kz zc]) rfl (by kernel_rfl) (fun _ _ _ h => h) (by assumption) (Or.inl ⟨by rfl, ?y5⟩) ?_
  case y5 => (intro w' hSw; obtain ⟨b0, b1, b2, b3, b4, b5, b6, b7, b8, b9, b10, b11, b12⟩ := HSO.out w' hSw; go_simp)
  try simp only [Kl.pts]
  refine Kl.tk 6 (.pointer (some ⟨w.heap.size, 12, none⟩)) rfl (by kernel_rfl) (fun _ _ _ h => h) (by assumption) (Or.inl ⟨by rfl, ?y6⟩) ?_
  case y6 => (intro w' hSw; obtain ⟨b0, b1, b2, b3, b4, b5, b6, b7, b8, b9, b10, b11, b12⟩ := HSO.out w' hSw; go_simp)
  try simp only [Kl.pts]
  refine Kl.tk 7 (.slice pv nv cv) rfl (by kernel_rfl) (fun _ _ _ h => h) (by assumption) (Or.inl ⟨by rfl, ?y7⟩) ?_
  case y7 => (intro w' hSw; obtain ⟨b0, b1, b2, b3, b4, b5, b6, b7, b8, b9, b10, b11, b12⟩ := HSO.out w' hSw; go_simp)
  try simp only [Kl.pts]
  refine wpAnyH_ready (rs := [8, 9, 10]) (by kernel_rfl) (by simp) ?_
  refine AllReadyH.cons rfl (fun K hK => ?_) ?_
  · try simp only [Kl.pts]
    go_simp
    obtain ⟨Wa1, hWa1⟩ : ∃ V, W00.alloc (.cells #[.int .i64 0, .int .i64 0, .int .i64 0, .slice none 0 0] 37) = V := ⟨_, rfl⟩
    obtain ⟨T1, hT1⟩ : ∃ T, W00.heap.size = T := ⟨_, rfl⟩
    have hab1 : Below W00.heap.size W00 Wa1 := by rw [← hWa1]; exact (Below.refl _ _).alloc (Nat.le_refl _) _
    have hz1 : Kl.BoxZ Wa1 T1 := by rw [← hWa1, ← hT1]; exact Kl.BoxZ.new _ _
    have hS1 : Below wg3.heap.size wg3 Wa1 := hS0.trans (hab1.mono hS0.size)
    have hl1 : wg3.heap.size ≤ T1 := by rw [← hT1]; exact hS0.size
    rw [hWa1, hT1]
    refine hK.out _ _ hS1 (fun hHeld9 => ?_)
    clear hK K
    try simp only [Kl.pts]
    clear hWa1 hT1 hab1
    refine wpAnyH_ready (rs := [9, 10]) (by kernel_rfl) (by simp) ?_
    refine AllReadyH.cons rfl (fun K hK => ?_) ?_
    · try simp only [Kl.pts]
      go_simp
      obtain ⟨Wa2, hWa2⟩ : ∃ V, Wa1.alloc (.cells #[.int .i64 0, .int .i64 0, .int .i64 0, .slice none 0 0] 37) = V := ⟨_, rfl⟩
      obtain ⟨T2, hT2⟩ : ∃ T, Wa1.heap.size = T := ⟨_, rfl⟩
      have hab2 : Below Wa1.heap.size Wa1 Wa2 := by rw [← hWa2]; exact (Below.refl _ _).alloc (Nat.le_refl _) _
      have hz2 : Kl.BoxZ Wa2 T2 := by rw [← hWa2, ← hT2]; exact Kl.BoxZ.new _ _
      have hS2 : Below wg3.heap.size wg3 Wa2 := hS1.trans (hab2.mono hS1.size)
      have hl2 : wg3.heap.size ≤ T2 := by rw [← hT2]; exact hS1.size
      have hne3 : T1 ≠ T2 := by have := (hz1).lt; omega
      have hc3 := (hz1).below hab2
      rw [hWa2, hT2]
      refine hK.out _ _ hS2 (fun hHeld9 => ?_)
      clear hK K
      try simp only [Kl.pts]
      clear hWa2 hT2 hab2
      refine wpAnyH_ready (rs := [10]) (by kernel_rfl) (by simp) ?_
      refine AllReadyH.cons rfl (fun K hK => ?_) AllReadyH.nil
      try simp only [Kl.pts]
      go_simp
      obtain ⟨Wa4, hWa4⟩ : ∃ V, Wa2.alloc (.cells #[.int .i64 0, .int .i64 0, .int .i64 0, .slice none 0 0] 37) = V := ⟨_, rfl⟩
      obtain ⟨T4, hT4⟩ : ∃ T, Wa2.heap.size = T := ⟨_, rfl⟩
      have hab4 : Below Wa2.heap.size Wa2 Wa4 := by rw [← hWa4]; exact (Below.refl _ _).alloc (Nat.le_refl _) _
      have hz4 : Kl.BoxZ Wa4 T4 := by rw [← hWa4, ← hT4]; exact Kl.BoxZ.new _ _
      have hS4 : Below wg3.heap.size wg3 Wa4 := hS2.trans (hab4.mono hS2.size)
      have hl4 : wg3.heap.size ≤ T4 := by rw [← hT4]; exact hS2.size
      have hne5 : T1 ≠ T4 := by have := (hc3).lt; omega
      have hc5 := (hc3).below hab4
      have hne6 : T2 ≠ T4 := by have := (hz2).lt; omega
      have hc6 := (hz2).below hab4
      rw [hWa4, hT4]
      refine hK.out _ _ hS4 (fun hHeld9 => ?_)
      clear hK K
      try simp only [Kl.pts]
      clear hWa4 hT4 hab4
      refine wpAnyH_ready (rs := [11]) (by kernel_rfl) (by simp) ?_
      refine AllReadyH.cons rfl (fun K hK => ?_) AllReadyH.nil
      try simp only [Kl.pts]
      have hzD := hc5
      obtain ⟨⟨d0, d1, d2, d3⟩, d4⟩ := hzD
      have d5 := (hc5).lt
      obtain ⟨hr7, hbz7, hbr7, hbb7⟩ := Kl.store_box (.int .i64 xo) (.int .i64 xv) (.int .i64 xn) (.slice xp kx xc) hc5
      go_simp
      have hS7 := hbb7 _ _ hl1 hS4
      refine hK.out _ _ hS7 (fun hHeld9 => ?_)
      clear hK K
      try simp only [Kl.pts]
      have hc8 := hbz7 _ (Ne.symm hne3) hc6
      have hc9 := hbz7 _ (Ne.symm hne5) hz4
      clear d0 d1 d2 d3 d4 d5 hHeld9 hbz7 hbr7 hbb7
      generalize ((((World.setCell Wa4 ⟨T1, 0, none⟩ (.int .i64 xo)).setCell ⟨T1, 1, none⟩ (.int .i64 xv)).setCell ⟨T1, 2, none⟩ (.int .i64 xn)).setCell ⟨T1, 3, none⟩ (.slice xp kx xc)) = Ws7 at hS7 hr7 hc8 hc9 ⊢
      refine wpAnyH_ready (rs := [12]) (by kernel_rfl) (by simp) ?_
      refine AllReadyH.cons rfl (fun K hK => ?_) AllReadyH.nil
      try simp only [Kl.pts]
      have hzD := hc8
      obtain ⟨⟨d0, d1, d2, d3⟩, d4⟩ := hzD
      have d5 := (hc8).lt
      obtain ⟨hr10, hbz10, hbr10, hbb10⟩ := Kl.store_box (.int .i64 yo) (.int .i64 yv) (.int .i64 yn) (.slice yp ky yc) hc8
      go_simp
      have hS10 := hbb10 _ _ hl2 hS7
      refine hK.out _ _ hS10 (fun hHeld9 => ?_)
      clear hK K
      try simp only [Kl.pts]
      have hc11 := hbr10 _ _ hne3 hr7
      have hc12 := hbz10 _ (Ne.symm hne6) hc9
      clear d0 d1 d2 d3 d4 d5 hHeld9 hbz10 hbr10 hbb10
      generalize ((((World.setCell Ws7 ⟨T2, 0, none⟩ (.int .i64 yo)).setCell ⟨T2, 1, none⟩ (.int .i64 yv)).setCell ⟨T2, 2, none⟩ (.int .i64 yn)).setCell ⟨T2, 3, none⟩ (.slice yp ky yc)) = Ws10 at hS10 hr10 hc11 hc12 ⊢
      refine wpAnyH_ready (rs := [13]) (by kernel_rfl) (by simp) ?_
      refine AllReadyH.cons rfl (fun K hK => ?_) AllReadyH.nil
      try simp only [Kl.pts]
      have hzD := hc12
      obtain ⟨⟨d0, d1, d2, d3⟩, d4⟩ := hzD
      have d5 := (hc12).lt
      obtain ⟨hr13, hbz13, hbr13, hbb13⟩ := Kl.store_box (.int .i64 zo) (.int .i64 zv) (.int .i64 zn) (.slice zp kz zc) hc12
      go_simp
      have hS13 := hbb13 _ _ hl4 hS10
      refine hK.out _ _ hS13 (fun hHeld9 => ?_)
      clear hK K
      try simp only [Kl.pts]
      have hc14 := hbr13 _ _ hne5 hc11
      have hc15 := hbr13 _ _ hne6 hr10
      clear d0 d1 d2 d3 d4 d5 hHeld9 hbz13 hbr13 hbb13
      generalize ((((World.setCell Ws10 ⟨T4, 0, none⟩ (.int .i64 zo)).setCell ⟨T4, 1, none⟩ (.int .i64 zv)).setCell ⟨T4, 2, none⟩ (.int .i64 zn)).setCell ⟨T4, 3, none⟩ (.slice zp kz zc)) = Ws13 at hS13 hr13 hc14 hc15 ⊢
      refine Kl.tk 14 (.slice pv nv cv) rfl (by kernel_rfl) (fun _ _ _ h => h) (by assumption) (Or.inl ⟨by rfl, ?y14⟩) ?_
      case y14 => (intro w' hSw; obtain ⟨b0, b1, b2, b3, b4, b5, b6, b7, b8, b9, b10, b11, b12⟩ := HSO.out w' hSw; go_simp)
      try simp only [Kl.pts]
      refine wpAnyH_done (by kernel_rfl) ?_ _
      go_wp2_with fail
      go_meet
      exact ⟨_, _, _, rfl, rfl, rfl, rfl, ⟨hc14, hc15, hr13⟩, HBg3.out.trans (hS13.mono HBg3.out.size)⟩
    refine AllReadyH.cons rfl (fun K hK => ?_) AllReadyH.nil
    try simp only [Kl.pts]
    go_simp
    obtain ⟨Wa16, hWa16⟩ : ∃ V, Wa1.alloc (.cells #[.int .i64 0, .int .i64 0, .int .i64 0, .slice none 0 0] 37) = V := ⟨_, rfl⟩
    obtain ⟨T16, hT16⟩ : ∃ T, Wa1.heap.size = T := ⟨_, rfl⟩
    have hab16 : Below Wa1.heap.size Wa1 Wa16 := by rw [← hWa16]; exact (Below.refl _ _).alloc (Nat.le_refl _) _
    have hz16 : Kl.BoxZ Wa16 T16 := by rw [← hWa16, ← hT16]; exact Kl.BoxZ.new _ _
    have hS16 : Below wg3.heap.size wg3 Wa16 := hS1.trans (hab16.mono hS1.size)
    have hl16 : wg3.heap.size ≤ T16 := by rw [← hT16]; exact hS1.size
    have hne17 : T1 ≠ T16 := by have := (hz1).lt; omega
    have hc17 := (hz1).below hab16
    rw [hWa16, hT16]
    refine hK.out _ _ hS16 (fun hHeld9 => ?_)
    clear hK K
    try simp only [Kl.pts]
    clear hWa16 hT16 hab16
    refine wpAnyH_ready (rs := [9]) (by kernel_rfl) (by simp) ?_
    refine AllReadyH.cons rfl (fun K hK => ?_) AllReadyH.nil
    try simp only [Kl.pts]
    go_simp
    obtain ⟨Wa18, hWa18⟩ : ∃ V, Wa16.alloc (.cells #[.int .i64 0, .int .i64 0, .int .i64 0, .slice none 0 0] 37) = V := ⟨_, rfl⟩
    obtain ⟨T18, hT18⟩ : ∃ T, Wa16.heap.size = T := ⟨_, rfl⟩
    have hab18 : Below Wa16.heap.size Wa16 Wa18 := by rw [← hWa18]; exact (Below.refl _ _).alloc (Nat.le_refl _) _
    have hz18 : Kl.BoxZ Wa18 T18 := by rw [← hWa18, ← hT18]; exact Kl.BoxZ.new _ _
    have hS18 : Below wg3.heap.size wg3 Wa18 := hS16.trans (hab18.mono hS16.size)
    have hl18 : wg3.heap.size ≤ T18 := by rw [← hT18]; exact hS16.size
    have hne19 : T1 ≠ T18 := by have := (hc17).lt; omega
    have hc19 := (hc17).below hab18
    have hne20 : T16 ≠ T18 := by have := (hz16).lt; omega
    have hc20 := (hz16).below hab18
    rw [hWa18, hT18]
    refine hK.out _ _ hS18 (fun hHeld9 => ?_)
    clear hK K
    try simp only [Kl.pts]
    clear hWa18 hT18 hab18
    refine wpAnyH_ready (rs := [11]) (by kernel_rfl) (by simp) ?_
    refine AllReadyH.cons rfl (fun K hK => ?_) AllReadyH.nil
    try simp only [Kl.pts]
    have hzD := hc19
    obtain ⟨⟨d0, d1, d2, d3⟩, d4⟩ := hzD
    have d5 := (hc19).lt
    obtain ⟨hr21, hbz21, hbr21, hbb21⟩ := Kl.store_box (.int .i64 xo) (.int .i64 xv) (.int .i64 xn) (.slice xp kx xc) hc19
    go_simp
    have hS21 := hbb21 _ _ hl1 hS18
    refine hK.out _ _ hS21 (fun hHeld9 => ?_)
    clear hK K
    try simp only [Kl.pts]
    have hc22 := hbz21 _ (Ne.symm hne17) hc20
    have hc23 := hbz21 _ (Ne.symm hne19) hz18
    clear d0 d1 d2 d3 d4 d5 hHeld9 hbz21 hbr21 hbb21
    generalize ((((World.setCell Wa18 ⟨T1, 0, none⟩ (.int .i64 xo)).setCell ⟨T1, 1, none⟩ (.int .i64 xv)).setCell ⟨T1, 2, none⟩ (.int .i64 xn)).setCell ⟨T1, 3, none⟩ (.slice xp kx xc)) = Ws21 at hS21 hr21 hc22 hc23 ⊢
    refine wpAnyH_ready (rs := [12]) (by kernel_rfl) (by simp) ?_
    refine AllReadyH.cons rfl (fun K hK => ?_) AllReadyH.nil
    try simp only [Kl.pts]
    have hzD := hc23
    obtain ⟨⟨d0, d1, d2, d3⟩, d4⟩ := hzD
    have d5 := (hc23).lt
    obtain ⟨hr24, hbz24, hbr24, hbb24⟩ := Kl.store_box (.int .i64 yo) (.int .i64 yv) (.int .i64 yn) (.slice yp ky yc) hc23
    go_simp
    have hS24 := hbb24 _ _ hl18 hS21
    refine hK.out _ _ hS24 (fun hHeld9 => ?_)
    clear hK K
    try simp only [Kl.pts]
    have hc25 := hbr24 _ _ hne19 hr21
    have hc26 := hbz24 _ hne20 hc22
    clear d0 d1 d2 d3 d4 d5 hHeld9 hbz24 hbr24 hbb24
    generalize ((((World.setCell Ws21 ⟨T18, 0, none⟩ (.int .i64 yo)).setCell ⟨T18, 1, none⟩ (.int .i64 yv)).setCell ⟨T18, 2, none⟩ (.int .i64 yn)).setCell ⟨T18, 3, none⟩ (.slice yp ky yc)) = Ws24 at hS24 hr24 hc25 hc26 ⊢
    refine wpAnyH_ready (rs := [13]) (by kernel_rfl) (by simp) ?_
    refine AllReadyH.cons rfl (fun K hK => ?_) AllReadyH.nil
    try simp only [Kl.pts]
    have hzD := hc26
    obtain ⟨⟨d0, d1, d2, d3⟩, d4⟩ := hzD
    have d5 := (hc26).lt
    obtain ⟨hr27, hbz27, hbr27, hbb27⟩ := Kl.store_box (.int .i64 zo) (.int .i64 zv) (.int .i64 zn) (.slice zp kz zc) hc26
    go_simp
    have hS27 := hbb27 _ _ hl16 hS24
    refine hK.out _ _ hS27 (fun hHeld9 => ?_)
    clear hK K
    try simp only [Kl.pts]
    have hc28 := hbr27 _ _ hne17 hc25
    have hc29 := hbr27 _ _ (Ne.symm hne20) hr24
    clear d0 d1 d2 d3 d4 d5 hHeld9 hbz27 hbr27 hbb27
    generalize ((((World.setCell Ws24 ⟨T16, 0, none⟩ (.int .i64 zo)).setCell ⟨T16, 1, none⟩ (.int .i64 zv)).setCell ⟨T16, 2, none⟩ (.int .i64 zn)).setCell ⟨T16, 3, none⟩ (.slice zp kz zc)) = Ws27 at hS27 hr27 hc28 hc29 ⊢
    refine Kl.tk 14 (.slice pv nv cv) rfl (by kernel_rfl) (fun _ _ _ h => h) (by assumption) (Or.inl ⟨by rfl, ?y14⟩) ?_
    case y14 => (intro w' hSw; obtain ⟨b0, b1, b2, b3, b4, b5, b6, b7, b8, b9, b10, b11, b12⟩ := HSO.out w' hSw; go_simp)
    try simp only [Kl.pts]
    refine wpAnyH_done (by kernel_rfl) ?_ _
    go_wp2_with fail
    go_meet
    exact ⟨_, _, _, rfl, rfl, rfl, rfl, ⟨hc28, hc29, hr27⟩, HBg3.out.trans (hS27.mono HBg3.out.size)⟩
  refine AllReadyH.cons rfl (fun K hK => ?_) ?_
  · try simp only [Kl.pts]
    go_simp
    obtain ⟨Wa30, hWa30⟩ : ∃ V, W00.alloc (.cells #[.int .i64 0, .int .i64 0, .int .i64 0, .slice none 0 0] 37) = V := ⟨_, rfl⟩
    obtain ⟨T30, hT30⟩ : ∃ T, W00.heap.size = T := ⟨_, rfl⟩
    have hab30 : Below W00.heap.size W00 Wa30 := by rw [← hWa30]; exact (Below.refl _ _).alloc (Nat.le_refl _) _
    have hz30 : Kl.BoxZ Wa30 T30 := by rw [← hWa30, ← hT30]; exact Kl.BoxZ.new _ _
    have hS30 : Below wg3.heap.size wg3 Wa30 := hS0.trans (hab30.mono hS0.size)
    have hl30 : wg3.heap.size ≤ T30 := by rw [← hT30]; exact hS0.size
    rw [hWa30, hT30]
    refine hK.out _ _ hS30 (fun hHeld9 => ?_)
    clear hK K
    try simp only [Kl.pts]
    clear hWa30 hT30 hab30
    refine wpAnyH_ready (rs := [8, 10]) (by kernel_rfl) (by simp) ?_
    refine AllReadyH.cons rfl (fun K hK => ?_) ?_
    · try simp only [Kl.pts]
      go_simp
      obtain ⟨Wa31, hWa31⟩ : ∃ V, Wa30.alloc (.cells #[.int .i64 0, .int .i64 0, .int .i64 0, .slice none 0 0] 37) = V := ⟨_, rfl⟩
      obtain ⟨T31, hT31⟩ : ∃ T, Wa30.heap.size = T := ⟨_, rfl⟩
      have hab31 : Below Wa30.heap.size Wa30 Wa31 := by rw [← hWa31]; exact (Below.refl _ _).alloc (Nat.le_refl _) _
      have hz31 : Kl.BoxZ Wa31 T31 := by rw [← hWa31, ← hT31]; exact Kl.BoxZ.new _ _
      have hS31 : Below wg3.heap.size wg3 Wa31 := hS30.trans (hab31.mono hS30.size)
      have hl31 : wg3.heap.size ≤ T31 := by rw [← hT31]; exact hS30.size
      have hne32 : T30 ≠ T31 := by have := (hz30).lt; omega
      have hc32 := (hz30).below hab31
      rw [hWa31, hT31]
      refine hK.out _ _ hS31 (fun hHeld9 => ?_)
      clear hK K
      try simp only [Kl.pts]
      clear hWa31 hT31 hab31
      refine wpAnyH_ready (rs := [10]) (by kernel_rfl) (by simp) ?_
      refine AllReadyH.cons rfl (fun K hK => ?_) AllReadyH.nil
      try simp only [Kl.pts]
      go_simp
      obtain ⟨Wa33, hWa33⟩ : ∃ V, Wa31.alloc (.cells #[.int .i64 0, .int .i64 0, .int .i64 0, .slice none 0 0] 37) = V := ⟨_, rfl⟩
      obtain ⟨T33, hT33⟩ : ∃ T, Wa31.heap.size = T := ⟨_, rfl⟩
      have hab33 : Below Wa31.heap.size Wa31 Wa33 := by rw [← hWa33]; exact (Below.refl _ _).alloc (Nat.le_refl _) _
      have hz33 : Kl.BoxZ Wa33 T33 := by rw [← hWa33, ← hT33]; exact Kl.BoxZ.new _ _
      have hS33 : Below wg3.heap.size wg3 Wa33 := hS31.trans (hab33.mono hS31.size)
      have hl33 : wg3.heap.size ≤ T33 := by rw [← hT33]; exact hS31.size
      have hne34 : T30 ≠ T33 := by have := (hc32).lt; omega
      have hc34 := (hc32).below hab33
      have hne35 : T31 ≠ T33 := by have := (hz31).lt; omega
      have hc35 := (hz31).below hab33
      rw [hWa33, hT33]
      refine hK.out _ _ hS33 (fun hHeld9 => ?_)
      clear hK K
      try simp only [Kl.pts]
      clear hWa33 hT33 hab33
      refine wpAnyH_ready (rs := [11]) (by kernel_rfl) (by simp) ?_
      refine AllReadyH.cons rfl (fun K hK => ?_) AllReadyH.nil
      try simp only [Kl.pts]
      have hzD := hc35
      obtain ⟨⟨d0, d1, d2, d3⟩, d4⟩ := hzD
      have d5 := (hc35).lt
      obtain ⟨hr36, hbz36, hbr36, hbb36⟩ := Kl.store_box (.int .i64 xo) (.int .i64 xv) (.int .i64 xn) (.slice xp kx xc) hc35
      go_simp
      have hS36 := hbb36 _ _ hl31 hS33
      refine hK.out _ _ hS36 (fun hHeld9 => ?_)
      clear hK K
      try simp only [Kl.pts]
      have hc37 := hbz36 _ hne32 hc34
      have hc38 := hbz36 _ (Ne.symm hne35) hz33
      clear d0 d1 d2 d3 d4 d5 hHeld9 hbz36 hbr36 hbb36
      generalize ((((World.setCell Wa33 ⟨T31, 0, none⟩ (.int .i64 xo)).setCell ⟨T31, 1, none⟩ (.int .i64 xv)).setCell ⟨T31, 2, none⟩ (.int .i64 xn)).setCell ⟨T31, 3, none⟩ (.slice xp kx xc)) = Ws36 at hS36 hr36 hc37 hc38 ⊢
      refine wpAnyH_ready (rs := [12]) (by kernel_rfl) (by simp) ?_
      refine AllReadyH.cons rfl (fun K hK => ?_) AllReadyH.nil
      try simp only [Kl.pts]
      have hzD := hc37
      obtain ⟨⟨d0, d1, d2, d3⟩, d4⟩ := hzD
      have d5 := (hc37).lt
      obtain ⟨hr39, hbz39, hbr39, hbb39⟩ := Kl.store_box (.int .i64 yo) (.int .i64 yv) (.int .i64 yn) (.slice yp ky yc) hc37
      go_simp
      have hS39 := hbb39 _ _ hl30 hS36
      refine hK.out _ _ hS39 (fun hHeld9 => ?_)
      clear hK K
      try simp only [Kl.pts]
      have hc40 := hbr39 _ _ (Ne.symm hne32) hr36
      have hc41 := hbz39 _ (Ne.symm hne34) hc38
      clear d0 d1 d2 d3 d4 d5 hHeld9 hbz39 hbr39 hbb39
      generalize ((((World.setCell Ws36 ⟨T30, 0, none⟩ (.int .i64 yo)).setCell ⟨T30, 1, none⟩ (.int .i64 yv)).setCell ⟨T30, 2, none⟩ (.int .i64 yn)).setCell ⟨T30, 3, none⟩ (.slice yp ky yc)) = Ws39 at hS39 hr39 hc40 hc41 ⊢
      refine wpAnyH_ready (rs := [13]) (by kernel_rfl) (by simp) ?_
      refine AllReadyH.cons rfl (fun K hK => ?_) AllReadyH.nil
      try simp only [Kl.pts]
      have hzD := hc41
      obtain ⟨⟨d0, d1, d2, d3⟩, d4⟩ := hzD
      have d5 := (hc41).lt
      obtain ⟨hr42, hbz42, hbr42, hbb42⟩ := Kl.store_box (.int .i64 zo) (.int .i64 zv) (.int .i64 zn) (.slice zp kz zc) hc41
      go_simp
      have hS42 := hbb42 _ _ hl33 hS39
      refine hK.out _ _ hS42 (fun hHeld9 => ?_)
      clear hK K
      try simp only [Kl.pts]
      have hc43 := hbr42 _ _ hne34 hr39
      have hc44 := hbr42 _ _ hne35 hc40
      clear d0 d1 d2 d3 d4 d5 hHeld9 hbz42 hbr42 hbb42
      generalize ((((World.setCell Ws39 ⟨T33, 0, none⟩ (.int .i64 zo)).setCell ⟨T33, 1, none⟩ (.int .i64 zv)).setCell ⟨T33, 2, none⟩ (.int .i64 zn)).setCell ⟨T33, 3, none⟩ (.slice zp kz zc)) = Ws42 at hS42 hr42 hc43 hc44 ⊢
      refine Kl.tk 14 (.slice pv nv cv) rfl (by kernel_rfl) (fun _ _ _ h => h) (by assumption) (Or.inl ⟨by rfl, ?y14⟩) ?_
      case y14 => (intro w' hSw; obtain ⟨b0, b1, b2, b3, b4, b5, b6, b7, b8, b9, b10, b11, b12⟩ := HSO.out w' hSw; go_simp)
      try simp only [Kl.pts]
      refine wpAnyH_done (by kernel_rfl) ?_ _
      go_wp2_with fail
      go_meet
      exact ⟨_, _, _, rfl, rfl, rfl, rfl, ⟨hc44, hc43, hr42⟩, HBg3.out.trans (hS42.mono HBg3.out.size)⟩
    refine AllReadyH.cons rfl (fun K hK => ?_) AllReadyH.nil
    try simp only [Kl.pts]
    go_simp
    obtain ⟨Wa45, hWa45⟩ : ∃ V, Wa30.alloc (.cells #[.int .i64 0, .int .i64 0, .int .i64 0, .slice none 0 0] 37) = V := ⟨_, rfl⟩
    obtain ⟨T45, hT45⟩ : ∃ T, Wa30.heap.size = T := ⟨_, rfl⟩
    have hab45 : Below Wa30.heap.size Wa30 Wa45 := by rw [← hWa45]; exact (Below.refl _ _).alloc (Nat.le_refl _) _
    have hz45 : Kl.BoxZ Wa45 T45 := by rw [← hWa45, ← hT45]; exact Kl.BoxZ.new _ _
    have hS45 : Below wg3.heap.size wg3 Wa45 := hS30.trans (hab45.mono hS30.size)
    have hl45 : wg3.heap.size ≤ T45 := by rw [← hT45]; exact hS30.size
    have hne46 : T30 ≠ T45 := by have := (hz30).lt; omega
    have hc46 := (hz30).below hab45
    rw [hWa45, hT45]
    refine hK.out _ _ hS45 (fun hHeld9 => ?_)
    clear hK K
    try simp only [Kl.pts]
    clear hWa45 hT45 hab45
    refine wpAnyH_ready (rs := [8]) (by kernel_rfl) (by simp) ?_
    refine AllReadyH.cons rfl (fun K hK => ?_) AllReadyH.nil
    try simp only [Kl.pts]
    go_simp
    obtain ⟨Wa47, hWa47⟩ : ∃ V, Wa45.alloc (.cells #[.int .i64 0, .int .i64 0, .int .i64 0, .slice none 0 0] 37) = V := ⟨_, rfl⟩
    obtain ⟨T47, hT47⟩ : ∃ T, Wa45.heap.size = T := ⟨_, rfl⟩
    have hab47 : Below Wa45.heap.size Wa45 Wa47 := by rw [← hWa47]; exact (Below.refl _ _).alloc (Nat.le_refl _) _
    have hz47 : Kl.BoxZ Wa47 T47 := by rw [← hWa47, ← hT47]; exact Kl.BoxZ.new _ _
    have hS47 : Below wg3.heap.size wg3 Wa47 := hS45.trans (hab47.mono hS45.size)
    have hl47 : wg3.heap.size ≤ T47 := by rw [← hT47]; exact hS45.size
    have hne48 : T30 ≠ T47 := by have := (hc46).lt; omega
    have hc48 := (hc46).below hab47
    have hne49 : T45 ≠ T47 := by have := (hz45).lt; omega
    have hc49 := (hz45).below hab47
    rw [hWa47, hT47]
    refine hK.out _ _ hS47 (fun hHeld9 => ?_)
    clear hK K
    try simp only [Kl.pts]
    clear hWa47 hT47 hab47
    refine wpAnyH_ready (rs := [11]) (by kernel_rfl) (by simp) ?_
    refine AllReadyH.cons rfl (fun K hK => ?_) AllReadyH.nil
    try simp only [Kl.pts]
    have hzD := hz47
    obtain ⟨⟨d0, d1, d2, d3⟩, d4⟩ := hzD
    have d5 := (hz47).lt
    obtain ⟨hr50, hbz50, hbr50, hbb50⟩ := Kl.store_box (.int .i64 xo) (.int .i64 xv) (.int .i64 xn) (.slice xp kx xc) hz47
    go_simp
    have hS50 := hbb50 _ _ hl47 hS47
    refine hK.out _ _ hS50 (fun hHeld9 => ?_)
    clear hK K
    try simp only [Kl.pts]
    have hc51 := hbz50 _ hne48 hc48
    have hc52 := hbz50 _ hne49 hc49
    clear d0 d1 d2 d3 d4 d5 hHeld9 hbz50 hbr50 hbb50
    generalize ((((World.setCell Wa47 ⟨T47, 0, none⟩ (.int .i64 xo)).setCell ⟨T47, 1, none⟩ (.int .i64 xv)).setCell ⟨T47, 2, none⟩ (.int .i64 xn)).setCell ⟨T47, 3, none⟩ (.slice xp kx xc)) = Ws50 at hS50 hr50 hc51 hc52 ⊢
    refine wpAnyH_ready (rs := [12]) (by kernel_rfl) (by simp) ?_
    refine AllReadyH.cons rfl (fun K hK => ?_) AllReadyH.nil
    try simp only [Kl.pts]
    have hzD := hc51
    obtain ⟨⟨d0, d1, d2, d3⟩, d4⟩ := hzD
    have d5 := (hc51).lt
    obtain ⟨hr53, hbz53, hbr53, hbb53⟩ := Kl.store_box (.int .i64 yo) (.int .i64 yv) (.int .i64 yn) (.slice yp ky yc) hc51
    go_simp
    have hS53 := hbb53 _ _ hl30 hS50
    refine hK.out _ _ hS53 (fun hHeld9 => ?_)
    clear hK K
    try simp only [Kl.pts]
    have hc54 := hbz53 _ (Ne.symm hne46) hc52
    have hc55 := hbr53 _ _ (Ne.symm hne48) hr50
    clear d0 d1 d2 d3 d4 d5 hHeld9 hbz53 hbr53 hbb53
    generalize ((((World.setCell Ws50 ⟨T30, 0, none⟩ (.int .i64 yo)).setCell ⟨T30, 1, none⟩ (.int .i64 yv)).setCell ⟨T30, 2, none⟩ (.int .i64 yn)).setCell ⟨T30, 3, none⟩ (.slice yp ky yc)) = Ws53 at hS53 hr53 hc54 hc55 ⊢
    refine wpAnyH_ready (rs := [13]) (by kernel_rfl) (by simp) ?_
    refine AllReadyH.cons rfl (fun K hK => ?_) AllReadyH.nil
    try simp only [Kl.pts]
    have hzD := hc54
    obtain ⟨⟨d0, d1, d2, d3⟩, d4⟩ := hzD
    have d5 := (hc54).lt
    obtain ⟨hr56, hbz56, hbr56, hbb56⟩ := Kl.store_box (.int .i64 zo) (.int .i64 zv) (.int .i64 zn) (.slice zp kz zc) hc54
    go_simp
    have hS56 := hbb56 _ _ hl45 hS53
    refine hK.out _ _ hS56 (fun hHeld9 => ?_)
    clear hK K
    try simp only [Kl.pts]
    have hc57 := hbr56 _ _ hne46 hr53
    have hc58 := hbr56 _ _ (Ne.symm hne49) hc55
    clear d0 d1 d2 d3 d4 d5 hHeld9 hbz56 hbr56 hbb56
    generalize ((((World.setCell Ws53 ⟨T45, 0, none⟩ (.int .i64 zo)).setCell ⟨T45, 1, none⟩ (.int .i64 zv)).setCell ⟨T45, 2, none⟩ (.int .i64 zn)).setCell ⟨T45, 3, none⟩ (.slice zp kz zc)) = Ws56 at hS56 hr56 hc57 hc58 ⊢
    refine Kl.tk 14 (.slice pv nv cv) rfl (by kernel_rfl) (fun _ _ _ h => h) (by assumption) (Or.inl ⟨by rfl, ?y14⟩) ?_
    case y14 => (intro w' hSw; obtain ⟨b0, b1, b2, b3, b4, b5, b6, b7, b8, b9, b10, b11, b12⟩ := HSO.out w' hSw; go_simp)
    try simp only [Kl.pts]
    refine wpAnyH_done (by kernel_rfl) ?_ _
    go_wp2_with fail
    go_meet
    exact ⟨_, _, _, rfl, rfl, rfl, rfl, ⟨hc58, hc57, hr56⟩, HBg3.out.trans (hS56.mono HBg3.out.size)⟩
  refine AllReadyH.cons rfl (fun K hK => ?_) AllReadyH.nil
  try simp only [Kl.pts]
  go_simp
  obtain ⟨Wa59, hWa59⟩ : ∃ V, W00.alloc (.cells #[.int .i64 0, .int .i64 0, .int .i64 0, .slice none 0 0] 37) = V := ⟨_, rfl⟩
  obtain ⟨T59, hT59⟩ : ∃ T, W00.heap.size = T := ⟨_, rfl⟩
  have hab59 : Below W00.heap.size W00 Wa59 := by rw [← hWa59]; exact (Below.refl _ _).alloc (Nat.le_refl _) _
  have hz59 : Kl.BoxZ Wa59 T59 := by rw [← hWa59, ← hT59]; exact Kl.BoxZ.new _ _
  have hS59 : Below wg3.heap.size wg3 Wa59 := hS0.trans (hab59.mono hS0.size)
  have hl59 : wg3.heap.size ≤ T59 := by rw [← hT59]; exact hS0.size
  rw [hWa59, hT59]
  refine hK.out _ _ hS59 (fun hHeld9 => ?_)
  clear hK K
  try simp only [Kl.pts]
  clear hWa59 hT59 hab59
  refine wpAnyH_ready (rs := [8, 9]) (by kernel_rfl) (by simp) ?_
  refine AllReadyH.cons rfl (fun K hK => ?_) ?_
  · try simp only [Kl.pts]
    go_simp
    obtain ⟨Wa60, hWa60⟩ : ∃ V, Wa59.alloc (.cells #[.int .i64 0, .int .i64 0, .int .i64 0, .slice none 0 0] 37) = V := ⟨_, rfl⟩
    obtain ⟨T60, hT60⟩ : ∃ T, Wa59.heap.size = T := ⟨_, rfl⟩
    have hab60 : Below Wa59.heap.size Wa59 Wa60 := by rw [← hWa60]; exact (Below.refl _ _).alloc (Nat.le_refl _) _
    have hz60 : Kl.BoxZ Wa60 T60 := by rw [← hWa60, ← hT60]; exact Kl.BoxZ.new _ _
    have hS60 : Below wg3.heap.size wg3 Wa60 := hS59.trans (hab60.mono hS59.size)
    have hl60 : wg3.heap.size ≤ T60 := by rw [← hT60]; exact hS59.size
    have hne61 : T59 ≠ T60 := by have := (hz59).lt; omega
    have hc61 := (hz59).below hab60
    rw [hWa60, hT60]
    refine hK.out _ _ hS60 (fun hHeld9 => ?_)
    clear hK K
    try simp only [Kl.pts]
    clear hWa60 hT60 hab60
    refine wpAnyH_ready (rs := [9]) (by kernel_rfl) (by simp) ?_
    refine AllReadyH.cons rfl (fun K hK => ?_) AllReadyH.nil
    try simp only [Kl.pts]
    go_simp
    obtain ⟨Wa62, hWa62⟩ : ∃ V, Wa60.alloc (.cells #[.int .i64 0, .int .i64 0, .int .i64 0, .slice none 0 0] 37) = V := ⟨_, rfl⟩
    obtain ⟨T62, hT62⟩ : ∃ T, Wa60.heap.size = T := ⟨_, rfl⟩
    have hab62 : Below Wa60.heap.size Wa60 Wa62 := by rw [← hWa62]; exact (Below.refl _ _).alloc (Nat.le_refl _) _
    have hz62 : Kl.BoxZ Wa62 T62 := by rw [← hWa62, ← hT62]; exact Kl.BoxZ.new _ _
    have hS62 : Below wg3.heap.size wg3 Wa62 := hS60.trans (hab62.mono hS60.size)
    have hl62 : wg3.heap.size ≤ T62 := by rw [← hT62]; exact hS60.size
    have hne63 : T59 ≠ T62 := by have := (hc61).lt; omega
    have hc63 := (hc61).below hab62
    have hne64 : T60 ≠ T62 := by have := (hz60).lt; omega
    have hc64 := (hz60).below hab62
    rw [hWa62, hT62]
    refine hK.out _ _ hS62 (fun hHeld9 => ?_)
    clear hK K
    try simp only [Kl.pts]
    clear hWa62 hT62 hab62
    refine wpAnyH_ready (rs := [11]) (by kernel_rfl) (by simp) ?_
    refine AllReadyH.cons rfl (fun K hK => ?_) AllReadyH.nil
    try simp only [Kl.pts]
    have hzD := hc64
    obtain ⟨⟨d0, d1, d2, d3⟩, d4⟩ := hzD
    have d5 := (hc64).lt
    obtain ⟨hr65, hbz65, hbr65, hbb65⟩ := Kl.store_box (.int .i64 xo) (.int .i64 xv) (.int .i64 xn) (.slice xp kx xc) hc64
    go_simp
    have hS65 := hbb65 _ _ hl60 hS62
    refine hK.out _ _ hS65 (fun hHeld9 => ?_)
    clear hK K
    try simp only [Kl.pts]
    have hc66 := hbz65 _ hne61 hc63
    have hc67 := hbz65 _ (Ne.symm hne64) hz62
    clear d0 d1 d2 d3 d4 d5 hHeld9 hbz65 hbr65 hbb65
    generalize ((((World.setCell Wa62 ⟨T60, 0, none⟩ (.int .i64 xo)).setCell ⟨T60, 1, none⟩ (.int .i64 xv)).setCell ⟨T60, 2, none⟩ (.int .i64 xn)).setCell ⟨T60, 3, none⟩ (.slice xp kx xc)) = Ws65 at hS65 hr65 hc66 hc67 ⊢
    refine wpAnyH_ready (rs := [12]) (by kernel_rfl) (by simp) ?_
    refine AllReadyH.cons rfl (fun K hK => ?_) AllReadyH.nil
    try simp only [Kl.pts]
    have hzD := hc67
    obtain ⟨⟨d0, d1, d2, d3⟩, d4⟩ := hzD
    have d5 := (hc67).lt
    obtain ⟨hr68, hbz68, hbr68, hbb68⟩ := Kl.store_box (.int .i64 yo) (.int .i64 yv) (.int .i64 yn) (.slice yp ky yc) hc67
    go_simp
    have hS68 := hbb68 _ _ hl62 hS65
    refine hK.out _ _ hS68 (fun hHeld9 => ?_)
    clear hK K
    try simp only [Kl.pts]
    have hc69 := hbz68 _ hne63 hc66
    have hc70 := hbr68 _ _ hne64 hr65
    clear d0 d1 d2 d3 d4 d5 hHeld9 hbz68 hbr68 hbb68
    generalize ((((World.setCell Ws65 ⟨T62, 0, none⟩ (.int .i64 yo)).setCell ⟨T62, 1, none⟩ (.int .i64 yv)).setCell ⟨T62, 2, none⟩ (.int .i64 yn)).setCell ⟨T62, 3, none⟩ (.slice yp ky yc)) = Ws68 at hS68 hr68 hc69 hc70 ⊢
    refine wpAnyH_ready (rs := [13]) (by kernel_rfl) (by simp) ?_
    refine AllReadyH.cons rfl (fun K hK => ?_) AllReadyH.nil
    try simp only [Kl.pts]
    have hzD := hc69
    obtain ⟨⟨d0, d1, d2, d3⟩, d4⟩ := hzD
    have d5 := (hc69).lt
    obtain ⟨hr71, hbz71, hbr71, hbb71⟩ := Kl.store_box (.int .i64 zo) (.int .i64 zv) (.int .i64 zn) (.slice zp kz zc) hc69
    go_simp
    have hS71 := hbb71 _ _ hl59 hS68
    refine hK.out _ _ hS71 (fun hHeld9 => ?_)
    clear hK K
    try simp only [Kl.pts]
    have hc72 := hbr71 _ _ (Ne.symm hne61) hc70
    have hc73 := hbr71 _ _ (Ne.symm hne63) hr68
    clear d0 d1 d2 d3 d4 d5 hHeld9 hbz71 hbr71 hbb71
    generalize ((((World.setCell Ws68 ⟨T59, 0, none⟩ (.int .i64 zo)).setCell ⟨T59, 1, none⟩ (.int .i64 zv)).setCell ⟨T59, 2, none⟩ (.int .i64 zn)).setCell ⟨T59, 3, none⟩ (.slice zp kz zc)) = Ws71 at hS71 hr71 hc72 hc73 ⊢
    refine Kl.tk 14 (.slice pv nv cv) rfl (by kernel_rfl) (fun _ _ _ h => h) (by assumption) (Or.inl ⟨by rfl, ?y14⟩) ?_
    case y14 => (intro w' hSw; obtain ⟨b0, b1, b2, b3, b4, b5, b6, b7, b8, b9, b10, b11, b12⟩ := HSO.out w' hSw; go_simp)
    try simp only [Kl.pts]
    refine wpAnyH_done (by kernel_rfl) ?_ _
    go_wp2_with fail
    go_meet
    exact ⟨_, _, _, rfl, rfl, rfl, rfl, ⟨hc72, hc73, hr71⟩, HBg3.out.trans (hS71.mono HBg3.out.size)⟩
  refine AllReadyH.cons rfl (fun K hK => ?_) AllReadyH.nil
  try simp only [Kl.pts]
  go_simp
  obtain ⟨Wa74, hWa74⟩ : ∃ V, Wa59.alloc (.cells #[.int .i64 0, .int .i64 0, .int .i64 0, .slice none 0 0] 37) = V := ⟨_, rfl⟩
  obtain ⟨T74, hT74⟩ : ∃ T, Wa59.heap.size = T := ⟨_, rfl⟩
  have hab74 : Below Wa59.heap.size Wa59 Wa74 := by rw [← hWa74]; exact (Below.refl _ _).alloc (Nat.le_refl _) _
  have hz74 : Kl.BoxZ Wa74 T74 := by rw [← hWa74, ← hT74]; exact Kl.BoxZ.new _ _
  have hS74 : Below wg3.heap.size wg3 Wa74 := hS59.trans (hab74.mono hS59.size)
  have hl74 : wg3.heap.size ≤ T74 := by rw [← hT74]; exact hS59.size
  have hne75 : T59 ≠ T74 := by have := (hz59).lt; omega
  have hc75 := (hz59).below hab74
  rw [hWa74, hT74]
  refine hK.out _ _ hS74 (fun hHeld9 => ?_)
  clear hK K
  try simp only [Kl.pts]
  clear hWa74 hT74 hab74
  refine wpAnyH_ready (rs := [8]) (by kernel_rfl) (by simp) ?_
  refine AllReadyH.cons rfl (fun K hK => ?_) AllReadyH.nil
  try simp only [Kl.pts]
  go_simp
  obtain ⟨Wa76, hWa76⟩ : ∃ V, Wa74.alloc (.cells #[.int .i64 0, .int .i64 0, .int .i64 0, .slice none 0 0] 37) = V := ⟨_, rfl⟩
  obtain ⟨T76, hT76⟩ : ∃ T, Wa74.heap.size = T := ⟨_, rfl⟩
  have hab76 : Below Wa74.heap.size Wa74 Wa76 := by rw [← hWa76]; exact (Below.refl _ _).alloc (Nat.le_refl _) _
  have hz76 : Kl.BoxZ Wa76 T76 := by rw [← hWa76, ← hT76]; exact Kl.BoxZ.new _ _
  have hS76 : Below wg3.heap.size wg3 Wa76 := hS74.trans (hab76.mono hS74.size)
  have hl76 : wg3.heap.size ≤ T76 := by rw [← hT76]; exact hS74.size
  have hne77 : T59 ≠ T76 := by have := (hc75).lt; omega
  have hc77 := (hc75).below hab76
  have hne78 : T74 ≠ T76 := by have := (hz74).lt; omega
  have hc78 := (hz74).below hab76
  rw [hWa76, hT76]
  refine hK.out _ _ hS76 (fun hHeld9 => ?_)
  clear hK K
  try simp only [Kl.pts]
  clear hWa76 hT76 hab76
  refine wpAnyH_ready (rs := [11]) (by kernel_rfl) (by simp) ?_
  refine AllReadyH.cons rfl (fun K hK => ?_) AllReadyH.nil
  try simp only [Kl.pts]
  have hzD := hz76
  obtain ⟨⟨d0, d1, d2, d3⟩, d4⟩ := hzD
  have d5 := (hz76).lt
  obtain ⟨hr79, hbz79, hbr79, hbb79⟩ := Kl.store_box (.int .i64 xo) (.int .i64 xv) (.int .i64 xn) (.slice xp kx xc) hz76
  go_simp
  have hS79 := hbb79 _ _ hl76 hS76
  refine hK.out _ _ hS79 (fun hHeld9 => ?_)
  clear hK K
  try simp only [Kl.pts]
  have hc80 := hbz79 _ hne77 hc77
  have hc81 := hbz79 _ hne78 hc78
  clear d0 d1 d2 d3 d4 d5 hHeld9 hbz79 hbr79 hbb79
  generalize ((((World.setCell Wa76 ⟨T76, 0, none⟩ (.int .i64 xo)).setCell ⟨T76, 1, none⟩ (.int .i64 xv)).setCell ⟨T76, 2, none⟩ (.int .i64 xn)).setCell ⟨T76, 3, none⟩ (.slice xp kx xc)) = Ws79 at hS79 hr79 hc80 hc81 ⊢
  refine wpAnyH_ready (rs := [12]) (by kernel_rfl) (by simp) ?_
  refine AllReadyH.cons rfl (fun K hK => ?_) AllReadyH.nil
  try simp only [Kl.pts]
  have hzD := hc81
  obtain ⟨⟨d0, d1, d2, d3⟩, d4⟩ := hzD
  have d5 := (hc81).lt
  obtain ⟨hr82, hbz82, hbr82, hbb82⟩ := Kl.store_box (.int .i64 yo) (.int .i64 yv) (.int .i64 yn) (.slice yp ky yc) hc81
  go_simp
  have hS82 := hbb82 _ _ hl74 hS79
  refine hK.out _ _ hS82 (fun hHeld9 => ?_)
  clear hK K
  try simp only [Kl.pts]
  have hc83 := hbz82 _ hne75 hc80
  have hc84 := hbr82 _ _ (Ne.symm hne78) hr79
  clear d0 d1 d2 d3 d4 d5 hHeld9 hbz82 hbr82 hbb82
  generalize ((((World.setCell Ws79 ⟨T74, 0, none⟩ (.int .i64 yo)).setCell ⟨T74, 1, none⟩ (.int .i64 yv)).setCell ⟨T74, 2, none⟩ (.int .i64 yn)).setCell ⟨T74, 3, none⟩ (.slice yp ky yc)) = Ws82 at hS82 hr82 hc83 hc84 ⊢
  refine wpAnyH_ready (rs := [13]) (by kernel_rfl) (by simp) ?_
  refine AllReadyH.cons rfl (fun K hK => ?_) AllReadyH.nil
  try simp only [Kl.pts]
  have hzD := hc83
  obtain ⟨⟨d0, d1, d2, d3⟩, d4⟩ := hzD
  have d5 := (hc83).lt
  obtain ⟨hr85, hbz85, hbr85, hbb85⟩ := Kl.store_box (.int .i64 zo) (.int .i64 zv) (.int .i64 zn) (.slice zp kz zc) hc83
  go_simp
  have hS85 := hbb85 _ _ hl59 hS82
  refine hK.out _ _ hS85 (fun hHeld9 => ?_)
  clear hK K
  try simp only [Kl.pts]
  have hc86 := hbr85 _ _ (Ne.symm hne75) hr82
  have hc87 := hbr85 _ _ (Ne.symm hne77) hc84
  clear d0 d1 d2 d3 d4 d5 hHeld9 hbz85 hbr85 hbb85
  generalize ((((World.setCell Ws82 ⟨T59, 0, none⟩ (.int .i64 zo)).setCell ⟨T59, 1, none⟩ (.int .i64 zv)).setCell ⟨T59, 2, none⟩ (.int .i64 zn)).setCell ⟨T59, 3, none⟩ (.slice zp kz zc)) = Ws85 at hS85 hr85 hc86 hc87 ⊢
  refine Kl.tk 14 (.slice pv nv cv) rfl (by kernel_rfl) (fun _ _ _ h => h) (by assumption) (Or.inl ⟨by rfl, ?y14⟩) ?_
  case y14 => (intro w' hSw; obtain ⟨b0, b1, b2, b3, b4, b5, b6, b7, b8, b9, b10, b11, b12⟩ := HSO.out w' hSw; go_simp)
  try simp only [Kl.pts]
  refine wpAnyH_done (by kernel_rfl) ?_ _
  go_wp2_with fail
  go_meet
  exact ⟨_, _, _, rfl, rfl, rfl, rfl, ⟨hc87, hc86, hr85⟩, HBg3.out.trans (hS85.mono HBg3.out.size)⟩
 case rest =>
  obtain ⟨B1, B2, B3, rfl, rfl, rfl, rfl, HBC, HB3⟩ := hcut
  obtain ⟨W3, hW3⟩ : ∃ V, V = wc := ⟨_, rfl⟩
  subst hW3
  have HCB : Hid (∀ W', Below W3.heap.size W3 W' → W'.cell? ⟨B1, 0, none⟩ = some (.int .i64 xo) ∧ W'.cell? ⟨B1, 1, none⟩ = some (.int .i64 xv) ∧ W'.cell? ⟨B1, 2, none⟩ = some (.int .i64 xn) ∧ W'.cell? ⟨B1, 3, none⟩ = some (.slice xp kx xc) ∧ W'.cell? ⟨B2, 0, none⟩ = some (.int .i64 yo) ∧ W'.cell? ⟨B2, 1, none⟩ = some (.int .i64 yv) ∧ W'.cell? ⟨B2, 2, none⟩ = some (.int .i64 yn) ∧ W'.cell? ⟨B2, 3, none⟩ = some (.slice yp ky yc) ∧ W'.cell? ⟨B3, 0, none⟩ = some (.int .i64 zo) ∧ W'.cell? ⟨B3, 1, none⟩ = some (.int .i64 zv) ∧ W'.cell? ⟨B3, 2, none⟩ = some (.int .i64 zn) ∧ W'.cell? ⟨B3, 3, none⟩ = some (.slice zp kz zc)) := fun W' h => by
   obtain ⟨r1, r2, r3⟩ := HBC.out
   have r1 := Kl.range_bel r1 h
   have r2 := Kl.range_bel r2 h
   have r3 := Kl.range_bel r3 h
   exact ⟨by simpa using r1 0 _ rfl, by simpa using r1 1 _ rfl, by simpa using r1 2 _ rfl, by simpa using r1 3 _ rfl, by simpa using r2 0 _ rfl, by simpa using r2 1 _ rfl, by simpa using r2 2 _ rfl, by simpa using r2 3 _ rfl, by simpa using r3 0 _ rfl, by simpa using r3 1 _ rfl, by simpa using r3 2 _ rfl, by simpa using r3 3 _ rfl⟩
  clear HBC HBQ
  have CTX2 := hide' (CTX.out (by have := HGX.out; omega))
  have CTY2 := hide' (CTY.out (by have := HGY.out; omega))
  have CTZ2 := hide' (CTZ.out (by have := HGZ.out; omega))
  have CNX2 := hide' (CNX.out (by have := HGX.out; omega))
  have CNY2 := hide' (CNY.out (by have := HGY.out; omega))
  have CNZ2 := hide' (CNZ.out (by have := HGZ.out; omega))
  clear CTX CTY CTZ CNX CNY CNZ
  go_wp2_with fail
  refine (klFixed _).mono ?_
  rintro r w4 ⟨rfl, hb⟩
  have HB4 := hide' (HB3.out.trans (hb.mono HB3.out.size))
  have H34 := hide' hb
  clear hb
  obtain ⟨z0, z1, z2, z3, z4, z5, z6, z7, z8, z9, z10, z11⟩ := HCB.out w4 H34.out
  go_wp2_with fail
  obtain ⟨WL, hWL⟩ : ∃ V, w4.alloc (.cells #[.int .i64 xo, .int .i64 xv, .int .i64 xn, .slice xp kx xc, .int .i64 yo, .int .i64 yv, .int .i64 yn, .slice yp ky yc, .int .i64 zo, .int .i64 zv, .int .i64 zn, .slice zp kz zc] 37) = V := ⟨_, rfl⟩
  obtain ⟨BS, hBS⟩ : ∃ B, w4.heap.size = B := ⟨_, rfl⟩
  have HBL : Hid (Below W3.heap.size W3 WL) := by rw [← hWL]; exact H34.out.alloc H34.out.size _
  have HCS : Hid (∀ w', Below WL.heap.size WL w' → w'.cell? ⟨BS, 0, none⟩ = some (.int .i64 xo) ∧ w'.cell? ⟨BS, 1, none⟩ = some (.int .i64 xv) ∧ w'.cell? ⟨BS, 2, none⟩ = some (.int .i64 xn) ∧ w'.cell? ⟨BS, 3, none⟩ = some (.slice xp kx xc) ∧ w'.cell? ⟨BS, 4, none⟩ = some (.int .i64 yo) ∧ w'.cell? ⟨BS, 5, none⟩ = some (.int .i64 yv) ∧ w'.cell? ⟨BS, 6, none⟩ = some (.int .i64 yn) ∧ w'.cell? ⟨BS, 7, none⟩ = some (.slice yp ky yc) ∧ w'.cell? ⟨BS, 8, none⟩ = some (.int .i64 zo) ∧ w'.cell? ⟨BS, 9, none⟩ = some (.int .i64 zv) ∧ w'.cell? ⟨BS, 10, none⟩ = some (.int .i64 zn) ∧ w'.cell? ⟨BS, 11, none⟩ = some (.slice zp kz zc)) := fun w' h => by
   have hw0 : BS < WL.heap.size := by rw [← hWL, ← hBS]; simp
   have e : ∀ o, w'.cell? ⟨BS, o, none⟩ = WL.cell? ⟨BS, o, none⟩ := fun o => h.cell (p := ⟨BS, o, none⟩) hw0
   rw [e, e, e, e, e, e, e, e, e, e, e, e, ← hWL, ← hBS]
   refine ⟨?_, ?_, ?_, ?_, ?_, ?_, ?_, ?_, ?_, ?_, ?_, ?_⟩ <;> simp
  have YC : Hid (∀ F y w', Kl.Ok w' y → Kl.ct y = F → Kl.sz F ≤ 65536 → Calls Try.prog 20 #[.agg y.enc.toArray] w' fun e w2 => e = .returned (.int .i64 (Kl.erO (Kl.isG F))) ∧ Kl.Gr w' w2) := fun F y w' ho hc hs => by
   have := klCheck y w' ho
   rw [hc, Kl.isF_isG F _ (by omega)] at this
   exact this
  have HBU : Hid (∀ w', Below WL.heap.size WL w' → Below w.heap.size w w') := fun w' h => HUP.out _ (HB3.out.trans ((HBL.out.trans (h.mono HBL.out.size)).mono HB3.out.size))
  rw [hWL, hBS]
  clear hWL hBS z0 z1 z2 z3 z4 z5 z6 z7 z8 z9 z10 z11 H34 HB4
  go_loopw [49] (fun u wr => ∃ (i : Nat), u = .int .i64 i ∧ Hid (i = 0 ∨ (i = 1 ∧ Kl.isG X = true) ∨ (i = 2 ∧ Kl.isG X = true ∧ Kl.isG Y = true) ∨ (i = 3 ∧ Kl.isG X = true ∧ Kl.isG Y = true ∧ Kl.isG Z = true)) ∧ Hid (Below WL.heap.size WL wr)) (fun u _ => 3 - (RowKit.intOf u).toNat)
  case atStart => exact ⟨0, rfl, .inl rfl, Below.refl _ _⟩
  case round =>
   obtain ⟨i, rfl, HI, HB⟩ := hrel
   obtain ⟨c0, c1, c2, c3, c4, c5, c6, c7, c8, c9, c10, c11⟩ := HCS.out wr HB.out
   have hzr : w.heap.size < wr.heap.size := by have := (HBU.out _ HB.out).size; have h2 := HB.out.size; have h3 := HBL.out.size; have h4 := HB3.out.size; rw [HZW.out] at h4; omega
   have hzs : BS < wr.heap.size := block_lt_of_cell c0
   rcases HI.out with rfl | ⟨rfl, e1⟩ | ⟨rfl, e1, e2⟩ | ⟨rfl, e1, e2, e3⟩
   · have HG := hide' HI.out
     skip
     skip
     clear HI HG c4 c5 c6 c7 c8 c9 c10 c11  
     go_wp2_with fail
     refine (CTX2.out _ (HBU.out _ (HB.out.alloc HB.out.size _))).mono ?_
     rintro r w1 ⟨y, qo, qv, qn, qp, kq, qc, rfl, HY, HO, HC, HFP, hb⟩
     have HB1 : Hid (Below WL.heap.size WL w1) := (HB.out.alloc HB.out.size _).trans (hb.out.mono (HB.out.alloc HB.out.size _).size)
     have K := hide' (YC.out X y w1 HO.out HC.out (by have := HGX.out; rw [HSX.out]; exact this))
     rw [HY.out] at K
     clear hb HB HY HO HC HFP c0 c1 c2 c3
     go_wp2_with fail
     refine K.out.mono ?_
     rintro r w2 ⟨rfl, hg⟩
     have HB2 : Hid (Below WL.heap.size WL w2) := HB1.out.trans (hg.below.mono HB1.out.size)
     clear hg K HB1
     cases hG : Kl.isG X with
     | false =>
       simp only [Kl.erO]
       clear hG
       go_wp2_with fail
       go_ret
       exact ⟨rfl, HBU.out _ HB2.out⟩
     | true =>
       simp only [Kl.erO]
       have HGF := hide' hG
       clear hG
       go_wp2_with fail
       go_roundw
       case rel => exact ⟨1, rfl, .inr (.inl ⟨rfl, HGF.out⟩), HB2⟩
       case measure => simp [RowKit.intOf]
   · have HG := hide' HI.out
     have HG1 := hide' e1
     skip
     clear HI HG c0 c1 c2 c3 c8 c9 c10 c11 e1 
     go_wp2_with fail
     refine (CTY2.out _ (HBU.out _ (HB.out.alloc HB.out.size _))).mono ?_
     rintro r w1 ⟨y, qo, qv, qn, qp, kq, qc, rfl, HY, HO, HC, HFP, hb⟩
     have HB1 : Hid (Below WL.heap.size WL w1) := (HB.out.alloc HB.out.size _).trans (hb.out.mono (HB.out.alloc HB.out.size _).size)
     have K := hide' (YC.out Y y w1 HO.out HC.out (by have := HGY.out; rw [HSY.out]; exact this))
     rw [HY.out] at K
     clear hb HB HY HO HC HFP c4 c5 c6 c7
     go_wp2_with fail
     refine K.out.mono ?_
     rintro r w2 ⟨rfl, hg⟩
     have HB2 : Hid (Below WL.heap.size WL w2) := HB1.out.trans (hg.below.mono HB1.out.size)
     clear hg K HB1
     cases hG : Kl.isG Y with
     | false =>
       simp only [Kl.erO]
       clear hG
       go_wp2_with fail
       go_ret
       exact ⟨rfl, HBU.out _ HB2.out⟩
     | true =>
       simp only [Kl.erO]
       have HGF := hide' hG
       clear hG
       go_wp2_with fail
       go_roundw
       case rel => exact ⟨2, rfl, .inr (.inr (.inl ⟨rfl, HG1.out, HGF.out⟩)), HB2⟩
       case measure => simp [RowKit.intOf]
   · have HG := hide' HI.out
     have HG1 := hide' e1
     have HG2 := hide' e2
     clear HI HG c0 c1 c2 c3 c4 c5 c6 c7 e1 e2
     go_wp2_with fail
     refine (CTZ2.out _ (HBU.out _ (HB.out.alloc HB.out.size _))).mono ?_
     rintro r w1 ⟨y, qo, qv, qn, qp, kq, qc, rfl, HY, HO, HC, HFP, hb⟩
     have HB1 : Hid (Below WL.heap.size WL w1) := (HB.out.alloc HB.out.size _).trans (hb.out.mono (HB.out.alloc HB.out.size _).size)
     have K := hide' (YC.out Z y w1 HO.out HC.out (by have := HGZ.out; rw [HSZ.out]; exact this))
     rw [HY.out] at K
     clear hb HB HY HO HC HFP c8 c9 c10 c11
     go_wp2_with fail
     refine K.out.mono ?_
     rintro r w2 ⟨rfl, hg⟩
     have HB2 : Hid (Below WL.heap.size WL w2) := HB1.out.trans (hg.below.mono HB1.out.size)
     clear hg K HB1
     cases hG : Kl.isG Z with
     | false =>
       simp only [Kl.erO]
       clear hG
       go_wp2_with fail
       go_ret
       exact ⟨rfl, HBU.out _ HB2.out⟩
     | true =>
       simp only [Kl.erO]
       have HGF := hide' hG
       clear hG
       go_wp2_with fail
       go_roundw
       case rel => exact ⟨3, rfl, .inr (.inr (.inr ⟨rfl, HG1.out, HG2.out, HGF.out⟩)), HB2⟩
       case measure => simp [RowKit.intOf]
   · rw [show ((3 : Nat) : Int) = 3 from rfl]
     have HG1 := hide' e1
     have HG2 := hide' e2
     have HG3 := hide' e3
     obtain ⟨WA, hWA⟩ : ∃ V, V = wr := ⟨_, rfl⟩
     subst hWA
     have HBA : Hid (Below W3.heap.size W3 WA) := HBL.out.trans (HB.out.mono HBL.out.size)
     clear c0 c1 c2 c3 c4 c5 c6 c7 c8 c9 c10 c11 e1 e2 e3 HI HB HCS YC HBL HBU hzs hzr
     have HUA : Hid (∀ w', Below W3.heap.size W3 w' → Below w.heap.size w w') := fun w' h => HUP.out _ (HB3.out.trans (h.mono HB3.out.size))
     go_upto_region 12 with fail
     go_cut [9] from 58 to 65 (fun a wx => ∃ T, a = .pointer (some ⟨T, 0, none⟩) ∧ Hid (Kl.BoxF wx T (.mk 2 0 0 [X, Y, Z])) ∧ Hid (Below WA.heap.size WA wx))
     case first =>
      have hS0 : Below WA.heap.size WA WA.drew := (Below.refl _ _).drew
      have HSO : Hid (∀ W', Below WA.heap.size WA W' → W'.cell? ⟨B1, 0, none⟩ = some (.int .i64 xo) ∧ W'.cell? ⟨B1, 1, none⟩ = some (.int .i64 xv) ∧ W'.cell? ⟨B1, 2, none⟩ = some (.int .i64 xn) ∧ W'.cell? ⟨B1, 3, none⟩ = some (.slice xp kx xc) ∧ W'.cell? ⟨B2, 0, none⟩ = some (.int .i64 yo) ∧ W'.cell? ⟨B2, 1, none⟩ = some (.int .i64 yv) ∧ W'.cell? ⟨B2, 2, none⟩ = some (.int .i64 yn) ∧ W'.cell? ⟨B2, 3, none⟩ = some (.slice yp ky yc) ∧ W'.cell? ⟨B3, 0, none⟩ = some (.int .i64 zo) ∧ W'.cell? ⟨B3, 1, none⟩ = some (.int .i64 zv) ∧ W'.cell? ⟨B3, 2, none⟩ = some (.int .i64 zn) ∧ W'.cell? ⟨B3, 3, none⟩ = some (.slice zp kz zc)) := fun W' h => HCB.out W' (HBA.out.trans (h.mono HBA.out.size))
      have CTXr := hide' (fun W' (h : Below WA.heap.size WA W') => CTX2.out W' (HUA.out _ (HBA.out.trans (h.mono HBA.out.size))))
      have CTYr := hide' (fun W' (h : Below WA.heap.size WA W') => CTY2.out W' (HUA.out _ (HBA.out.trans (h.mono HBA.out.size))))
      have CTZr := hide' (fun W' (h : Below WA.heap.size WA W') => CTZ2.out W' (HUA.out _ (HBA.out.trans (h.mono HBA.out.size))))
      have CNXr := hide' (fun W' (h : Below WA.heap.size WA W') => CNX2.out W' (HUA.out _ (HBA.out.trans (h.mono HBA.out.size))))
      have CNYr := hide' (fun W' (h : Below WA.heap.size WA W') => CNY2.out W' (HUA.out _ (HBA.out.trans (h.mono HBA.out.size))))
      have CNZr := hide' (fun W' (h : Below WA.heap.size WA W') => CNZ2.out W' (HUA.out _ (HBA.out.trans (h.mono HBA.out.size))))
      clear HCB CTX2 CTY2 CTZ2 CNX2 CNY2 CNZ2 CU
      refine wp_region_held_drew (S := fun W' => Below WA.heap.size WA W') (by kernel_rfl) hS0 (fun hHeld => ?_)
      simp only [List.size_toArray, List.length_cons, List.length_nil, Nat.reduceAdd]
      generalize WA.drew = W00 at hHeld hS0 ⊢
      refine Kl.tk 0 (.agg #[.int .i64 xo, .int .i64 xv, .int .i64 xn, .slice xp kx xc]) rfl (by kernel_rfl) (fun _ _ _ h => h) (by assumption) (Or.inl ⟨by rfl, ?y0⟩) ?_
      case y0 => (intro w1 h; obtain ⟨z0, z1, z2, z3, z4, z5, z6, z7, z8, z9, z10, z11⟩ := HSO.out w1 h; go_simp)
      try simp only [Kl.pts]
      refine Kl.tk 2 (.agg #[.int .i64 yo, .int .i64 yv, .int .i64 yn, .slice yp ky yc]) rfl (by kernel_rfl) (fun _ _ _ h => h) (by assumption) (Or.inl ⟨by rfl, ?y2⟩) ?_
      case y2 => (intro w1 h; obtain ⟨z0, z1, z2, z3, z4, z5, z6, z7, z8, z9, z10, z11⟩ := HSO.out w1 h; go_simp)
      try simp only [Kl.pts]
      refine Kl.tk 4 (.agg #[.int .i64 zo, .int .i64 zv, .int .i64 zn, .slice zp kz zc]) rfl (by kernel_rfl) (fun _ _ _ h => h) (by assumption) (Or.inl ⟨by rfl, ?y4⟩) ?_
      case y4 => (intro w1 h; obtain ⟨z0, z1, z2, z3, z4, z5, z6, z7, z8, z9, z10, z11⟩ := HSO.out w1 h; go_simp)
      try simp only [Kl.pts]
      refine wpAnyH_ready (rs := [1, 8]) (by kernel_rfl) (by simp) ?_
      refine AllReadyH.cons rfl (fun K hK => ?_) ?_
      · try simp only [Kl.pts]
        go_simp
        refine (CTXr.out _ hS0).mono ?_
        rintro e Wc337 ⟨q337, q337o, q337v, q337n, q337p, kq337, q337c, rfl, he337, ho337, hc337, hf337, hb337⟩
        have hS337 : Below WA.heap.size WA Wc337 := hS0.trans (hb337.out.mono hS0.size)
        refine hK.out _ _ hS337 (fun hHeld9 => ?_)
        clear hK K
        try simp only [Kl.pts]
        refine wpAnyH_ready (rs := [3, 8]) (by kernel_rfl) (by simp) ?_
        refine AllReadyH.cons rfl (fun K hK => ?_) ?_
        · try simp only [Kl.pts]
          go_simp
          refine (CTYr.out _ hS337).mono ?_
          rintro e Wc338 ⟨q338, q338o, q338v, q338n, q338p, kq338, q338c, rfl, he338, ho338, hc338, hf338, hb338⟩
          have hS338 : Below WA.heap.size WA Wc338 := hS337.trans (hb338.out.mono hS337.size)
          have ho339 := (ho337.out).below hb338.out
          refine hK.out _ _ hS338 (fun hHeld9 => ?_)
          clear hK K
          try simp only [Kl.pts]
          refine wpAnyH_ready (rs := [5, 8]) (by kernel_rfl) (by simp) ?_
          refine AllReadyH.cons rfl (fun K hK => ?_) ?_
          · try simp only [Kl.pts]
            go_simp
            refine (CTZr.out _ hS338).mono ?_
            rintro e Wc340 ⟨q340, q340o, q340v, q340n, q340p, kq340, q340c, rfl, he340, ho340, hc340, hf340, hb340⟩
            have hS340 : Below WA.heap.size WA Wc340 := hS338.trans (hb340.out.mono hS338.size)
            have ho341 := (ho339).below hb340.out
            have ho342 := (ho338.out).below hb340.out
            refine hK.out _ _ hS340 (fun hHeld9 => ?_)
            clear hK K
            try simp only [Kl.pts]
            refine wpAnyH_ready (rs := [6, 8]) (by kernel_rfl) (by simp) ?_
            refine AllReadyH.cons rfl (fun K hK => ?_) ?_
            · try simp only [Kl.pts]
              go_simp
              obtain ⟨Wb343, hWb343⟩ : ∃ V, Wc340.alloc (.cells #[.int .i64 q337o, .int .i64 q337v, .int .i64 q337n, .slice q337p kq337 q337c, .int .i64 q338o, .int .i64 q338v, .int .i64 q338n, .slice q338p kq338 q338c, .int .i64 q340o, .int .i64 q340v, .int .i64 q340n, .slice q340p kq340 q340c] 37) = V := ⟨_, rfl⟩
              obtain ⟨b343, hb343⟩ : ∃ B, Wc340.heap.size = B := ⟨_, rfl⟩
              obtain ⟨F343, hen343, ho343, hc343, hx343, hab343⟩ := Kl.row3 2 hWb343 hb343 (Kl.enc_of he337.out) (Kl.enc_of he338.out) (Kl.enc_of he340.out) ho341 ho342 ho340.out hc337.out hc338.out hc340.out
              have hS343 := hS340.trans (hab343.mono hS340.size)
              rw [hWb343, hb343]
              refine hK.out _ _ hS343 (fun hHeld9 => ?_)
              clear hK K
              try simp only [Kl.pts]
              clear hWb343
              refine Kl.tk 7 (.agg #[.int .i64 2, .int .i64 0, .int .i64 0, .slice (some ⟨b343, 0, none⟩) 3 3]) rfl (by kernel_rfl) (fun _ _ _ h => h) (by assumption) (Or.inl ⟨by rfl, ?y7⟩) ?_
              case y7 => (intro w1 h; go_simp)
              try simp only [Kl.pts]
              refine wpAnyH_ready (rs := [8]) (by kernel_rfl) (by simp) ?_
              refine AllReadyH.cons rfl (fun K hK => ?_) AllReadyH.nil
              try simp only [Kl.pts]
              go_simp
              obtain ⟨Wa344, hWa344⟩ : ∃ V, Wb343.alloc (.cells #[.int .i64 0, .int .i64 0, .int .i64 0, .slice none 0 0] 37) = V := ⟨_, rfl⟩
              have hab344 : Below Wb343.heap.size Wb343 Wa344 := by rw [← hWa344]; exact (Below.refl _ _).alloc (Nat.le_refl _) _
              have hz344 : Kl.BoxZ Wa344 Wb343.heap.size := by rw [← hWa344]; exact Kl.BoxZ.new _ _
              have hS344 : Below WA.heap.size WA Wa344 := hS343.trans (hab344.mono hS343.size)
              have hl344 : WA.heap.size ≤ Wb343.heap.size := hS343.size
              have ho345 := (ho343).below hab344
              have ht345 : Wb343.heap.size ∉ Kl.fp F343 := Kl.not_fp (ho343) (Nat.le_refl _)
              rw [hWa344]
              refine hK.out _ _ hS344 (fun hHeld9 => ?_)
              clear hK K
              try simp only [Kl.pts]
              clear hWa344
              refine wpAnyH_ready (rs := [9]) (by kernel_rfl) (by simp) ?_
              refine AllReadyH.cons rfl (fun K hK => ?_) AllReadyH.nil
              try simp only [Kl.pts]
              have hzD := hz344
              obtain ⟨⟨d0, d1, d2, d3⟩, d4⟩ := hzD
              have hRES := Kl.box_done (w0 := WA) (hc343) (hen343) hz344 (ho345) ht345 hl344 hS344
              have d5 : Wb343.heap.size < Wa344.heap.size := (hz344).lt
              go_simp
              refine hK.out _ _ hRES.2 (fun hHeld9 => ?_)
              clear hK K
              try simp only [Kl.pts]
              refine wpAnyH_done (by kernel_rfl) ?_ _
              go_wp2_with fail
              go_meet
              exact ⟨_, rfl, hRES.1, hRES.2⟩
            refine AllReadyH.cons rfl (fun K hK => ?_) AllReadyH.nil
            try simp only [Kl.pts]
            go_simp
            obtain ⟨Wa347, hWa347⟩ : ∃ V, Wc340.alloc (.cells #[.int .i64 0, .int .i64 0, .int .i64 0, .slice none 0 0] 37) = V := ⟨_, rfl⟩
            have hab347 : Below Wc340.heap.size Wc340 Wa347 := by rw [← hWa347]; exact (Below.refl _ _).alloc (Nat.le_refl _) _
            have hz347 : Kl.BoxZ Wa347 Wc340.heap.size := by rw [← hWa347]; exact Kl.BoxZ.new _ _
            have hS347 : Below WA.heap.size WA Wa347 := hS340.trans (hab347.mono hS340.size)
            have hl347 : WA.heap.size ≤ Wc340.heap.size := hS340.size
            have ho348 := (ho341).below hab347
            have ht348 : Wc340.heap.size ∉ Kl.fp q337 := Kl.not_fp (ho341) (Nat.le_refl _)
            have ho349 := (ho342).below hab347
            have ht349 : Wc340.heap.size ∉ Kl.fp q338 := Kl.not_fp (ho342) (Nat.le_refl _)
            have ho350 := (ho340.out).below hab347
            have ht350 : Wc340.heap.size ∉ Kl.fp q340 := Kl.not_fp (ho340.out) (Nat.le_refl _)
            rw [hWa347]
            refine hK.out _ _ hS347 (fun hHeld9 => ?_)
            clear hK K
            try simp only [Kl.pts]
            clear hWa347
            refine wpAnyH_ready (rs := [6]) (by kernel_rfl) (by simp) ?_
            refine AllReadyH.cons rfl (fun K hK => ?_) AllReadyH.nil
            try simp only [Kl.pts]
            go_simp
            obtain ⟨Wb351, hWb351⟩ : ∃ V, Wa347.alloc (.cells #[.int .i64 q337o, .int .i64 q337v, .int .i64 q337n, .slice q337p kq337 q337c, .int .i64 q338o, .int .i64 q338v, .int .i64 q338n, .slice q338p kq338 q338c, .int .i64 q340o, .int .i64 q340v, .int .i64 q340n, .slice q340p kq340 q340c] 37) = V := ⟨_, rfl⟩
            obtain ⟨b351, hb351⟩ : ∃ B, Wa347.heap.size = B := ⟨_, rfl⟩
            obtain ⟨F351, hen351, ho351, hc351, hx351, hab351⟩ := Kl.row3 2 hWb351 hb351 (Kl.enc_of he337.out) (Kl.enc_of he338.out) (Kl.enc_of he340.out) ho348 ho349 ho350 hc337.out hc338.out hc340.out
            have hS351 := hS347.trans (hab351.mono hS347.size)
            have htd351 := hx351 _ (by have := (hz347).lt; omega) ht348 ht349 ht350
            have hzz351 := (hz347).below hab351
            rw [hWb351, hb351]
            refine hK.out _ _ hS351 (fun hHeld9 => ?_)
            clear hK K
            try simp only [Kl.pts]
            clear hWb351
            refine Kl.tk 7 (.agg #[.int .i64 2, .int .i64 0, .int .i64 0, .slice (some ⟨b351, 0, none⟩) 3 3]) rfl (by kernel_rfl) (fun _ _ _ h => h) (by assumption) (Or.inl ⟨by rfl, ?y7⟩) ?_
            case y7 => (intro w1 h; go_simp)
            try simp only [Kl.pts]
            refine wpAnyH_ready (rs := [9]) (by kernel_rfl) (by simp) ?_
            refine AllReadyH.cons rfl (fun K hK => ?_) AllReadyH.nil
            try simp only [Kl.pts]
            have hzD := hzz351
            obtain ⟨⟨d0, d1, d2, d3⟩, d4⟩ := hzD
            have hRES := Kl.box_done (w0 := WA) (hc351) (hen351) hzz351 (ho351) htd351 hl347 hS351
            have d5 : Wc340.heap.size < Wb351.heap.size := (hzz351).lt
            go_simp
            refine hK.out _ _ hRES.2 (fun hHeld9 => ?_)
            clear hK K
            try simp only [Kl.pts]
            refine wpAnyH_done (by kernel_rfl) ?_ _
            go_wp2_with fail
            go_meet
            exact ⟨_, rfl, hRES.1, hRES.2⟩
          refine AllReadyH.cons rfl (fun K hK => ?_) AllReadyH.nil
          try simp only [Kl.pts]
          go_simp
          obtain ⟨Wa353, hWa353⟩ : ∃ V, Wc338.alloc (.cells #[.int .i64 0, .int .i64 0, .int .i64 0, .slice none 0 0] 37) = V := ⟨_, rfl⟩
          have hab353 : Below Wc338.heap.size Wc338 Wa353 := by rw [← hWa353]; exact (Below.refl _ _).alloc (Nat.le_refl _) _
          have hz353 : Kl.BoxZ Wa353 Wc338.heap.size := by rw [← hWa353]; exact Kl.BoxZ.new _ _
          have hS353 : Below WA.heap.size WA Wa353 := hS338.trans (hab353.mono hS338.size)
          have hl353 : WA.heap.size ≤ Wc338.heap.size := hS338.size
          have ho354 := (ho339).below hab353
          have ht354 : Wc338.heap.size ∉ Kl.fp q337 := Kl.not_fp (ho339) (Nat.le_refl _)
          have ho355 := (ho338.out).below hab353
          have ht355 : Wc338.heap.size ∉ Kl.fp q338 := Kl.not_fp (ho338.out) (Nat.le_refl _)
          rw [hWa353]
          refine hK.out _ _ hS353 (fun hHeld9 => ?_)
          clear hK K
          try simp only [Kl.pts]
          clear hWa353
          refine wpAnyH_ready (rs := [5]) (by kernel_rfl) (by simp) ?_
          refine AllReadyH.cons rfl (fun K hK => ?_) AllReadyH.nil
          try simp only [Kl.pts]
          go_simp
          refine (CTZr.out _ hS353).mono ?_
          rintro e Wc356 ⟨q356, q356o, q356v, q356n, q356p, kq356, q356c, rfl, he356, ho356, hc356, hf356, hb356⟩
          have hS356 : Below WA.heap.size WA Wc356 := hS353.trans (hb356.out.mono hS353.size)
          have ho357 := (ho354).below hb356.out
          have ho358 := (ho355).below hb356.out
          have htd356 : Wc338.heap.size ∉ Kl.fp q356 := fun h => by have h1 := hf356.out _ h; have h2 := (hz353).lt; omega
          have hzz356 := (hz353).below hb356.out
          refine hK.out _ _ hS356 (fun hHeld9 => ?_)
          clear hK K
          try simp only [Kl.pts]
          refine wpAnyH_ready (rs := [6]) (by kernel_rfl) (by simp) ?_
          refine AllReadyH.cons rfl (fun K hK => ?_) AllReadyH.nil
          try simp only [Kl.pts]
          go_simp
          obtain ⟨Wb359, hWb359⟩ : ∃ V, Wc356.alloc (.cells #[.int .i64 q337o, .int .i64 q337v, .int .i64 q337n, .slice q337p kq337 q337c, .int .i64 q338o, .int .i64 q338v, .int .i64 q338n, .slice q338p kq338 q338c, .int .i64 q356o, .int .i64 q356v, .int .i64 q356n, .slice q356p kq356 q356c] 37) = V := ⟨_, rfl⟩
          obtain ⟨b359, hb359⟩ : ∃ B, Wc356.heap.size = B := ⟨_, rfl⟩
          obtain ⟨F359, hen359, ho359, hc359, hx359, hab359⟩ := Kl.row3 2 hWb359 hb359 (Kl.enc_of he337.out) (Kl.enc_of he338.out) (Kl.enc_of he356.out) ho357 ho358 ho356.out hc337.out hc338.out hc356.out
          have hS359 := hS356.trans (hab359.mono hS356.size)
          have htd359 := hx359 _ (by have := (hzz356).lt; omega) ht354 ht355 htd356
          have hzz359 := (hzz356).below hab359
          rw [hWb359, hb359]
          refine hK.out _ _ hS359 (fun hHeld9 => ?_)
          clear hK K
          try simp only [Kl.pts]
          clear hWb359
          refine Kl.tk 7 (.agg #[.int .i64 2, .int .i64 0, .int .i64 0, .slice (some ⟨b359, 0, none⟩) 3 3]) rfl (by kernel_rfl) (fun _ _ _ h => h) (by assumption) (Or.inl ⟨by rfl, ?y7⟩) ?_
          case y7 => (intro w1 h; go_simp)
          try simp only [Kl.pts]
          refine wpAnyH_ready (rs := [9]) (by kernel_rfl) (by simp) ?_
          refine AllReadyH.cons rfl (fun K hK => ?_) AllReadyH.nil
          try simp only [Kl.pts]
          have hzD := hzz359
          obtain ⟨⟨d0, d1, d2, d3⟩, d4⟩ := hzD
          have hRES := Kl.box_done (w0 := WA) (hc359) (hen359) hzz359 (ho359) htd359 hl353 hS359
          have d5 : Wc338.heap.size < Wb359.heap.size := (hzz359).lt
          go_simp
          refine hK.out _ _ hRES.2 (fun hHeld9 => ?_)
          clear hK K
          try simp only [Kl.pts]
          refine wpAnyH_done (by kernel_rfl) ?_ _
          go_wp2_with fail
          go_meet
          exact ⟨_, rfl, hRES.1, hRES.2⟩
        refine AllReadyH.cons rfl (fun K hK => ?_) AllReadyH.nil
        try simp only [Kl.pts]
        go_simp
        obtain ⟨Wa361, hWa361⟩ : ∃ V, Wc337.alloc (.cells #[.int .i64 0, .int .i64 0, .int .i64 0, .slice none 0 0] 37) = V := ⟨_, rfl⟩
        have hab361 : Below Wc337.heap.size Wc337 Wa361 := by rw [← hWa361]; exact (Below.refl _ _).alloc (Nat.le_refl _) _
        have hz361 : Kl.BoxZ Wa361 Wc337.heap.size := by rw [← hWa361]; exact Kl.BoxZ.new _ _
        have hS361 : Below WA.heap.size WA Wa361 := hS337.trans (hab361.mono hS337.size)
        have hl361 : WA.heap.size ≤ Wc337.heap.size := hS337.size
        have ho362 := (ho337.out).below hab361
        have ht362 : Wc337.heap.size ∉ Kl.fp q337 := Kl.not_fp (ho337.out) (Nat.le_refl _)
        rw [hWa361]
        refine hK.out _ _ hS361 (fun hHeld9 => ?_)
        clear hK K
        try simp only [Kl.pts]
        clear hWa361
        refine wpAnyH_ready (rs := [3]) (by kernel_rfl) (by simp) ?_
        refine AllReadyH.cons rfl (fun K hK => ?_) AllReadyH.nil
        try simp only [Kl.pts]
        go_simp
        refine (CTYr.out _ hS361).mono ?_
        rintro e Wc363 ⟨q363, q363o, q363v, q363n, q363p, kq363, q363c, rfl, he363, ho363, hc363, hf363, hb363⟩
        have hS363 : Below WA.heap.size WA Wc363 := hS361.trans (hb363.out.mono hS361.size)
        have ho364 := (ho362).below hb363.out
        have htd363 : Wc337.heap.size ∉ Kl.fp q363 := fun h => by have h1 := hf363.out _ h; have h2 := (hz361).lt; omega
        have hzz363 := (hz361).below hb363.out
        refine hK.out _ _ hS363 (fun hHeld9 => ?_)
        clear hK K
        try simp only [Kl.pts]
        refine wpAnyH_ready (rs := [5]) (by kernel_rfl) (by simp) ?_
        refine AllReadyH.cons rfl (fun K hK => ?_) AllReadyH.nil
        try simp only [Kl.pts]
        go_simp
        refine (CTZr.out _ hS363).mono ?_
        rintro e Wc365 ⟨q365, q365o, q365v, q365n, q365p, kq365, q365c, rfl, he365, ho365, hc365, hf365, hb365⟩
        have hS365 : Below WA.heap.size WA Wc365 := hS363.trans (hb365.out.mono hS363.size)
        have ho366 := (ho364).below hb365.out
        have ho367 := (ho363.out).below hb365.out
        have htd365 : Wc337.heap.size ∉ Kl.fp q365 := fun h => by have h1 := hf365.out _ h; have h2 := (hzz363).lt; omega
        have hzz365 := (hzz363).below hb365.out
        refine hK.out _ _ hS365 (fun hHeld9 => ?_)
        clear hK K
        try simp only [Kl.pts]
        refine wpAnyH_ready (rs := [6]) (by kernel_rfl) (by simp) ?_
        refine AllReadyH.cons rfl (fun K hK => ?_) AllReadyH.nil
        try simp only [Kl.pts]
        go_simp
        obtain ⟨Wb368, hWb368⟩ : ∃ V, Wc365.alloc (.cells #[.int .i64 q337o, .int .i64 q337v, .int .i64 q337n, .slice q337p kq337 q337c, .int .i64 q363o, .int .i64 q363v, .int .i64 q363n, .slice q363p kq363 q363c, .int .i64 q365o, .int .i64 q365v, .int .i64 q365n, .slice q365p kq365 q365c] 37) = V := ⟨_, rfl⟩
        obtain ⟨b368, hb368⟩ : ∃ B, Wc365.heap.size = B := ⟨_, rfl⟩
        obtain ⟨F368, hen368, ho368, hc368, hx368, hab368⟩ := Kl.row3 2 hWb368 hb368 (Kl.enc_of he337.out) (Kl.enc_of he363.out) (Kl.enc_of he365.out) ho366 ho367 ho365.out hc337.out hc363.out hc365.out
        have hS368 := hS365.trans (hab368.mono hS365.size)
        have htd368 := hx368 _ (by have := (hzz365).lt; omega) ht362 htd363 htd365
        have hzz368 := (hzz365).below hab368
        rw [hWb368, hb368]
        refine hK.out _ _ hS368 (fun hHeld9 => ?_)
        clear hK K
        try simp only [Kl.pts]
        clear hWb368
        refine Kl.tk 7 (.agg #[.int .i64 2, .int .i64 0, .int .i64 0, .slice (some ⟨b368, 0, none⟩) 3 3]) rfl (by kernel_rfl) (fun _ _ _ h => h) (by assumption) (Or.inl ⟨by rfl, ?y7⟩) ?_
        case y7 => (intro w1 h; go_simp)
        try simp only [Kl.pts]
        refine wpAnyH_ready (rs := [9]) (by kernel_rfl) (by simp) ?_
        refine AllReadyH.cons rfl (fun K hK => ?_) AllReadyH.nil
        try simp only [Kl.pts]
        have hzD := hzz368
        obtain ⟨⟨d0, d1, d2, d3⟩, d4⟩ := hzD
        have hRES := Kl.box_done (w0 := WA) (hc368) (hen368) hzz368 (ho368) htd368 hl361 hS368
        have d5 : Wc337.heap.size < Wb368.heap.size := (hzz368).lt
        go_simp
        refine hK.out _ _ hRES.2 (fun hHeld9 => ?_)
        clear hK K
        try simp only [Kl.pts]
        refine wpAnyH_done (by kernel_rfl) ?_ _
        go_wp2_with fail
        go_meet
        exact ⟨_, rfl, hRES.1, hRES.2⟩
      refine AllReadyH.cons rfl (fun K hK => ?_) AllReadyH.nil
      try simp only [Kl.pts]
      go_simp
      obtain ⟨Wa370, hWa370⟩ : ∃ V, W00.alloc (.cells #[.int .i64 0, .int .i64 0, .int .i64 0, .slice none 0 0] 37) = V := ⟨_, rfl⟩
      have hab370 : Below W00.heap.size W00 Wa370 := by rw [← hWa370]; exact (Below.refl _ _).alloc (Nat.le_refl _) _
      have hz370 : Kl.BoxZ Wa370 W00.heap.size := by rw [← hWa370]; exact Kl.BoxZ.new _ _
      have hS370 : Below WA.heap.size WA Wa370 := hS0.trans (hab370.mono hS0.size)
      have hl370 : WA.heap.size ≤ W00.heap.size := hS0.size
      rw [hWa370]
      refine hK.out _ _ hS370 (fun hHeld9 => ?_)
      clear hK K
      try simp only [Kl.pts]
      clear hWa370
      refine wpAnyH_ready (rs := [1]) (by kernel_rfl) (by simp) ?_
      refine AllReadyH.cons rfl (fun K hK => ?_) AllReadyH.nil
      try simp only [Kl.pts]
      go_simp
      refine (CTXr.out _ hS370).mono ?_
      rintro e Wc371 ⟨q371, q371o, q371v, q371n, q371p, kq371, q371c, rfl, he371, ho371, hc371, hf371, hb371⟩
      have hS371 : Below WA.heap.size WA Wc371 := hS370.trans (hb371.out.mono hS370.size)
      have htd371 : W00.heap.size ∉ Kl.fp q371 := fun h => by have h1 := hf371.out _ h; have h2 := (hz370).lt; omega
      have hzz371 := (hz370).below hb371.out
      refine hK.out _ _ hS371 (fun hHeld9 => ?_)
      clear hK K
      try simp only [Kl.pts]
      refine wpAnyH_ready (rs := [3]) (by kernel_rfl) (by simp) ?_
      refine AllReadyH.cons rfl (fun K hK => ?_) AllReadyH.nil
      try simp only [Kl.pts]
      go_simp
      refine (CTYr.out _ hS371).mono ?_
      rintro e Wc372 ⟨q372, q372o, q372v, q372n, q372p, kq372, q372c, rfl, he372, ho372, hc372, hf372, hb372⟩
      have hS372 : Below WA.heap.size WA Wc372 := hS371.trans (hb372.out.mono hS371.size)
      have ho373 := (ho371.out).below hb372.out
      have htd372 : W00.heap.size ∉ Kl.fp q372 := fun h => by have h1 := hf372.out _ h; have h2 := (hzz371).lt; omega
      have hzz372 := (hzz371).below hb372.out
      refine hK.out _ _ hS372 (fun hHeld9 => ?_)
      clear hK K
      try simp only [Kl.pts]
      refine wpAnyH_ready (rs := [5]) (by kernel_rfl) (by simp) ?_
      refine AllReadyH.cons rfl (fun K hK => ?_) AllReadyH.nil
      try simp only [Kl.pts]
      go_simp
      refine (CTZr.out _ hS372).mono ?_
      rintro e Wc374 ⟨q374, q374o, q374v, q374n, q374p, kq374, q374c, rfl, he374, ho374, hc374, hf374, hb374⟩
      have hS374 : Below WA.heap.size WA Wc374 := hS372.trans (hb374.out.mono hS372.size)
      have ho375 := (ho373).below hb374.out
      have ho376 := (ho372.out).below hb374.out
      have htd374 : W00.heap.size ∉ Kl.fp q374 := fun h => by have h1 := hf374.out _ h; have h2 := (hzz372).lt; omega
      have hzz374 := (hzz372).below hb374.out
      refine hK.out _ _ hS374 (fun hHeld9 => ?_)
      clear hK K
      try simp only [Kl.pts]
      refine wpAnyH_ready (rs := [6]) (by kernel_rfl) (by simp) ?_
      refine AllReadyH.cons rfl (fun K hK => ?_) AllReadyH.nil
      try simp only [Kl.pts]
      go_simp
      obtain ⟨Wb377, hWb377⟩ : ∃ V, Wc374.alloc (.cells #[.int .i64 q371o, .int .i64 q371v, .int .i64 q371n, .slice q371p kq371 q371c, .int .i64 q372o, .int .i64 q372v, .int .i64 q372n, .slice q372p kq372 q372c, .int .i64 q374o, .int .i64 q374v, .int .i64 q374n, .slice q374p kq374 q374c] 37) = V := ⟨_, rfl⟩
      obtain ⟨b377, hb377⟩ : ∃ B, Wc374.heap.size = B := ⟨_, rfl⟩
      obtain ⟨F377, hen377, ho377, hc377, hx377, hab377⟩ := Kl.row3 2 hWb377 hb377 (Kl.enc_of he371.out) (Kl.enc_of he372.out) (Kl.enc_of he374.out) ho375 ho376 ho374.out hc371.out hc372.out hc374.out
      have hS377 := hS374.trans (hab377.mono hS374.size)
      have htd377 := hx377 _ (by have := (hzz374).lt; omega) htd371 htd372 htd374
      have hzz377 := (hzz374).below hab377
      rw [hWb377, hb377]
      refine hK.out _ _ hS377 (fun hHeld9 => ?_)
      clear hK K
      try simp only [Kl.pts]
      clear hWb377
      refine Kl.tk 7 (.agg #[.int .i64 2, .int .i64 0, .int .i64 0, .slice (some ⟨b377, 0, none⟩) 3 3]) rfl (by kernel_rfl) (fun _ _ _ h => h) (by assumption) (Or.inl ⟨by rfl, ?y7⟩) ?_
      case y7 => (intro w1 h; go_simp)
      try simp only [Kl.pts]
      refine wpAnyH_ready (rs := [9]) (by kernel_rfl) (by simp) ?_
      refine AllReadyH.cons rfl (fun K hK => ?_) AllReadyH.nil
      try simp only [Kl.pts]
      have hzD := hzz377
      obtain ⟨⟨d0, d1, d2, d3⟩, d4⟩ := hzD
      have hRES := Kl.box_done (w0 := WA) (hc377) (hen377) hzz377 (ho377) htd377 hl370 hS377
      have d5 : W00.heap.size < Wb377.heap.size := (hzz377).lt
      go_simp
      refine hK.out _ _ hRES.2 (fun hHeld9 => ?_)
      clear hK K
      try simp only [Kl.pts]
      refine wpAnyH_done (by kernel_rfl) ?_ _
      go_wp2_with fail
      go_meet
      exact ⟨_, rfl, hRES.1, hRES.2⟩
     case rest =>
      obtain ⟨TN, rfl, HXN, HQN⟩ := hcut
      obtain ⟨WN, hWN⟩ : ∃ V, V = wc := ⟨_, rfl⟩
      subst hWN
      have HBN := hide' (HBA.out.trans (HQN.out.mono HBA.out.size))
      go_upto_region 13 with fail
      go_cut [10] from 66 to 77 (fun a wx => ∃ T, a = .pointer (some ⟨T, 0, none⟩) ∧ Hid (Kl.BoxF wx T (.mk 2 0 0 [.mk 2 0 0 [Z, X], Y, X])) ∧ Hid (Below WN.heap.size WN wx))
      case first =>
       have hS0 : Below WN.heap.size WN WN.drew := (Below.refl _ _).drew
       have HSO : Hid (∀ W', Below WN.heap.size WN W' → W'.cell? ⟨B1, 0, none⟩ = some (.int .i64 xo) ∧ W'.cell? ⟨B1, 1, none⟩ = some (.int .i64 xv) ∧ W'.cell? ⟨B1, 2, none⟩ = some (.int .i64 xn) ∧ W'.cell? ⟨B1, 3, none⟩ = some (.slice xp kx xc) ∧ W'.cell? ⟨B2, 0, none⟩ = some (.int .i64 yo) ∧ W'.cell? ⟨B2, 1, none⟩ = some (.int .i64 yv) ∧ W'.cell? ⟨B2, 2, none⟩ = some (.int .i64 yn) ∧ W'.cell? ⟨B2, 3, none⟩ = some (.slice yp ky yc) ∧ W'.cell? ⟨B3, 0, none⟩ = some (.int .i64 zo) ∧ W'.cell? ⟨B3, 1, none⟩ = some (.int .i64 zv) ∧ W'.cell? ⟨B3, 2, none⟩ = some (.int .i64 zn) ∧ W'.cell? ⟨B3, 3, none⟩ = some (.slice zp kz zc)) := fun W' h => HCB.out W' (HBN.out.trans (h.mono HBN.out.size))
       have CTXr := hide' (fun W' (h : Below WN.heap.size WN W') => CTX2.out W' (HUA.out _ (HBN.out.trans (h.mono HBN.out.size))))
       have CTYr := hide' (fun W' (h : Below WN.heap.size WN W') => CTY2.out W' (HUA.out _ (HBN.out.trans (h.mono HBN.out.size))))
       have CTZr := hide' (fun W' (h : Below WN.heap.size WN W') => CTZ2.out W' (HUA.out _ (HBN.out.trans (h.mono HBN.out.size))))
       have CNXr := hide' (fun W' (h : Below WN.heap.size WN W') => CNX2.out W' (HUA.out _ (HBN.out.trans (h.mono HBN.out.size))))
       have CNYr := hide' (fun W' (h : Below WN.heap.size WN W') => CNY2.out W' (HUA.out _ (HBN.out.trans (h.mono HBN.out.size))))
       have CNZr := hide' (fun W' (h : Below WN.heap.size WN W') => CNZ2.out W' (HUA.out _ (HBN.out.trans (h.mono HBN.out.size))))
       clear HCB CTX2 CTY2 CTZ2 CNX2 CNY2 CNZ2 CU
       refine wp_region_held_drew (S := fun W' => Below WN.heap.size WN W') (by kernel_rfl) hS0 (fun hHeld => ?_)
       simp only [List.size_toArray, List.length_cons, List.length_nil, Nat.reduceAdd]
       generalize WN.drew = W00 at hHeld hS0 ⊢
       refine Kl.tk 0 (.agg #[.int .i64 zo, .int .i64 zv, .int .i64 zn, .slice zp kz zc]) rfl (by kernel_rfl) (fun _ _ _ h => h) (by assumption) (Or.inl ⟨by rfl, ?y0⟩) ?_
       case y0 => (intro w1 h; obtain ⟨z0, z1, z2, z3, z4, z5, z6, z7, z8, z9, z10, z11⟩ := HSO.out w1 h; go_simp)
       try simp only [Kl.pts]
       refine Kl.tk 2 (.agg #[.int .i64 xo, .int .i64 xv, .int .i64 xn, .slice xp kx xc]) rfl (by kernel_rfl) (fun _ _ _ h => h) (by assumption) (Or.inl ⟨by rfl, ?y2⟩) ?_
       case y2 => (intro w1 h; obtain ⟨z0, z1, z2, z3, z4, z5, z6, z7, z8, z9, z10, z11⟩ := HSO.out w1 h; go_simp)
       try simp only [Kl.pts]
       refine Kl.tk 6 (.agg #[.int .i64 yo, .int .i64 yv, .int .i64 yn, .slice yp ky yc]) rfl (by kernel_rfl) (fun _ _ _ h => h) (by assumption) (Or.inl ⟨by rfl, ?y6⟩) ?_
       case y6 => (intro w1 h; obtain ⟨z0, z1, z2, z3, z4, z5, z6, z7, z8, z9, z10, z11⟩ := HSO.out w1 h; go_simp)
       try simp only [Kl.pts]
       refine Kl.tk 8 (.agg #[.int .i64 xo, .int .i64 xv, .int .i64 xn, .slice xp kx xc]) rfl (by kernel_rfl) (fun _ _ _ h => h) (by assumption) (Or.inl ⟨by rfl, ?y8⟩) ?_
       case y8 => (intro w1 h; obtain ⟨z0, z1, z2, z3, z4, z5, z6, z7, z8, z9, z10, z11⟩ := HSO.out w1 h; go_simp)
       try simp only [Kl.pts]
       refine wpAnyH_ready (rs := [1, 12]) (by kernel_rfl) (by simp) ?_
       refine AllReadyH.cons rfl (fun K hK => ?_) ?_
       · try simp only [Kl.pts]
         go_simp
         refine (CTZr.out _ hS0).mono ?_
         rintro e Wc136 ⟨q136, q136o, q136v, q136n, q136p, kq136, q136c, rfl, he136, ho136, hc136, hf136, hb136⟩
         have hS136 : Below WN.heap.size WN Wc136 := hS0.trans (hb136.out.mono hS0.size)
         refine hK.out _ _ hS136 (fun hHeld9 => ?_)
         clear hK K
         try simp only [Kl.pts]
         refine wpAnyH_ready (rs := [3, 12]) (by kernel_rfl) (by simp) ?_
         refine AllReadyH.cons rfl (fun K hK => ?_) ?_
         · try simp only [Kl.pts]
           go_simp
           refine (CTXr.out _ hS136).mono ?_
           rintro e Wc137 ⟨q137, q137o, q137v, q137n, q137p, kq137, q137c, rfl, he137, ho137, hc137, hf137, hb137⟩
           have hS137 : Below WN.heap.size WN Wc137 := hS136.trans (hb137.out.mono hS136.size)
           have ho138 := (ho136.out).below hb137.out
           refine hK.out _ _ hS137 (fun hHeld9 => ?_)
           clear hK K
           try simp only [Kl.pts]
           refine wpAnyH_ready (rs := [4, 7, 12]) (by kernel_rfl) (by simp) ?_
           refine AllReadyH.cons rfl (fun K hK => ?_) ?_
           · try simp only [Kl.pts]
             go_simp
             obtain ⟨Wb139, hWb139⟩ : ∃ V, Wc137.alloc (.cells #[.int .i64 q136o, .int .i64 q136v, .int .i64 q136n, .slice q136p kq136 q136c, .int .i64 q137o, .int .i64 q137v, .int .i64 q137n, .slice q137p kq137 q137c] 37) = V := ⟨_, rfl⟩
             obtain ⟨b139, hb139⟩ : ∃ B, Wc137.heap.size = B := ⟨_, rfl⟩
             obtain ⟨F139, hen139, ho139, hc139, hx139, hab139⟩ := Kl.row2 2 hWb139 hb139 (Kl.enc_of he136.out) (Kl.enc_of he137.out) ho138 ho137.out hc136.out hc137.out
             have hS139 := hS137.trans (hab139.mono hS137.size)
             rw [hWb139, hb139]
             refine hK.out _ _ hS139 (fun hHeld9 => ?_)
             clear hK K
             try simp only [Kl.pts]
             clear hWb139
             refine Kl.tk 5 (.agg #[.int .i64 2, .int .i64 0, .int .i64 0, .slice (some ⟨b139, 0, none⟩) 2 2]) rfl (by kernel_rfl) (fun _ _ _ h => h) (by assumption) (Or.inl ⟨by rfl, ?y5⟩) ?_
             case y5 => (intro w1 h; go_simp)
             try simp only [Kl.pts]
             refine wpAnyH_ready (rs := [7, 12]) (by kernel_rfl) (by simp) ?_
             refine AllReadyH.cons rfl (fun K hK => ?_) ?_
             · try simp only [Kl.pts]
               go_simp
               refine (CTYr.out _ hS139).mono ?_
               rintro e Wc140 ⟨q140, q140o, q140v, q140n, q140p, kq140, q140c, rfl, he140, ho140, hc140, hf140, hb140⟩
               have hS140 : Below WN.heap.size WN Wc140 := hS139.trans (hb140.out.mono hS139.size)
               have ho141 := (ho139).below hb140.out
               refine hK.out _ _ hS140 (fun hHeld9 => ?_)
               clear hK K
               try simp only [Kl.pts]
               refine wpAnyH_ready (rs := [9, 12]) (by kernel_rfl) (by simp) ?_
               refine AllReadyH.cons rfl (fun K hK => ?_) ?_
               · try simp only [Kl.pts]
                 go_simp
                 refine (CTXr.out _ hS140).mono ?_
                 rintro e Wc142 ⟨q142, q142o, q142v, q142n, q142p, kq142, q142c, rfl, he142, ho142, hc142, hf142, hb142⟩
                 have hS142 : Below WN.heap.size WN Wc142 := hS140.trans (hb142.out.mono hS140.size)
                 have ho143 := (ho141).below hb142.out
                 have ho144 := (ho140.out).below hb142.out
                 refine hK.out _ _ hS142 (fun hHeld9 => ?_)
                 clear hK K
                 try simp only [Kl.pts]
                 refine wpAnyH_ready (rs := [10, 12]) (by kernel_rfl) (by simp) ?_
                 refine AllReadyH.cons rfl (fun K hK => ?_) ?_
                 · try simp only [Kl.pts]
                   go_simp
                   obtain ⟨Wb145, hWb145⟩ : ∃ V, Wc142.alloc (.cells #[.int .i64 2, .int .i64 0, .int .i64 0, .slice (some ⟨b139, 0, none⟩) 2 2, .int .i64 q140o, .int .i64 q140v, .int .i64 q140n, .slice q140p kq140 q140c, .int .i64 q142o, .int .i64 q142v, .int .i64 q142n, .slice q142p kq142 q142c] 37) = V := ⟨_, rfl⟩
                   obtain ⟨b145, hb145⟩ : ∃ B, Wc142.heap.size = B := ⟨_, rfl⟩
                   obtain ⟨F145, hen145, ho145, hc145, hx145, hab145⟩ := Kl.row3 2 hWb145 hb145 hen139 (Kl.enc_of he140.out) (Kl.enc_of he142.out) ho143 ho144 ho142.out hc139 hc140.out hc142.out
                   have hS145 := hS142.trans (hab145.mono hS142.size)
                   rw [hWb145, hb145]
                   refine hK.out _ _ hS145 (fun hHeld9 => ?_)
                   clear hK K
                   try simp only [Kl.pts]
                   clear hWb145
                   refine Kl.tk 11 (.agg #[.int .i64 2, .int .i64 0, .int .i64 0, .slice (some ⟨b145, 0, none⟩) 3 3]) rfl (by kernel_rfl) (fun _ _ _ h => h) (by assumption) (Or.inl ⟨by rfl, ?y11⟩) ?_
                   case y11 => (intro w1 h; go_simp)
                   try simp only [Kl.pts]
                   refine wpAnyH_ready (rs := [12]) (by kernel_rfl) (by simp) ?_
                   refine AllReadyH.cons rfl (fun K hK => ?_) AllReadyH.nil
                   try simp only [Kl.pts]
                   go_simp
                   obtain ⟨Wa146, hWa146⟩ : ∃ V, Wb145.alloc (.cells #[.int .i64 0, .int .i64 0, .int .i64 0, .slice none 0 0] 37) = V := ⟨_, rfl⟩
                   have hab146 : Below Wb145.heap.size Wb145 Wa146 := by rw [← hWa146]; exact (Below.refl _ _).alloc (Nat.le_refl _) _
                   have hz146 : Kl.BoxZ Wa146 Wb145.heap.size := by rw [← hWa146]; exact Kl.BoxZ.new _ _
                   have hS146 : Below WN.heap.size WN Wa146 := hS145.trans (hab146.mono hS145.size)
                   have hl146 : WN.heap.size ≤ Wb145.heap.size := hS145.size
                   have ho147 := (ho145).below hab146
                   have ht147 : Wb145.heap.size ∉ Kl.fp F145 := Kl.not_fp (ho145) (Nat.le_refl _)
                   rw [hWa146]
                   refine hK.out _ _ hS146 (fun hHeld9 => ?_)
                   clear hK K
                   try simp only [Kl.pts]
                   clear hWa146
                   refine wpAnyH_ready (rs := [13]) (by kernel_rfl) (by simp) ?_
                   refine AllReadyH.cons rfl (fun K hK => ?_) AllReadyH.nil
                   try simp only [Kl.pts]
                   have hzD := hz146
                   obtain ⟨⟨d0, d1, d2, d3⟩, d4⟩ := hzD
                   have hRES := Kl.box_done (w0 := WN) (hc145) (hen145) hz146 (ho147) ht147 hl146 hS146
                   have d5 : Wb145.heap.size < Wa146.heap.size := (hz146).lt
                   go_simp
                   refine hK.out _ _ hRES.2 (fun hHeld9 => ?_)
                   clear hK K
                   try simp only [Kl.pts]
                   refine wpAnyH_done (by kernel_rfl) ?_ _
                   go_wp2_with fail
                   go_meet
                   exact ⟨_, rfl, hRES.1, hRES.2⟩
                 refine AllReadyH.cons rfl (fun K hK => ?_) AllReadyH.nil
                 try simp only [Kl.pts]
                 go_simp
                 obtain ⟨Wa149, hWa149⟩ : ∃ V, Wc142.alloc (.cells #[.int .i64 0, .int .i64 0, .int .i64 0, .slice none 0 0] 37) = V := ⟨_, rfl⟩
                 have hab149 : Below Wc142.heap.size Wc142 Wa149 := by rw [← hWa149]; exact (Below.refl _ _).alloc (Nat.le_refl _) _
                 have hz149 : Kl.BoxZ Wa149 Wc142.heap.size := by rw [← hWa149]; exact Kl.BoxZ.new _ _
                 have hS149 : Below WN.heap.size WN Wa149 := hS142.trans (hab149.mono hS142.size)
                 have hl149 : WN.heap.size ≤ Wc142.heap.size := hS142.size
                 have ho150 := (ho143).below hab149
                 have ht150 : Wc142.heap.size ∉ Kl.fp F139 := Kl.not_fp (ho143) (Nat.le_refl _)
                 have ho151 := (ho144).below hab149
                 have ht151 : Wc142.heap.size ∉ Kl.fp q140 := Kl.not_fp (ho144) (Nat.le_refl _)
                 have ho152 := (ho142.out).below hab149
                 have ht152 : Wc142.heap.size ∉ Kl.fp q142 := Kl.not_fp (ho142.out) (Nat.le_refl _)
                 rw [hWa149]
                 refine hK.out _ _ hS149 (fun hHeld9 => ?_)
                 clear hK K
                 try simp only [Kl.pts]
                 clear hWa149
                 refine wpAnyH_ready (rs := [10]) (by kernel_rfl) (by simp) ?_
                 refine AllReadyH.cons rfl (fun K hK => ?_) AllReadyH.nil
                 try simp only [Kl.pts]
                 go_simp
                 obtain ⟨Wb153, hWb153⟩ : ∃ V, Wa149.alloc (.cells #[.int .i64 2, .int .i64 0, .int .i64 0, .slice (some ⟨b139, 0, none⟩) 2 2, .int .i64 q140o, .int .i64 q140v, .int .i64 q140n, .slice q140p kq140 q140c, .int .i64 q142o, .int .i64 q142v, .int .i64 q142n, .slice q142p kq142 q142c] 37) = V := ⟨_, rfl⟩
                 obtain ⟨b153, hb153⟩ : ∃ B, Wa149.heap.size = B := ⟨_, rfl⟩
                 obtain ⟨F153, hen153, ho153, hc153, hx153, hab153⟩ := Kl.row3 2 hWb153 hb153 hen139 (Kl.enc_of he140.out) (Kl.enc_of he142.out) ho150 ho151 ho152 hc139 hc140.out hc142.out
                 have hS153 := hS149.trans (hab153.mono hS149.size)
                 have htd153 := hx153 _ (by have := (hz149).lt; omega) ht150 ht151 ht152
                 have hzz153 := (hz149).below hab153
                 rw [hWb153, hb153]
                 refine hK.out _ _ hS153 (fun hHeld9 => ?_)
                 clear hK K
                 try simp only [Kl.pts]
                 clear hWb153
                 refine Kl.tk 11 (.agg #[.int .i64 2, .int .i64 0, .int .i64 0, .slice (some ⟨b153, 0, none⟩) 3 3]) rfl (by kernel_rfl) (fun _ _ _ h => h) (by assumption) (Or.inl ⟨by rfl, ?y11⟩) ?_
                 case y11 => (intro w1 h; go_simp)
                 try simp only [Kl.pts]
                 refine wpAnyH_ready (rs := [13]) (by kernel_rfl) (by simp) ?_
                 refine AllReadyH.cons rfl (fun K hK => ?_) AllReadyH.nil
                 try simp only [Kl.pts]
                 have hzD := hzz153
                 obtain ⟨⟨d0, d1, d2, d3⟩, d4⟩ := hzD
                 have hRES := Kl.box_done (w0 := WN) (hc153) (hen153) hzz153 (ho153) htd153 hl149 hS153
                 have d5 : Wc142.heap.size < Wb153.heap.size := (hzz153).lt
                 go_simp
                 refine hK.out _ _ hRES.2 (fun hHeld9 => ?_)
                 clear hK K
                 try simp only [Kl.pts]
                 refine wpAnyH_done (by kernel_rfl) ?_ _
                 go_wp2_with fail
                 go_meet
                 exact ⟨_, rfl, hRES.1, hRES.2⟩
               refine AllReadyH.cons rfl (fun K hK => ?_) AllReadyH.nil
               try simp only [Kl.pts]
               go_simp
               obtain ⟨Wa155, hWa155⟩ : ∃ V, Wc140.alloc (.cells #[.int .i64 0, .int .i64 0, .int .i64 0, .slice none 0 0] 37) = V := ⟨_, rfl⟩
               have hab155 : Below Wc140.heap.size Wc140 Wa155 := by rw [← hWa155]; exact (Below.refl _ _).alloc (Nat.le_refl _) _
               have hz155 : Kl.BoxZ Wa155 Wc140.heap.size := by rw [← hWa155]; exact Kl.BoxZ.new _ _
               have hS155 : Below WN.heap.size WN Wa155 := hS140.trans (hab155.mono hS140.size)
               have hl155 : WN.heap.size ≤ Wc140.heap.size := hS140.size
               have ho156 := (ho141).below hab155
               have ht156 : Wc140.heap.size ∉ Kl.fp F139 := Kl.not_fp (ho141) (Nat.le_refl _)
               have ho157 := (ho140.out).below hab155
               have ht157 : Wc140.heap.size ∉ Kl.fp q140 := Kl.not_fp (ho140.out) (Nat.le_refl _)
               rw [hWa155]
               refine hK.out _ _ hS155 (fun hHeld9 => ?_)
               clear hK K
               try simp only [Kl.pts]
               clear hWa155
               refine wpAnyH_ready (rs := [9]) (by kernel_rfl) (by simp) ?_
               refine AllReadyH.cons rfl (fun K hK => ?_) AllReadyH.nil
               try simp only [Kl.pts]
               go_simp
               refine (CTXr.out _ hS155).mono ?_
               rintro e Wc158 ⟨q158, q158o, q158v, q158n, q158p, kq158, q158c, rfl, he158, ho158, hc158, hf158, hb158⟩
               have hS158 : Below WN.heap.size WN Wc158 := hS155.trans (hb158.out.mono hS155.size)
               have ho159 := (ho156).below hb158.out
               have ho160 := (ho157).below hb158.out
               have htd158 : Wc140.heap.size ∉ Kl.fp q158 := fun h => by have h1 := hf158.out _ h; have h2 := (hz155).lt; omega
               have hzz158 := (hz155).below hb158.out
               refine hK.out _ _ hS158 (fun hHeld9 => ?_)
               clear hK K
               try simp only [Kl.pts]
               refine wpAnyH_ready (rs := [10]) (by kernel_rfl) (by simp) ?_
               refine AllReadyH.cons rfl (fun K hK => ?_) AllReadyH.nil
               try simp only [Kl.pts]
               go_simp
               obtain ⟨Wb161, hWb161⟩ : ∃ V, Wc158.alloc (.cells #[.int .i64 2, .int .i64 0, .int .i64 0, .slice (some ⟨b139, 0, none⟩) 2 2, .int .i64 q140o, .int .i64 q140v, .int .i64 q140n, .slice q140p kq140 q140c, .int .i64 q158o, .int .i64 q158v, .int .i64 q158n, .slice q158p kq158 q158c] 37) = V := ⟨_, rfl⟩
               obtain ⟨b161, hb161⟩ : ∃ B, Wc158.heap.size = B := ⟨_, rfl⟩
               obtain ⟨F161, hen161, ho161, hc161, hx161, hab161⟩ := Kl.row3 2 hWb161 hb161 hen139 (Kl.enc_of he140.out) (Kl.enc_of he158.out) ho159 ho160 ho158.out hc139 hc140.out hc158.out
               have hS161 := hS158.trans (hab161.mono hS158.size)
               have htd161 := hx161 _ (by have := (hzz158).lt; omega) ht156 ht157 htd158
               have hzz161 := (hzz158).below hab161
               rw [hWb161, hb161]
               refine hK.out _ _ hS161 (fun hHeld9 => ?_)
               clear hK K
               try simp only [Kl.pts]
               clear hWb161
               refine Kl.tk 11 (.agg #[.int .i64 2, .int .i64 0, .int .i64 0, .slice (some ⟨b161, 0, none⟩) 3 3]) rfl (by kernel_rfl) (fun _ _ _ h => h) (by assumption) (Or.inl ⟨by rfl, ?y11⟩) ?_
               case y11 => (intro w1 h; go_simp)
               try simp only [Kl.pts]
               refine wpAnyH_ready (rs := [13]) (by kernel_rfl) (by simp) ?_
               refine AllReadyH.cons rfl (fun K hK => ?_) AllReadyH.nil
               try simp only [Kl.pts]
               have hzD := hzz161
               obtain ⟨⟨d0, d1, d2, d3⟩, d4⟩ := hzD
               have hRES := Kl.box_done (w0 := WN) (hc161) (hen161) hzz161 (ho161) htd161 hl155 hS161
               have d5 : Wc140.heap.size < Wb161.heap.size := (hzz161).lt
               go_simp
               refine hK.out _ _ hRES.2 (fun hHeld9 => ?_)
               clear hK K
               try simp only [Kl.pts]
               refine wpAnyH_done (by kernel_rfl) ?_ _
               go_wp2_with fail
               go_meet
               exact ⟨_, rfl, hRES.1, hRES.2⟩
             refine AllReadyH.cons rfl (fun K hK => ?_) AllReadyH.nil
             try simp only [Kl.pts]
             go_simp
             obtain ⟨Wa163, hWa163⟩ : ∃ V, Wb139.alloc (.cells #[.int .i64 0, .int .i64 0, .int .i64 0, .slice none 0 0] 37) = V := ⟨_, rfl⟩
             have hab163 : Below Wb139.heap.size Wb139 Wa163 := by rw [← hWa163]; exact (Below.refl _ _).alloc (Nat.le_refl _) _
             have hz163 : Kl.BoxZ Wa163 Wb139.heap.size := by rw [← hWa163]; exact Kl.BoxZ.new _ _
             have hS163 : Below WN.heap.size WN Wa163 := hS139.trans (hab163.mono hS139.size)
             have hl163 : WN.heap.size ≤ Wb139.heap.size := hS139.size
             have ho164 := (ho139).below hab163
             have ht164 : Wb139.heap.size ∉ Kl.fp F139 := Kl.not_fp (ho139) (Nat.le_refl _)
             rw [hWa163]
             refine hK.out _ _ hS163 (fun hHeld9 => ?_)
             clear hK K
             try simp only [Kl.pts]
             clear hWa163
             refine wpAnyH_ready (rs := [7]) (by kernel_rfl) (by simp) ?_
             refine AllReadyH.cons rfl (fun K hK => ?_) AllReadyH.nil
             try simp only [Kl.pts]
             go_simp
             refine (CTYr.out _ hS163).mono ?_
             rintro e Wc165 ⟨q165, q165o, q165v, q165n, q165p, kq165, q165c, rfl, he165, ho165, hc165, hf165, hb165⟩
             have hS165 : Below WN.heap.size WN Wc165 := hS163.trans (hb165.out.mono hS163.size)
             have ho166 := (ho164).below hb165.out
             have htd165 : Wb139.heap.size ∉ Kl.fp q165 := fun h => by have h1 := hf165.out _ h; have h2 := (hz163).lt; omega
             have hzz165 := (hz163).below hb165.out
             refine hK.out _ _ hS165 (fun hHeld9 => ?_)
             clear hK K
             try simp only [Kl.pts]
             refine wpAnyH_ready (rs := [9]) (by kernel_rfl) (by simp) ?_
             refine AllReadyH.cons rfl (fun K hK => ?_) AllReadyH.nil
             try simp only [Kl.pts]
             go_simp
             refine (CTXr.out _ hS165).mono ?_
             rintro e Wc167 ⟨q167, q167o, q167v, q167n, q167p, kq167, q167c, rfl, he167, ho167, hc167, hf167, hb167⟩
             have hS167 : Below WN.heap.size WN Wc167 := hS165.trans (hb167.out.mono hS165.size)
             have ho168 := (ho166).below hb167.out
             have ho169 := (ho165.out).below hb167.out
             have htd167 : Wb139.heap.size ∉ Kl.fp q167 := fun h => by have h1 := hf167.out _ h; have h2 := (hzz165).lt; omega
             have hzz167 := (hzz165).below hb167.out
             refine hK.out _ _ hS167 (fun hHeld9 => ?_)
             clear hK K
             try simp only [Kl.pts]
             refine wpAnyH_ready (rs := [10]) (by kernel_rfl) (by simp) ?_
             refine AllReadyH.cons rfl (fun K hK => ?_) AllReadyH.nil
             try simp only [Kl.pts]
             go_simp
             obtain ⟨Wb170, hWb170⟩ : ∃ V, Wc167.alloc (.cells #[.int .i64 2, .int .i64 0, .int .i64 0, .slice (some ⟨b139, 0, none⟩) 2 2, .int .i64 q165o, .int .i64 q165v, .int .i64 q165n, .slice q165p kq165 q165c, .int .i64 q167o, .int .i64 q167v, .int .i64 q167n, .slice q167p kq167 q167c] 37) = V := ⟨_, rfl⟩
             obtain ⟨b170, hb170⟩ : ∃ B, Wc167.heap.size = B := ⟨_, rfl⟩
             obtain ⟨F170, hen170, ho170, hc170, hx170, hab170⟩ := Kl.row3 2 hWb170 hb170 hen139 (Kl.enc_of he165.out) (Kl.enc_of he167.out) ho168 ho169 ho167.out hc139 hc165.out hc167.out
             have hS170 := hS167.trans (hab170.mono hS167.size)
             have htd170 := hx170 _ (by have := (hzz167).lt; omega) ht164 htd165 htd167
             have hzz170 := (hzz167).below hab170
             rw [hWb170, hb170]
             refine hK.out _ _ hS170 (fun hHeld9 => ?_)
             clear hK K
             try simp only [Kl.pts]
             clear hWb170
             refine Kl.tk 11 (.agg #[.int .i64 2, .int .i64 0, .int .i64 0, .slice (some ⟨b170, 0, none⟩) 3 3]) rfl (by kernel_rfl) (fun _ _ _ h => h) (by assumption) (Or.inl ⟨by rfl, ?y11⟩) ?_
             case y11 => (intro w1 h; go_simp)
             try simp only [Kl.pts]
             refine wpAnyH_ready (rs := [13]) (by kernel_rfl) (by simp) ?_
             refine AllReadyH.cons rfl (fun K hK => ?_) AllReadyH.nil
             try simp only [Kl.pts]
             have hzD := hzz170
             obtain ⟨⟨d0, d1, d2, d3⟩, d4⟩ := hzD
             have hRES := Kl.box_done (w0 := WN) (hc170) (hen170) hzz170 (ho170) htd170 hl163 hS170
             have d5 : Wb139.heap.size < Wb170.heap.size := (hzz170).lt
             go_simp
             refine hK.out _ _ hRES.2 (fun hHeld9 => ?_)
             clear hK K
             try simp only [Kl.pts]
             refine wpAnyH_done (by kernel_rfl) ?_ _
             go_wp2_with fail
             go_meet
             exact ⟨_, rfl, hRES.1, hRES.2⟩
           refine AllReadyH.cons rfl (fun K hK => ?_) ?_
           · try simp only [Kl.pts]
             go_simp
             refine (CTYr.out _ hS137).mono ?_
             rintro e Wc172 ⟨q172, q172o, q172v, q172n, q172p, kq172, q172c, rfl, he172, ho172, hc172, hf172, hb172⟩
             have hS172 : Below WN.heap.size WN Wc172 := hS137.trans (hb172.out.mono hS137.size)
             have ho173 := (ho138).below hb172.out
             have ho174 := (ho137.out).below hb172.out
             refine hK.out _ _ hS172 (fun hHeld9 => ?_)
             clear hK K
             try simp only [Kl.pts]
             refine wpAnyH_ready (rs := [4, 9, 12]) (by kernel_rfl) (by simp) ?_
             refine AllReadyH.cons rfl (fun K hK => ?_) ?_
             · try simp only [Kl.pts]
               go_simp
               obtain ⟨Wb175, hWb175⟩ : ∃ V, Wc172.alloc (.cells #[.int .i64 q136o, .int .i64 q136v, .int .i64 q136n, .slice q136p kq136 q136c, .int .i64 q137o, .int .i64 q137v, .int .i64 q137n, .slice q137p kq137 q137c] 37) = V := ⟨_, rfl⟩
               obtain ⟨b175, hb175⟩ : ∃ B, Wc172.heap.size = B := ⟨_, rfl⟩
               obtain ⟨F175, hen175, ho175, hc175, hx175, hab175⟩ := Kl.row2 2 hWb175 hb175 (Kl.enc_of he136.out) (Kl.enc_of he137.out) ho173 ho174 hc136.out hc137.out
               have hS175 := hS172.trans (hab175.mono hS172.size)
               have ho176 := (ho172.out).below hab175
               rw [hWb175, hb175]
               refine hK.out _ _ hS175 (fun hHeld9 => ?_)
               clear hK K
               try simp only [Kl.pts]
               clear hWb175
               refine Kl.tk 5 (.agg #[.int .i64 2, .int .i64 0, .int .i64 0, .slice (some ⟨b175, 0, none⟩) 2 2]) rfl (by kernel_rfl) (fun _ _ _ h => h) (by assumption) (Or.inl ⟨by rfl, ?y5⟩) ?_
               case y5 => (intro w1 h; go_simp)
               try simp only [Kl.pts]
               refine wpAnyH_ready (rs := [9, 12]) (by kernel_rfl) (by simp) ?_
               refine AllReadyH.cons rfl (fun K hK => ?_) ?_
               · try simp only [Kl.pts]
                 go_simp
                 refine (CTXr.out _ hS175).mono ?_
                 rintro e Wc177 ⟨q177, q177o, q177v, q177n, q177p, kq177, q177c, rfl, he177, ho177, hc177, hf177, hb177⟩
                 have hS177 : Below WN.heap.size WN Wc177 := hS175.trans (hb177.out.mono hS175.size)
                 have ho178 := (ho176).below hb177.out
                 have ho179 := (ho175).below hb177.out
                 refine hK.out _ _ hS177 (fun hHeld9 => ?_)
                 clear hK K
                 try simp only [Kl.pts]
                 refine wpAnyH_ready (rs := [10, 12]) (by kernel_rfl) (by simp) ?_
                 refine AllReadyH.cons rfl (fun K hK => ?_) ?_
                 · try simp only [Kl.pts]
                   go_simp
                   obtain ⟨Wb180, hWb180⟩ : ∃ V, Wc177.alloc (.cells #[.int .i64 2, .int .i64 0, .int .i64 0, .slice (some ⟨b175, 0, none⟩) 2 2, .int .i64 q172o, .int .i64 q172v, .int .i64 q172n, .slice q172p kq172 q172c, .int .i64 q177o, .int .i64 q177v, .int .i64 q177n, .slice q177p kq177 q177c] 37) = V := ⟨_, rfl⟩
                   obtain ⟨b180, hb180⟩ : ∃ B, Wc177.heap.size = B := ⟨_, rfl⟩
                   obtain ⟨F180, hen180, ho180, hc180, hx180, hab180⟩ := Kl.row3 2 hWb180 hb180 hen175 (Kl.enc_of he172.out) (Kl.enc_of he177.out) ho179 ho178 ho177.out hc175 hc172.out hc177.out
                   have hS180 := hS177.trans (hab180.mono hS177.size)
                   rw [hWb180, hb180]
                   refine hK.out _ _ hS180 (fun hHeld9 => ?_)
                   clear hK K
                   try simp only [Kl.pts]
                   clear hWb180
                   refine Kl.tk 11 (.agg #[.int .i64 2, .int .i64 0, .int .i64 0, .slice (some ⟨b180, 0, none⟩) 3 3]) rfl (by kernel_rfl) (fun _ _ _ h => h) (by assumption) (Or.inl ⟨by rfl, ?y11⟩) ?_
                   case y11 => (intro w1 h; go_simp)
                   try simp only [Kl.pts]
                   refine wpAnyH_ready (rs := [12]) (by kernel_rfl) (by simp) ?_
                   refine AllReadyH.cons rfl (fun K hK => ?_) AllReadyH.nil
                   try simp only [Kl.pts]
                   go_simp
                   obtain ⟨Wa181, hWa181⟩ : ∃ V, Wb180.alloc (.cells #[.int .i64 0, .int .i64 0, .int .i64 0, .slice none 0 0] 37) = V := ⟨_, rfl⟩
                   have hab181 : Below Wb180.heap.size Wb180 Wa181 := by rw [← hWa181]; exact (Below.refl _ _).alloc (Nat.le_refl _) _
                   have hz181 : Kl.BoxZ Wa181 Wb180.heap.size := by rw [← hWa181]; exact Kl.BoxZ.new _ _
                   have hS181 : Below WN.heap.size WN Wa181 := hS180.trans (hab181.mono hS180.size)
                   have hl181 : WN.heap.size ≤ Wb180.heap.size := hS180.size
                   have ho182 := (ho180).below hab181
                   have ht182 : Wb180.heap.size ∉ Kl.fp F180 := Kl.not_fp (ho180) (Nat.le_refl _)
                   rw [hWa181]
                   refine hK.out _ _ hS181 (fun hHeld9 => ?_)
                   clear hK K
                   try simp only [Kl.pts]
                   clear hWa181
                   refine wpAnyH_ready (rs := [13]) (by kernel_rfl) (by simp) ?_
                   refine AllReadyH.cons rfl (fun K hK => ?_) AllReadyH.nil
                   try simp only [Kl.pts]
                   have hzD := hz181
                   obtain ⟨⟨d0, d1, d2, d3⟩, d4⟩ := hzD
                   have hRES := Kl.box_done (w0 := WN) (hc180) (hen180) hz181 (ho182) ht182 hl181 hS181
                   have d5 : Wb180.heap.size < Wa181.heap.size := (hz181).lt
                   go_simp
                   refine hK.out _ _ hRES.2 (fun hHeld9 => ?_)
                   clear hK K
                   try simp only [Kl.pts]
                   refine wpAnyH_done (by kernel_rfl) ?_ _
                   go_wp2_with fail
                   go_meet
                   exact ⟨_, rfl, hRES.1, hRES.2⟩
                 refine AllReadyH.cons rfl (fun K hK => ?_) AllReadyH.nil
                 try simp only [Kl.pts]
                 go_simp
                 obtain ⟨Wa184, hWa184⟩ : ∃ V, Wc177.alloc (.cells #[.int .i64 0, .int .i64 0, .int .i64 0, .slice none 0 0] 37) = V := ⟨_, rfl⟩
                 have hab184 : Below Wc177.heap.size Wc177 Wa184 := by rw [← hWa184]; exact (Below.refl _ _).alloc (Nat.le_refl _) _
                 have hz184 : Kl.BoxZ Wa184 Wc177.heap.size := by rw [← hWa184]; exact Kl.BoxZ.new _ _
                 have hS184 : Below WN.heap.size WN Wa184 := hS177.trans (hab184.mono hS177.size)
                 have hl184 : WN.heap.size ≤ Wc177.heap.size := hS177.size
                 have ho185 := (ho178).below hab184
                 have ht185 : Wc177.heap.size ∉ Kl.fp q172 := Kl.not_fp (ho178) (Nat.le_refl _)
                 have ho186 := (ho179).below hab184
                 have ht186 : Wc177.heap.size ∉ Kl.fp F175 := Kl.not_fp (ho179) (Nat.le_refl _)
                 have ho187 := (ho177.out).below hab184
                 have ht187 : Wc177.heap.size ∉ Kl.fp q177 := Kl.not_fp (ho177.out) (Nat.le_refl _)
                 rw [hWa184]
                 refine hK.out _ _ hS184 (fun hHeld9 => ?_)
                 clear hK K
                 try simp only [Kl.pts]
                 clear hWa184
                 refine wpAnyH_ready (rs := [10]) (by kernel_rfl) (by simp) ?_
                 refine AllReadyH.cons rfl (fun K hK => ?_) AllReadyH.nil
                 try simp only [Kl.pts]
                 go_simp
                 obtain ⟨Wb188, hWb188⟩ : ∃ V, Wa184.alloc (.cells #[.int .i64 2, .int .i64 0, .int .i64 0, .slice (some ⟨b175, 0, none⟩) 2 2, .int .i64 q172o, .int .i64 q172v, .int .i64 q172n, .slice q172p kq172 q172c, .int .i64 q177o, .int .i64 q177v, .int .i64 q177n, .slice q177p kq177 q177c] 37) = V := ⟨_, rfl⟩
                 obtain ⟨b188, hb188⟩ : ∃ B, Wa184.heap.size = B := ⟨_, rfl⟩
                 obtain ⟨F188, hen188, ho188, hc188, hx188, hab188⟩ := Kl.row3 2 hWb188 hb188 hen175 (Kl.enc_of he172.out) (Kl.enc_of he177.out) ho186 ho185 ho187 hc175 hc172.out hc177.out
                 have hS188 := hS184.trans (hab188.mono hS184.size)
                 have htd188 := hx188 _ (by have := (hz184).lt; omega) ht186 ht185 ht187
                 have hzz188 := (hz184).below hab188
                 rw [hWb188, hb188]
                 refine hK.out _ _ hS188 (fun hHeld9 => ?_)
                 clear hK K
                 try simp only [Kl.pts]
                 clear hWb188
                 refine Kl.tk 11 (.agg #[.int .i64 2, .int .i64 0, .int .i64 0, .slice (some ⟨b188, 0, none⟩) 3 3]) rfl (by kernel_rfl) (fun _ _ _ h => h) (by assumption) (Or.inl ⟨by rfl, ?y11⟩) ?_
                 case y11 => (intro w1 h; go_simp)
                 try simp only [Kl.pts]
                 refine wpAnyH_ready (rs := [13]) (by kernel_rfl) (by simp) ?_
                 refine AllReadyH.cons rfl (fun K hK => ?_) AllReadyH.nil
                 try simp only [Kl.pts]
                 have hzD := hzz188
                 obtain ⟨⟨d0, d1, d2, d3⟩, d4⟩ := hzD
                 have hRES := Kl.box_done (w0 := WN) (hc188) (hen188) hzz188 (ho188) htd188 hl184 hS188
                 have d5 : Wc177.heap.size < Wb188.heap.size := (hzz188).lt
                 go_simp
                 refine hK.out _ _ hRES.2 (fun hHeld9 => ?_)
                 clear hK K
                 try simp only [Kl.pts]
                 refine wpAnyH_done (by kernel_rfl) ?_ _
                 go_wp2_with fail
                 go_meet
                 exact ⟨_, rfl, hRES.1, hRES.2⟩
               refine AllReadyH.cons rfl (fun K hK => ?_) AllReadyH.nil
               try simp only [Kl.pts]
               go_simp
               obtain ⟨Wa190, hWa190⟩ : ∃ V, Wb175.alloc (.cells #[.int .i64 0, .int .i64 0, .int .i64 0, .slice none 0 0] 37) = V := ⟨_, rfl⟩
               have hab190 : Below Wb175.heap.size Wb175 Wa190 := by rw [← hWa190]; exact (Below.refl _ _).alloc (Nat.le_refl _) _
               have hz190 : Kl.BoxZ Wa190 Wb175.heap.size := by rw [← hWa190]; exact Kl.BoxZ.new _ _
               have hS190 : Below WN.heap.size WN Wa190 := hS175.trans (hab190.mono hS175.size)
               have hl190 : WN.heap.size ≤ Wb175.heap.size := hS175.size
               have ho191 := (ho176).below hab190
               have ht191 : Wb175.heap.size ∉ Kl.fp q172 := Kl.not_fp (ho176) (Nat.le_refl _)
               have ho192 := (ho175).below hab190
               have ht192 : Wb175.heap.size ∉ Kl.fp F175 := Kl.not_fp (ho175) (Nat.le_refl _)
               rw [hWa190]
               refine hK.out _ _ hS190 (fun hHeld9 => ?_)
               clear hK K
               try simp only [Kl.pts]
               clear hWa190
               refine wpAnyH_ready (rs := [9]) (by kernel_rfl) (by simp) ?_
               refine AllReadyH.cons rfl (fun K hK => ?_) AllReadyH.nil
               try simp only [Kl.pts]
               go_simp
               refine (CTXr.out _ hS190).mono ?_
               rintro e Wc193 ⟨q193, q193o, q193v, q193n, q193p, kq193, q193c, rfl, he193, ho193, hc193, hf193, hb193⟩
               have hS193 : Below WN.heap.size WN Wc193 := hS190.trans (hb193.out.mono hS190.size)
               have ho194 := (ho191).below hb193.out
               have ho195 := (ho192).below hb193.out
               have htd193 : Wb175.heap.size ∉ Kl.fp q193 := fun h => by have h1 := hf193.out _ h; have h2 := (hz190).lt; omega
               have hzz193 := (hz190).below hb193.out
               refine hK.out _ _ hS193 (fun hHeld9 => ?_)
               clear hK K
               try simp only [Kl.pts]
               refine wpAnyH_ready (rs := [10]) (by kernel_rfl) (by simp) ?_
               refine AllReadyH.cons rfl (fun K hK => ?_) AllReadyH.nil
               try simp only [Kl.pts]
               go_simp
               obtain ⟨Wb196, hWb196⟩ : ∃ V, Wc193.alloc (.cells #[.int .i64 2, .int .i64 0, .int .i64 0, .slice (some ⟨b175, 0, none⟩) 2 2, .int .i64 q172o, .int .i64 q172v, .int .i64 q172n, .slice q172p kq172 q172c, .int .i64 q193o, .int .i64 q193v, .int .i64 q193n, .slice q193p kq193 q193c] 37) = V := ⟨_, rfl⟩
               obtain ⟨b196, hb196⟩ : ∃ B, Wc193.heap.size = B := ⟨_, rfl⟩
               obtain ⟨F196, hen196, ho196, hc196, hx196, hab196⟩ := Kl.row3 2 hWb196 hb196 hen175 (Kl.enc_of he172.out) (Kl.enc_of he193.out) ho195 ho194 ho193.out hc175 hc172.out hc193.out
               have hS196 := hS193.trans (hab196.mono hS193.size)
               have htd196 := hx196 _ (by have := (hzz193).lt; omega) ht192 ht191 htd193
               have hzz196 := (hzz193).below hab196
               rw [hWb196, hb196]
               refine hK.out _ _ hS196 (fun hHeld9 => ?_)
               clear hK K
               try simp only [Kl.pts]
               clear hWb196
               refine Kl.tk 11 (.agg #[.int .i64 2, .int .i64 0, .int .i64 0, .slice (some ⟨b196, 0, none⟩) 3 3]) rfl (by kernel_rfl) (fun _ _ _ h => h) (by assumption) (Or.inl ⟨by rfl, ?y11⟩) ?_
               case y11 => (intro w1 h; go_simp)
               try simp only [Kl.pts]
               refine wpAnyH_ready (rs := [13]) (by kernel_rfl) (by simp) ?_
               refine AllReadyH.cons rfl (fun K hK => ?_) AllReadyH.nil
               try simp only [Kl.pts]
               have hzD := hzz196
               obtain ⟨⟨d0, d1, d2, d3⟩, d4⟩ := hzD
               have hRES := Kl.box_done (w0 := WN) (hc196) (hen196) hzz196 (ho196) htd196 hl190 hS196
               have d5 : Wb175.heap.size < Wb196.heap.size := (hzz196).lt
               go_simp
               refine hK.out _ _ hRES.2 (fun hHeld9 => ?_)
               clear hK K
               try simp only [Kl.pts]
               refine wpAnyH_done (by kernel_rfl) ?_ _
               go_wp2_with fail
               go_meet
               exact ⟨_, rfl, hRES.1, hRES.2⟩
             refine AllReadyH.cons rfl (fun K hK => ?_) ?_
             · try simp only [Kl.pts]
               go_simp
               refine (CTXr.out _ hS172).mono ?_
               rintro e Wc198 ⟨q198, q198o, q198v, q198n, q198p, kq198, q198c, rfl, he198, ho198, hc198, hf198, hb198⟩
               have hS198 : Below WN.heap.size WN Wc198 := hS172.trans (hb198.out.mono hS172.size)
               have ho199 := (ho173).below hb198.out
               have ho200 := (ho174).below hb198.out
               have ho201 := (ho172.out).below hb198.out
               refine hK.out _ _ hS198 (fun hHeld9 => ?_)
               clear hK K
               try simp only [Kl.pts]
               refine wpAnyH_ready (rs := [4, 12]) (by kernel_rfl) (by simp) ?_
               refine AllReadyH.cons rfl (fun K hK => ?_) ?_
               · try simp only [Kl.pts]
                 go_simp
                 obtain ⟨Wb202, hWb202⟩ : ∃ V, Wc198.alloc (.cells #[.int .i64 q136o, .int .i64 q136v, .int .i64 q136n, .slice q136p kq136 q136c, .int .i64 q137o, .int .i64 q137v, .int .i64 q137n, .slice q137p kq137 q137c] 37) = V := ⟨_, rfl⟩
                 obtain ⟨b202, hb202⟩ : ∃ B, Wc198.heap.size = B := ⟨_, rfl⟩
                 obtain ⟨F202, hen202, ho202, hc202, hx202, hab202⟩ := Kl.row2 2 hWb202 hb202 (Kl.enc_of he136.out) (Kl.enc_of he137.out) ho199 ho200 hc136.out hc137.out
                 have hS202 := hS198.trans (hab202.mono hS198.size)
                 have ho203 := (ho201).below hab202
                 have ho204 := (ho198.out).below hab202
                 rw [hWb202, hb202]
                 refine hK.out _ _ hS202 (fun hHeld9 => ?_)
                 clear hK K
                 try simp only [Kl.pts]
                 clear hWb202
                 refine Kl.tk 5 (.agg #[.int .i64 2, .int .i64 0, .int .i64 0, .slice (some ⟨b202, 0, none⟩) 2 2]) rfl (by kernel_rfl) (fun _ _ _ h => h) (by assumption) (Or.inl ⟨by rfl, ?y5⟩) ?_
                 case y5 => (intro w1 h; go_simp)
                 try simp only [Kl.pts]
                 refine wpAnyH_ready (rs := [10, 12]) (by kernel_rfl) (by simp) ?_
                 refine AllReadyH.cons rfl (fun K hK => ?_) ?_
                 · try simp only [Kl.pts]
                   go_simp
                   obtain ⟨Wb205, hWb205⟩ : ∃ V, Wb202.alloc (.cells #[.int .i64 2, .int .i64 0, .int .i64 0, .slice (some ⟨b202, 0, none⟩) 2 2, .int .i64 q172o, .int .i64 q172v, .int .i64 q172n, .slice q172p kq172 q172c, .int .i64 q198o, .int .i64 q198v, .int .i64 q198n, .slice q198p kq198 q198c] 37) = V := ⟨_, rfl⟩
                   obtain ⟨b205, hb205⟩ : ∃ B, Wb202.heap.size = B := ⟨_, rfl⟩
                   obtain ⟨F205, hen205, ho205, hc205, hx205, hab205⟩ := Kl.row3 2 hWb205 hb205 hen202 (Kl.enc_of he172.out) (Kl.enc_of he198.out) ho202 ho203 ho204 hc202 hc172.out hc198.out
                   have hS205 := hS202.trans (hab205.mono hS202.size)
                   rw [hWb205, hb205]
                   refine hK.out _ _ hS205 (fun hHeld9 => ?_)
                   clear hK K
                   try simp only [Kl.pts]
                   clear hWb205
                   refine Kl.tk 11 (.agg #[.int .i64 2, .int .i64 0, .int .i64 0, .slice (some ⟨b205, 0, none⟩) 3 3]) rfl (by kernel_rfl) (fun _ _ _ h => h) (by assumption) (Or.inl ⟨by rfl, ?y11⟩) ?_
                   case y11 => (intro w1 h; go_simp)
                   try simp only [Kl.pts]
                   refine wpAnyH_ready (rs := [12]) (by kernel_rfl) (by simp) ?_
                   refine AllReadyH.cons rfl (fun K hK => ?_) AllReadyH.nil
                   try simp only [Kl.pts]
                   go_simp
                   obtain ⟨Wa206, hWa206⟩ : ∃ V, Wb205.alloc (.cells #[.int .i64 0, .int .i64 0, .int .i64 0, .slice none 0 0] 37) = V := ⟨_, rfl⟩
                   have hab206 : Below Wb205.heap.size Wb205 Wa206 := by rw [← hWa206]; exact (Below.refl _ _).alloc (Nat.le_refl _) _
                   have hz206 : Kl.BoxZ Wa206 Wb205.heap.size := by rw [← hWa206]; exact Kl.BoxZ.new _ _
                   have hS206 : Below WN.heap.size WN Wa206 := hS205.trans (hab206.mono hS205.size)
                   have hl206 : WN.heap.size ≤ Wb205.heap.size := hS205.size
                   have ho207 := (ho205).below hab206
                   have ht207 : Wb205.heap.size ∉ Kl.fp F205 := Kl.not_fp (ho205) (Nat.le_refl _)
                   rw [hWa206]
                   refine hK.out _ _ hS206 (fun hHeld9 => ?_)
                   clear hK K
                   try simp only [Kl.pts]
                   clear hWa206
                   refine wpAnyH_ready (rs := [13]) (by kernel_rfl) (by simp) ?_
                   refine AllReadyH.cons rfl (fun K hK => ?_) AllReadyH.nil
                   try simp only [Kl.pts]
                   have hzD := hz206
                   obtain ⟨⟨d0, d1, d2, d3⟩, d4⟩ := hzD
                   have hRES := Kl.box_done (w0 := WN) (hc205) (hen205) hz206 (ho207) ht207 hl206 hS206
                   have d5 : Wb205.heap.size < Wa206.heap.size := (hz206).lt
                   go_simp
                   refine hK.out _ _ hRES.2 (fun hHeld9 => ?_)
                   clear hK K
                   try simp only [Kl.pts]
                   refine wpAnyH_done (by kernel_rfl) ?_ _
                   go_wp2_with fail
                   go_meet
                   exact ⟨_, rfl, hRES.1, hRES.2⟩
                 refine AllReadyH.cons rfl (fun K hK => ?_) AllReadyH.nil
                 try simp only [Kl.pts]
                 go_simp
                 obtain ⟨Wa209, hWa209⟩ : ∃ V, Wb202.alloc (.cells #[.int .i64 0, .int .i64 0, .int .i64 0, .slice none 0 0] 37) = V := ⟨_, rfl⟩
                 have hab209 : Below Wb202.heap.size Wb202 Wa209 := by rw [← hWa209]; exact (Below.refl _ _).alloc (Nat.le_refl _) _
                 have hz209 : Kl.BoxZ Wa209 Wb202.heap.size := by rw [← hWa209]; exact Kl.BoxZ.new _ _
                 have hS209 : Below WN.heap.size WN Wa209 := hS202.trans (hab209.mono hS202.size)
                 have hl209 : WN.heap.size ≤ Wb202.heap.size := hS202.size
                 have ho210 := (ho203).below hab209
                 have ht210 : Wb202.heap.size ∉ Kl.fp q172 := Kl.not_fp (ho203) (Nat.le_refl _)
                 have ho211 := (ho204).below hab209
                 have ht211 : Wb202.heap.size ∉ Kl.fp q198 := Kl.not_fp (ho204) (Nat.le_refl _)
                 have ho212 := (ho202).below hab209
                 have ht212 : Wb202.heap.size ∉ Kl.fp F202 := Kl.not_fp (ho202) (Nat.le_refl _)
                 rw [hWa209]
                 refine hK.out _ _ hS209 (fun hHeld9 => ?_)
                 clear hK K
                 try simp only [Kl.pts]
                 clear hWa209
                 refine wpAnyH_ready (rs := [10]) (by kernel_rfl) (by simp) ?_
                 refine AllReadyH.cons rfl (fun K hK => ?_) AllReadyH.nil
                 try simp only [Kl.pts]
                 go_simp
                 obtain ⟨Wb213, hWb213⟩ : ∃ V, Wa209.alloc (.cells #[.int .i64 2, .int .i64 0, .int .i64 0, .slice (some ⟨b202, 0, none⟩) 2 2, .int .i64 q172o, .int .i64 q172v, .int .i64 q172n, .slice q172p kq172 q172c, .int .i64 q198o, .int .i64 q198v, .int .i64 q198n, .slice q198p kq198 q198c] 37) = V := ⟨_, rfl⟩
                 obtain ⟨b213, hb213⟩ : ∃ B, Wa209.heap.size = B := ⟨_, rfl⟩
                 obtain ⟨F213, hen213, ho213, hc213, hx213, hab213⟩ := Kl.row3 2 hWb213 hb213 hen202 (Kl.enc_of he172.out) (Kl.enc_of he198.out) ho212 ho210 ho211 hc202 hc172.out hc198.out
                 have hS213 := hS209.trans (hab213.mono hS209.size)
                 have htd213 := hx213 _ (by have := (hz209).lt; omega) ht212 ht210 ht211
                 have hzz213 := (hz209).below hab213
                 rw [hWb213, hb213]
                 refine hK.out _ _ hS213 (fun hHeld9 => ?_)
                 clear hK K
                 try simp only [Kl.pts]
                 clear hWb213
                 refine Kl.tk 11 (.agg #[.int .i64 2, .int .i64 0, .int .i64 0, .slice (some ⟨b213, 0, none⟩) 3 3]) rfl (by kernel_rfl) (fun _ _ _ h => h) (by assumption) (Or.inl ⟨by rfl, ?y11⟩) ?_
                 case y11 => (intro w1 h; go_simp)
                 try simp only [Kl.pts]
                 refine wpAnyH_ready (rs := [13]) (by kernel_rfl) (by simp) ?_
                 refine AllReadyH.cons rfl (fun K hK => ?_) AllReadyH.nil
                 try simp only [Kl.pts]
                 have hzD := hzz213
                 obtain ⟨⟨d0, d1, d2, d3⟩, d4⟩ := hzD
                 have hRES := Kl.box_done (w0 := WN) (hc213) (hen213) hzz213 (ho213) htd213 hl209 hS213
                 have d5 : Wb202.heap.size < Wb213.heap.size := (hzz213).lt
                 go_simp
                 refine hK.out _ _ hRES.2 (fun hHeld9 => ?_)
                 clear hK K
                 try simp only [Kl.pts]
                 refine wpAnyH_done (by kernel_rfl) ?_ _
                 go_wp2_with fail
                 go_meet
                 exact ⟨_, rfl, hRES.1, hRES.2⟩
               refine AllReadyH.cons rfl (fun K hK => ?_) AllReadyH.nil
               try simp only [Kl.pts]
               go_simp
               obtain ⟨Wa215, hWa215⟩ : ∃ V, Wc198.alloc (.cells #[.int .i64 0, .int .i64 0, .int .i64 0, .slice none 0 0] 37) = V := ⟨_, rfl⟩
               have hab215 : Below Wc198.heap.size Wc198 Wa215 := by rw [← hWa215]; exact (Below.refl _ _).alloc (Nat.le_refl _) _
               have hz215 : Kl.BoxZ Wa215 Wc198.heap.size := by rw [← hWa215]; exact Kl.BoxZ.new _ _
               have hS215 : Below WN.heap.size WN Wa215 := hS198.trans (hab215.mono hS198.size)
               have hl215 : WN.heap.size ≤ Wc198.heap.size := hS198.size
               have ho216 := (ho199).below hab215
               have ht216 : Wc198.heap.size ∉ Kl.fp q136 := Kl.not_fp (ho199) (Nat.le_refl _)
               have ho217 := (ho200).below hab215
               have ht217 : Wc198.heap.size ∉ Kl.fp q137 := Kl.not_fp (ho200) (Nat.le_refl _)
               have ho218 := (ho201).below hab215
               have ht218 : Wc198.heap.size ∉ Kl.fp q172 := Kl.not_fp (ho201) (Nat.le_refl _)
               have ho219 := (ho198.out).below hab215
               have ht219 : Wc198.heap.size ∉ Kl.fp q198 := Kl.not_fp (ho198.out) (Nat.le_refl _)
               rw [hWa215]
               refine hK.out _ _ hS215 (fun hHeld9 => ?_)
               clear hK K
               try simp only [Kl.pts]
               clear hWa215
               refine wpAnyH_ready (rs := [4]) (by kernel_rfl) (by simp) ?_
               refine AllReadyH.cons rfl (fun K hK => ?_) AllReadyH.nil
               try simp only [Kl.pts]
               go_simp
               obtain ⟨Wb220, hWb220⟩ : ∃ V, Wa215.alloc (.cells #[.int .i64 q136o, .int .i64 q136v, .int .i64 q136n, .slice q136p kq136 q136c, .int .i64 q137o, .int .i64 q137v, .int .i64 q137n, .slice q137p kq137 q137c] 37) = V := ⟨_, rfl⟩
               obtain ⟨b220, hb220⟩ : ∃ B, Wa215.heap.size = B := ⟨_, rfl⟩
               obtain ⟨F220, hen220, ho220, hc220, hx220, hab220⟩ := Kl.row2 2 hWb220 hb220 (Kl.enc_of he136.out) (Kl.enc_of he137.out) ho216 ho217 hc136.out hc137.out
               have hS220 := hS215.trans (hab220.mono hS215.size)
               have htd220 := hx220 _ (by have := (hz215).lt; omega) ht216 ht217
               have hzz220 := (hz215).below hab220
               have ho221 := (ho218).below hab220
               have ho222 := (ho219).below hab220
               rw [hWb220, hb220]
               refine hK.out _ _ hS220 (fun hHeld9 => ?_)
               clear hK K
               try simp only [Kl.pts]
               clear hWb220
               refine Kl.tk 5 (.agg #[.int .i64 2, .int .i64 0, .int .i64 0, .slice (some ⟨b220, 0, none⟩) 2 2]) rfl (by kernel_rfl) (fun _ _ _ h => h) (by assumption) (Or.inl ⟨by rfl, ?y5⟩) ?_
               case y5 => (intro w1 h; go_simp)
               try simp only [Kl.pts]
               refine wpAnyH_ready (rs := [10]) (by kernel_rfl) (by simp) ?_
               refine AllReadyH.cons rfl (fun K hK => ?_) AllReadyH.nil
               try simp only [Kl.pts]
               go_simp
               obtain ⟨Wb223, hWb223⟩ : ∃ V, Wb220.alloc (.cells #[.int .i64 2, .int .i64 0, .int .i64 0, .slice (some ⟨b220, 0, none⟩) 2 2, .int .i64 q172o, .int .i64 q172v, .int .i64 q172n, .slice q172p kq172 q172c, .int .i64 q198o, .int .i64 q198v, .int .i64 q198n, .slice q198p kq198 q198c] 37) = V := ⟨_, rfl⟩
               obtain ⟨b223, hb223⟩ : ∃ B, Wb220.heap.size = B := ⟨_, rfl⟩
               obtain ⟨F223, hen223, ho223, hc223, hx223, hab223⟩ := Kl.row3 2 hWb223 hb223 hen220 (Kl.enc_of he172.out) (Kl.enc_of he198.out) ho220 ho221 ho222 hc220 hc172.out hc198.out
               have hS223 := hS220.trans (hab223.mono hS220.size)
               have htd223 := hx223 _ (by have := (hzz220).lt; omega) htd220 ht218 ht219
               have hzz223 := (hzz220).below hab223
               rw [hWb223, hb223]
               refine hK.out _ _ hS223 (fun hHeld9 => ?_)
               clear hK K
               try simp only [Kl.pts]
               clear hWb223
               refine Kl.tk 11 (.agg #[.int .i64 2, .int .i64 0, .int .i64 0, .slice (some ⟨b223, 0, none⟩) 3 3]) rfl (by kernel_rfl) (fun _ _ _ h => h) (by assumption) (Or.inl ⟨by rfl, ?y11⟩) ?_
               case y11 => (intro w1 h; go_simp)
               try simp only [Kl.pts]
               refine wpAnyH_ready (rs := [13]) (by kernel_rfl) (by simp) ?_
               refine AllReadyH.cons rfl (fun K hK => ?_) AllReadyH.nil
               try simp only [Kl.pts]
               have hzD := hzz223
               obtain ⟨⟨d0, d1, d2, d3⟩, d4⟩ := hzD
               have hRES := Kl.box_done (w0 := WN) (hc223) (hen223) hzz223 (ho223) htd223 hl215 hS223
               have d5 : Wc198.heap.size < Wb223.heap.size := (hzz223).lt
               go_simp
               refine hK.out _ _ hRES.2 (fun hHeld9 => ?_)
               clear hK K
               try simp only [Kl.pts]
               refine wpAnyH_done (by kernel_rfl) ?_ _
               go_wp2_with fail
               go_meet
               exact ⟨_, rfl, hRES.1, hRES.2⟩
             refine AllReadyH.cons rfl (fun K hK => ?_) AllReadyH.nil
             try simp only [Kl.pts]
             go_simp
             obtain ⟨Wa225, hWa225⟩ : ∃ V, Wc172.alloc (.cells #[.int .i64 0, .int .i64 0, .int .i64 0, .slice none 0 0] 37) = V := ⟨_, rfl⟩
             have hab225 : Below Wc172.heap.size Wc172 Wa225 := by rw [← hWa225]; exact (Below.refl _ _).alloc (Nat.le_refl _) _
             have hz225 : Kl.BoxZ Wa225 Wc172.heap.size := by rw [← hWa225]; exact Kl.BoxZ.new _ _
             have hS225 : Below WN.heap.size WN Wa225 := hS172.trans (hab225.mono hS172.size)
             have hl225 : WN.heap.size ≤ Wc172.heap.size := hS172.size
             have ho226 := (ho173).below hab225
             have ht226 : Wc172.heap.size ∉ Kl.fp q136 := Kl.not_fp (ho173) (Nat.le_refl _)
             have ho227 := (ho174).below hab225
             have ht227 : Wc172.heap.size ∉ Kl.fp q137 := Kl.not_fp (ho174) (Nat.le_refl _)
             have ho228 := (ho172.out).below hab225
             have ht228 : Wc172.heap.size ∉ Kl.fp q172 := Kl.not_fp (ho172.out) (Nat.le_refl _)
             rw [hWa225]
             refine hK.out _ _ hS225 (fun hHeld9 => ?_)
             clear hK K
             try simp only [Kl.pts]
             clear hWa225
             refine wpAnyH_ready (rs := [4, 9]) (by kernel_rfl) (by simp) ?_
             refine AllReadyH.cons rfl (fun K hK => ?_) ?_
             · try simp only [Kl.pts]
               go_simp
               obtain ⟨Wb229, hWb229⟩ : ∃ V, Wa225.alloc (.cells #[.int .i64 q136o, .int .i64 q136v, .int .i64 q136n, .slice q136p kq136 q136c, .int .i64 q137o, .int .i64 q137v, .int .i64 q137n, .slice q137p kq137 q137c] 37) = V := ⟨_, rfl⟩
               obtain ⟨b229, hb229⟩ : ∃ B, Wa225.heap.size = B := ⟨_, rfl⟩
               obtain ⟨F229, hen229, ho229, hc229, hx229, hab229⟩ := Kl.row2 2 hWb229 hb229 (Kl.enc_of he136.out) (Kl.enc_of he137.out) ho226 ho227 hc136.out hc137.out
               have hS229 := hS225.trans (hab229.mono hS225.size)
               have htd229 := hx229 _ (by have := (hz225).lt; omega) ht226 ht227
               have hzz229 := (hz225).below hab229
               have ho230 := (ho228).below hab229
               rw [hWb229, hb229]
               refine hK.out _ _ hS229 (fun hHeld9 => ?_)
               clear hK K
               try simp only [Kl.pts]
               clear hWb229
               refine Kl.tk 5 (.agg #[.int .i64 2, .int .i64 0, .int .i64 0, .slice (some ⟨b229, 0, none⟩) 2 2]) rfl (by kernel_rfl) (fun _ _ _ h => h) (by assumption) (Or.inl ⟨by rfl, ?y5⟩) ?_
               case y5 => (intro w1 h; go_simp)
               try simp only [Kl.pts]
               refine wpAnyH_ready (rs := [9]) (by kernel_rfl) (by simp) ?_
               refine AllReadyH.cons rfl (fun K hK => ?_) AllReadyH.nil
               try simp only [Kl.pts]
               go_simp
               refine (CTXr.out _ hS229).mono ?_
               rintro e Wc231 ⟨q231, q231o, q231v, q231n, q231p, kq231, q231c, rfl, he231, ho231, hc231, hf231, hb231⟩
               have hS231 : Below WN.heap.size WN Wc231 := hS229.trans (hb231.out.mono hS229.size)
               have ho232 := (ho230).below hb231.out
               have ho233 := (ho229).below hb231.out
               have htd231 : Wc172.heap.size ∉ Kl.fp q231 := fun h => by have h1 := hf231.out _ h; have h2 := (hzz229).lt; omega
               have hzz231 := (hzz229).below hb231.out
               refine hK.out _ _ hS231 (fun hHeld9 => ?_)
               clear hK K
               try simp only [Kl.pts]
               refine wpAnyH_ready (rs := [10]) (by kernel_rfl) (by simp) ?_
               refine AllReadyH.cons rfl (fun K hK => ?_) AllReadyH.nil
               try simp only [Kl.pts]
               go_simp
               obtain ⟨Wb234, hWb234⟩ : ∃ V, Wc231.alloc (.cells #[.int .i64 2, .int .i64 0, .int .i64 0, .slice (some ⟨b229, 0, none⟩) 2 2, .int .i64 q172o, .int .i64 q172v, .int .i64 q172n, .slice q172p kq172 q172c, .int .i64 q231o, .int .i64 q231v, .int .i64 q231n, .slice q231p kq231 q231c] 37) = V := ⟨_, rfl⟩
               obtain ⟨b234, hb234⟩ : ∃ B, Wc231.heap.size = B := ⟨_, rfl⟩
               obtain ⟨F234, hen234, ho234, hc234, hx234, hab234⟩ := Kl.row3 2 hWb234 hb234 hen229 (Kl.enc_of he172.out) (Kl.enc_of he231.out) ho233 ho232 ho231.out hc229 hc172.out hc231.out
               have hS234 := hS231.trans (hab234.mono hS231.size)
               have htd234 := hx234 _ (by have := (hzz231).lt; omega) htd229 ht228 htd231
               have hzz234 := (hzz231).below hab234
               rw [hWb234, hb234]
               refine hK.out _ _ hS234 (fun hHeld9 => ?_)
               clear hK K
               try simp only [Kl.pts]
               clear hWb234
               refine Kl.tk 11 (.agg #[.int .i64 2, .int .i64 0, .int .i64 0, .slice (some ⟨b234, 0, none⟩) 3 3]) rfl (by kernel_rfl) (fun _ _ _ h => h) (by assumption) (Or.inl ⟨by rfl, ?y11⟩) ?_
               case y11 => (intro w1 h; go_simp)
               try simp only [Kl.pts]
               refine wpAnyH_ready (rs := [13]) (by kernel_rfl) (by simp) ?_
               refine AllReadyH.cons rfl (fun K hK => ?_) AllReadyH.nil
               try simp only [Kl.pts]
               have hzD := hzz234
               obtain ⟨⟨d0, d1, d2, d3⟩, d4⟩ := hzD
               have hRES := Kl.box_done (w0 := WN) (hc234) (hen234) hzz234 (ho234) htd234 hl225 hS234
               have d5 : Wc172.heap.size < Wb234.heap.size := (hzz234).lt
               go_simp
               refine hK.out _ _ hRES.2 (fun hHeld9 => ?_)
               clear hK K
               try simp only [Kl.pts]
               refine wpAnyH_done (by kernel_rfl) ?_ _
               go_wp2_with fail
               go_meet
               exact ⟨_, rfl, hRES.1, hRES.2⟩
             refine AllReadyH.cons rfl (fun K hK => ?_) AllReadyH.nil
             try simp only [Kl.pts]
             go_simp
             refine (CTXr.out _ hS225).mono ?_
             rintro e Wc236 ⟨q236, q236o, q236v, q236n, q236p, kq236, q236c, rfl, he236, ho236, hc236, hf236, hb236⟩
             have hS236 : Below WN.heap.size WN Wc236 := hS225.trans (hb236.out.mono hS225.size)
             have ho237 := (ho226).below hb236.out
             have ho238 := (ho227).below hb236.out
             have ho239 := (ho228).below hb236.out
             have htd236 : Wc172.heap.size ∉ Kl.fp q236 := fun h => by have h1 := hf236.out _ h; have h2 := (hz225).lt; omega
             have hzz236 := (hz225).below hb236.out
             refine hK.out _ _ hS236 (fun hHeld9 => ?_)
             clear hK K
             try simp only [Kl.pts]
             refine wpAnyH_ready (rs := [4]) (by kernel_rfl) (by simp) ?_
             refine AllReadyH.cons rfl (fun K hK => ?_) AllReadyH.nil
             try simp only [Kl.pts]
             go_simp
             obtain ⟨Wb240, hWb240⟩ : ∃ V, Wc236.alloc (.cells #[.int .i64 q136o, .int .i64 q136v, .int .i64 q136n, .slice q136p kq136 q136c, .int .i64 q137o, .int .i64 q137v, .int .i64 q137n, .slice q137p kq137 q137c] 37) = V := ⟨_, rfl⟩
             obtain ⟨b240, hb240⟩ : ∃ B, Wc236.heap.size = B := ⟨_, rfl⟩
             obtain ⟨F240, hen240, ho240, hc240, hx240, hab240⟩ := Kl.row2 2 hWb240 hb240 (Kl.enc_of he136.out) (Kl.enc_of he137.out) ho237 ho238 hc136.out hc137.out
             have hS240 := hS236.trans (hab240.mono hS236.size)
             have htd240 := hx240 _ (by have := (hzz236).lt; omega) ht226 ht227
             have hzz240 := (hzz236).below hab240
             have ho241 := (ho239).below hab240
             have ho242 := (ho236.out).below hab240
             rw [hWb240, hb240]
             refine hK.out _ _ hS240 (fun hHeld9 => ?_)
             clear hK K
             try simp only [Kl.pts]
             clear hWb240
             refine Kl.tk 5 (.agg #[.int .i64 2, .int .i64 0, .int .i64 0, .slice (some ⟨b240, 0, none⟩) 2 2]) rfl (by kernel_rfl) (fun _ _ _ h => h) (by assumption) (Or.inl ⟨by rfl, ?y5⟩) ?_
             case y5 => (intro w1 h; go_simp)
             try simp only [Kl.pts]
             refine wpAnyH_ready (rs := [10]) (by kernel_rfl) (by simp) ?_
             refine AllReadyH.cons rfl (fun K hK => ?_) AllReadyH.nil
             try simp only [Kl.pts]
             go_simp
             obtain ⟨Wb243, hWb243⟩ : ∃ V, Wb240.alloc (.cells #[.int .i64 2, .int .i64 0, .int .i64 0, .slice (some ⟨b240, 0, none⟩) 2 2, .int .i64 q172o, .int .i64 q172v, .int .i64 q172n, .slice q172p kq172 q172c, .int .i64 q236o, .int .i64 q236v, .int .i64 q236n, .slice q236p kq236 q236c] 37) = V := ⟨_, rfl⟩
             obtain ⟨b243, hb243⟩ : ∃ B, Wb240.heap.size = B := ⟨_, rfl⟩
             obtain ⟨F243, hen243, ho243, hc243, hx243, hab243⟩ := Kl.row3 2 hWb243 hb243 hen240 (Kl.enc_of he172.out) (Kl.enc_of he236.out) ho240 ho241 ho242 hc240 hc172.out hc236.out
             have hS243 := hS240.trans (hab243.mono hS240.size)
             have htd243 := hx243 _ (by have := (hzz240).lt; omega) htd240 ht228 htd236
             have hzz243 := (hzz240).below hab243
             rw [hWb243, hb243]
             refine hK.out _ _ hS243 (fun hHeld9 => ?_)
             clear hK K
             try simp only [Kl.pts]
             clear hWb243
             refine Kl.tk 11 (.agg #[.int .i64 2, .int .i64 0, .int .i64 0, .slice (some ⟨b243, 0, none⟩) 3 3]) rfl (by kernel_rfl) (fun _ _ _ h => h) (by assumption) (Or.inl ⟨by rfl, ?y11⟩) ?_
             case y11 => (intro w1 h; go_simp)
             try simp only [Kl.pts]
             refine wpAnyH_ready (rs := [13]) (by kernel_rfl) (by simp) ?_
             refine AllReadyH.cons rfl (fun K hK => ?_) AllReadyH.nil
             try simp only [Kl.pts]
             have hzD := hzz243
             obtain ⟨⟨d0, d1, d2, d3⟩, d4⟩ := hzD
             have hRES := Kl.box_done (w0 := WN) (hc243) (hen243) hzz243 (ho243) htd243 hl225 hS243
             have d5 : Wc172.heap.size < Wb243.heap.size := (hzz243).lt
             go_simp
             refine hK.out _ _ hRES.2 (fun hHeld9 => ?_)
             clear hK K
             try simp only [Kl.pts]
             refine wpAnyH_done (by kernel_rfl) ?_ _
             go_wp2_with fail
             go_meet
             exact ⟨_, rfl, hRES.1, hRES.2⟩
           refine AllReadyH.cons rfl (fun K hK => ?_) AllReadyH.nil
           try simp only [Kl.pts]
           go_simp
           obtain ⟨Wa245, hWa245⟩ : ∃ V, Wc137.alloc (.cells #[.int .i64 0, .int .i64 0, .int .i64 0, .slice none 0 0] 37) = V := ⟨_, rfl⟩
           have hab245 : Below Wc137.heap.size Wc137 Wa245 := by rw [← hWa245]; exact (Below.refl _ _).alloc (Nat.le_refl _) _
           have hz245 : Kl.BoxZ Wa245 Wc137.heap.size := by rw [← hWa245]; exact Kl.BoxZ.new _ _
           have hS245 : Below WN.heap.size WN Wa245 := hS137.trans (hab245.mono hS137.size)
           have hl245 : WN.heap.size ≤ Wc137.heap.size := hS137.size
           have ho246 := (ho138).below hab245
           have ht246 : Wc137.heap.size ∉ Kl.fp q136 := Kl.not_fp (ho138) (Nat.le_refl _)
           have ho247 := (ho137.out).below hab245
           have ht247 : Wc137.heap.size ∉ Kl.fp q137 := Kl.not_fp (ho137.out) (Nat.le_refl _)
           rw [hWa245]
           refine hK.out _ _ hS245 (fun hHeld9 => ?_)
           clear hK K
           try simp only [Kl.pts]
           clear hWa245
           refine wpAnyH_ready (rs := [4, 7]) (by kernel_rfl) (by simp) ?_
           refine AllReadyH.cons rfl (fun K hK => ?_) ?_
           · try simp only [Kl.pts]
             go_simp
             obtain ⟨Wb248, hWb248⟩ : ∃ V, Wa245.alloc (.cells #[.int .i64 q136o, .int .i64 q136v, .int .i64 q136n, .slice q136p kq136 q136c, .int .i64 q137o, .int .i64 q137v, .int .i64 q137n, .slice q137p kq137 q137c] 37) = V := ⟨_, rfl⟩
             obtain ⟨b248, hb248⟩ : ∃ B, Wa245.heap.size = B := ⟨_, rfl⟩
             obtain ⟨F248, hen248, ho248, hc248, hx248, hab248⟩ := Kl.row2 2 hWb248 hb248 (Kl.enc_of he136.out) (Kl.enc_of he137.out) ho246 ho247 hc136.out hc137.out
             have hS248 := hS245.trans (hab248.mono hS245.size)
             have htd248 := hx248 _ (by have := (hz245).lt; omega) ht246 ht247
             have hzz248 := (hz245).below hab248
             rw [hWb248, hb248]
             refine hK.out _ _ hS248 (fun hHeld9 => ?_)
             clear hK K
             try simp only [Kl.pts]
             clear hWb248
             refine Kl.tk 5 (.agg #[.int .i64 2, .int .i64 0, .int .i64 0, .slice (some ⟨b248, 0, none⟩) 2 2]) rfl (by kernel_rfl) (fun _ _ _ h => h) (by assumption) (Or.inl ⟨by rfl, ?y5⟩) ?_
             case y5 => (intro w1 h; go_simp)
             try simp only [Kl.pts]
             refine wpAnyH_ready (rs := [7]) (by kernel_rfl) (by simp) ?_
             refine AllReadyH.cons rfl (fun K hK => ?_) AllReadyH.nil
             try simp only [Kl.pts]
             go_simp
             refine (CTYr.out _ hS248).mono ?_
             rintro e Wc249 ⟨q249, q249o, q249v, q249n, q249p, kq249, q249c, rfl, he249, ho249, hc249, hf249, hb249⟩
             have hS249 : Below WN.heap.size WN Wc249 := hS248.trans (hb249.out.mono hS248.size)
             have ho250 := (ho248).below hb249.out
             have htd249 : Wc137.heap.size ∉ Kl.fp q249 := fun h => by have h1 := hf249.out _ h; have h2 := (hzz248).lt; omega
             have hzz249 := (hzz248).below hb249.out
             refine hK.out _ _ hS249 (fun hHeld9 => ?_)
             clear hK K
             try simp only [Kl.pts]
             refine wpAnyH_ready (rs := [9]) (by kernel_rfl) (by simp) ?_
             refine AllReadyH.cons rfl (fun K hK => ?_) AllReadyH.nil
             try simp only [Kl.pts]
             go_simp
             refine (CTXr.out _ hS249).mono ?_
             rintro e Wc251 ⟨q251, q251o, q251v, q251n, q251p, kq251, q251c, rfl, he251, ho251, hc251, hf251, hb251⟩
             have hS251 : Below WN.heap.size WN Wc251 := hS249.trans (hb251.out.mono hS249.size)
             have ho252 := (ho250).below hb251.out
             have ho253 := (ho249.out).below hb251.out
             have htd251 : Wc137.heap.size ∉ Kl.fp q251 := fun h => by have h1 := hf251.out _ h; have h2 := (hzz249).lt; omega
             have hzz251 := (hzz249).below hb251.out
             refine hK.out _ _ hS251 (fun hHeld9 => ?_)
             clear hK K
             try simp only [Kl.pts]
             refine wpAnyH_ready (rs := [10]) (by kernel_rfl) (by simp) ?_
             refine AllReadyH.cons rfl (fun K hK => ?_) AllReadyH.nil
             try simp only [Kl.pts]
             go_simp
             obtain ⟨Wb254, hWb254⟩ : ∃ V, Wc251.alloc (.cells #[.int .i64 2, .int .i64 0, .int .i64 0, .slice (some ⟨b248, 0, none⟩) 2 2, .int .i64 q249o, .int .i64 q249v, .int .i64 q249n, .slice q249p kq249 q249c, .int .i64 q251o, .int .i64 q251v, .int .i64 q251n, .slice q251p kq251 q251c] 37) = V := ⟨_, rfl⟩
             obtain ⟨b254, hb254⟩ : ∃ B, Wc251.heap.size = B := ⟨_, rfl⟩
             obtain ⟨F254, hen254, ho254, hc254, hx254, hab254⟩ := Kl.row3 2 hWb254 hb254 hen248 (Kl.enc_of he249.out) (Kl.enc_of he251.out) ho252 ho253 ho251.out hc248 hc249.out hc251.out
             have hS254 := hS251.trans (hab254.mono hS251.size)
             have htd254 := hx254 _ (by have := (hzz251).lt; omega) htd248 htd249 htd251
             have hzz254 := (hzz251).below hab254
             rw [hWb254, hb254]
             refine hK.out _ _ hS254 (fun hHeld9 => ?_)
             clear hK K
             try simp only [Kl.pts]
             clear hWb254
             refine Kl.tk 11 (.agg #[.int .i64 2, .int .i64 0, .int .i64 0, .slice (some ⟨b254, 0, none⟩) 3 3]) rfl (by kernel_rfl) (fun _ _ _ h => h) (by assumption) (Or.inl ⟨by rfl, ?y11⟩) ?_
             case y11 => (intro w1 h; go_simp)
             try simp only [Kl.pts]
             refine wpAnyH_ready (rs := [13]) (by kernel_rfl) (by simp) ?_
             refine AllReadyH.cons rfl (fun K hK => ?_) AllReadyH.nil
             try simp only [Kl.pts]
             have hzD := hzz254
             obtain ⟨⟨d0, d1, d2, d3⟩, d4⟩ := hzD
             have hRES := Kl.box_done (w0 := WN) (hc254) (hen254) hzz254 (ho254) htd254 hl245 hS254
             have d5 : Wc137.heap.size < Wb254.heap.size := (hzz254).lt
             go_simp
             refine hK.out _ _ hRES.2 (fun hHeld9 => ?_)
             clear hK K
             try simp only [Kl.pts]
             refine wpAnyH_done (by kernel_rfl) ?_ _
             go_wp2_with fail
             go_meet
             exact ⟨_, rfl, hRES.1, hRES.2⟩
           refine AllReadyH.cons rfl (fun K hK => ?_) AllReadyH.nil
           try simp only [Kl.pts]
           go_simp
           refine (CTYr.out _ hS245).mono ?_
           rintro e Wc256 ⟨q256, q256o, q256v, q256n, q256p, kq256, q256c, rfl, he256, ho256, hc256, hf256, hb256⟩
           have hS256 : Below WN.heap.size WN Wc256 := hS245.trans (hb256.out.mono hS245.size)
           have ho257 := (ho246).below hb256.out
           have ho258 := (ho247).below hb256.out
           have htd256 : Wc137.heap.size ∉ Kl.fp q256 := fun h => by have h1 := hf256.out _ h; have h2 := (hz245).lt; omega
           have hzz256 := (hz245).below hb256.out
           refine hK.out _ _ hS256 (fun hHeld9 => ?_)
           clear hK K
           try simp only [Kl.pts]
           refine wpAnyH_ready (rs := [4, 9]) (by kernel_rfl) (by simp) ?_
           refine AllReadyH.cons rfl (fun K hK => ?_) ?_
           · try simp only [Kl.pts]
             go_simp
             obtain ⟨Wb259, hWb259⟩ : ∃ V, Wc256.alloc (.cells #[.int .i64 q136o, .int .i64 q136v, .int .i64 q136n, .slice q136p kq136 q136c, .int .i64 q137o, .int .i64 q137v, .int .i64 q137n, .slice q137p kq137 q137c] 37) = V := ⟨_, rfl⟩
             obtain ⟨b259, hb259⟩ : ∃ B, Wc256.heap.size = B := ⟨_, rfl⟩
             obtain ⟨F259, hen259, ho259, hc259, hx259, hab259⟩ := Kl.row2 2 hWb259 hb259 (Kl.enc_of he136.out) (Kl.enc_of he137.out) ho257 ho258 hc136.out hc137.out
             have hS259 := hS256.trans (hab259.mono hS256.size)
             have htd259 := hx259 _ (by have := (hzz256).lt; omega) ht246 ht247
             have hzz259 := (hzz256).below hab259
             have ho260 := (ho256.out).below hab259
             rw [hWb259, hb259]
             refine hK.out _ _ hS259 (fun hHeld9 => ?_)
             clear hK K
             try simp only [Kl.pts]
             clear hWb259
             refine Kl.tk 5 (.agg #[.int .i64 2, .int .i64 0, .int .i64 0, .slice (some ⟨b259, 0, none⟩) 2 2]) rfl (by kernel_rfl) (fun _ _ _ h => h) (by assumption) (Or.inl ⟨by rfl, ?y5⟩) ?_
             case y5 => (intro w1 h; go_simp)
             try simp only [Kl.pts]
             refine wpAnyH_ready (rs := [9]) (by kernel_rfl) (by simp) ?_
             refine AllReadyH.cons rfl (fun K hK => ?_) AllReadyH.nil
             try simp only [Kl.pts]
             go_simp
             refine (CTXr.out _ hS259).mono ?_
             rintro e Wc261 ⟨q261, q261o, q261v, q261n, q261p, kq261, q261c, rfl, he261, ho261, hc261, hf261, hb261⟩
             have hS261 : Below WN.heap.size WN Wc261 := hS259.trans (hb261.out.mono hS259.size)
             have ho262 := (ho260).below hb261.out
             have ho263 := (ho259).below hb261.out
             have htd261 : Wc137.heap.size ∉ Kl.fp q261 := fun h => by have h1 := hf261.out _ h; have h2 := (hzz259).lt; omega
             have hzz261 := (hzz259).below hb261.out
             refine hK.out _ _ hS261 (fun hHeld9 => ?_)
             clear hK K
             try simp only [Kl.pts]
             refine wpAnyH_ready (rs := [10]) (by kernel_rfl) (by simp) ?_
             refine AllReadyH.cons rfl (fun K hK => ?_) AllReadyH.nil
             try simp only [Kl.pts]
             go_simp
             obtain ⟨Wb264, hWb264⟩ : ∃ V, Wc261.alloc (.cells #[.int .i64 2, .int .i64 0, .int .i64 0, .slice (some ⟨b259, 0, none⟩) 2 2, .int .i64 q256o, .int .i64 q256v, .int .i64 q256n, .slice q256p kq256 q256c, .int .i64 q261o, .int .i64 q261v, .int .i64 q261n, .slice q261p kq261 q261c] 37) = V := ⟨_, rfl⟩
             obtain ⟨b264, hb264⟩ : ∃ B, Wc261.heap.size = B := ⟨_, rfl⟩
             obtain ⟨F264, hen264, ho264, hc264, hx264, hab264⟩ := Kl.row3 2 hWb264 hb264 hen259 (Kl.enc_of he256.out) (Kl.enc_of he261.out) ho263 ho262 ho261.out hc259 hc256.out hc261.out
             have hS264 := hS261.trans (hab264.mono hS261.size)
             have htd264 := hx264 _ (by have := (hzz261).lt; omega) htd259 htd256 htd261
             have hzz264 := (hzz261).below hab264
             rw [hWb264, hb264]
             refine hK.out _ _ hS264 (fun hHeld9 => ?_)
             clear hK K
             try simp only [Kl.pts]
             clear hWb264
             refine Kl.tk 11 (.agg #[.int .i64 2, .int .i64 0, .int .i64 0, .slice (some ⟨b264, 0, none⟩) 3 3]) rfl (by kernel_rfl) (fun _ _ _ h => h) (by assumption) (Or.inl ⟨by rfl, ?y11⟩) ?_
             case y11 => (intro w1 h; go_simp)
             try simp only [Kl.pts]
             refine wpAnyH_ready (rs := [13]) (by kernel_rfl) (by simp) ?_
             refine AllReadyH.cons rfl (fun K hK => ?_) AllReadyH.nil
             try simp only [Kl.pts]
             have hzD := hzz264
             obtain ⟨⟨d0, d1, d2, d3⟩, d4⟩ := hzD
             have hRES := Kl.box_done (w0 := WN) (hc264) (hen264) hzz264 (ho264) htd264 hl245 hS264
             have d5 : Wc137.heap.size < Wb264.heap.size := (hzz264).lt
             go_simp
             refine hK.out _ _ hRES.2 (fun hHeld9 => ?_)
             clear hK K
             try simp only [Kl.pts]
             refine wpAnyH_done (by kernel_rfl) ?_ _
             go_wp2_with fail
             go_meet
             exact ⟨_, rfl, hRES.1, hRES.2⟩
           refine AllReadyH.cons rfl (fun K hK => ?_) AllReadyH.nil
           try simp only [Kl.pts]
           go_simp
           refine (CTXr.out _ hS256).mono ?_
           rintro e Wc266 ⟨q266, q266o, q266v, q266n, q266p, kq266, q266c, rfl, he266, ho266, hc266, hf266, hb266⟩
           have hS266 : Below WN.heap.size WN Wc266 := hS256.trans (hb266.out.mono hS256.size)
           have ho267 := (ho257).below hb266.out
           have ho268 := (ho258).below hb266.out
           have ho269 := (ho256.out).below hb266.out
           have htd266 : Wc137.heap.size ∉ Kl.fp q266 := fun h => by have h1 := hf266.out _ h; have h2 := (hzz256).lt; omega
           have hzz266 := (hzz256).below hb266.out
           refine hK.out _ _ hS266 (fun hHeld9 => ?_)
           clear hK K
           try simp only [Kl.pts]
           refine wpAnyH_ready (rs := [4]) (by kernel_rfl) (by simp) ?_
           refine AllReadyH.cons rfl (fun K hK => ?_) AllReadyH.nil
           try simp only [Kl.pts]
           go_simp
           obtain ⟨Wb270, hWb270⟩ : ∃ V, Wc266.alloc (.cells #[.int .i64 q136o, .int .i64 q136v, .int .i64 q136n, .slice q136p kq136 q136c, .int .i64 q137o, .int .i64 q137v, .int .i64 q137n, .slice q137p kq137 q137c] 37) = V := ⟨_, rfl⟩
           obtain ⟨b270, hb270⟩ : ∃ B, Wc266.heap.size = B := ⟨_, rfl⟩
           obtain ⟨F270, hen270, ho270, hc270, hx270, hab270⟩ := Kl.row2 2 hWb270 hb270 (Kl.enc_of he136.out) (Kl.enc_of he137.out) ho267 ho268 hc136.out hc137.out
           have hS270 := hS266.trans (hab270.mono hS266.size)
           have htd270 := hx270 _ (by have := (hzz266).lt; omega) ht246 ht247
           have hzz270 := (hzz266).below hab270
           have ho271 := (ho269).below hab270
           have ho272 := (ho266.out).below hab270
           rw [hWb270, hb270]
           refine hK.out _ _ hS270 (fun hHeld9 => ?_)
           clear hK K
           try simp only [Kl.pts]
           clear hWb270
           refine Kl.tk 5 (.agg #[.int .i64 2, .int .i64 0, .int .i64 0, .slice (some ⟨b270, 0, none⟩) 2 2]) rfl (by kernel_rfl) (fun _ _ _ h => h) (by assumption) (Or.inl ⟨by rfl, ?y5⟩) ?_
           case y5 => (intro w1 h; go_simp)
           try simp only [Kl.pts]
           refine wpAnyH_ready (rs := [10]) (by kernel_rfl) (by simp) ?_
           refine AllReadyH.cons rfl (fun K hK => ?_) AllReadyH.nil
           try simp only [Kl.pts]
           go_simp
           obtain ⟨Wb273, hWb273⟩ : ∃ V, Wb270.alloc (.cells #[.int .i64 2, .int .i64 0, .int .i64 0, .slice (some ⟨b270, 0, none⟩) 2 2, .int .i64 q256o, .int .i64 q256v, .int .i64 q256n, .slice q256p kq256 q256c, .int .i64 q266o, .int .i64 q266v, .int .i64 q266n, .slice q266p kq266 q266c] 37) = V := ⟨_, rfl⟩
           obtain ⟨b273, hb273⟩ : ∃ B, Wb270.heap.size = B := ⟨_, rfl⟩
           obtain ⟨F273, hen273, ho273, hc273, hx273, hab273⟩ := Kl.row3 2 hWb273 hb273 hen270 (Kl.enc_of he256.out) (Kl.enc_of he266.out) ho270 ho271 ho272 hc270 hc256.out hc266.out
           have hS273 := hS270.trans (hab273.mono hS270.size)
           have htd273 := hx273 _ (by have := (hzz270).lt; omega) htd270 htd256 htd266
           have hzz273 := (hzz270).below hab273
           rw [hWb273, hb273]
           refine hK.out _ _ hS273 (fun hHeld9 => ?_)
           clear hK K
           try simp only [Kl.pts]
           clear hWb273
           refine Kl.tk 11 (.agg #[.int .i64 2, .int .i64 0, .int .i64 0, .slice (some ⟨b273, 0, none⟩) 3 3]) rfl (by kernel_rfl) (fun _ _ _ h => h) (by assumption) (Or.inl ⟨by rfl, ?y11⟩) ?_
           case y11 => (intro w1 h; go_simp)
           try simp only [Kl.pts]
           refine wpAnyH_ready (rs := [13]) (by kernel_rfl) (by simp) ?_
           refine AllReadyH.cons rfl (fun K hK => ?_) AllReadyH.nil
           try simp only [Kl.pts]
           have hzD := hzz273
           obtain ⟨⟨d0, d1, d2, d3⟩, d4⟩ := hzD
           have hRES := Kl.box_done (w0 := WN) (hc273) (hen273) hzz273 (ho273) htd273 hl245 hS273
           have d5 : Wc137.heap.size < Wb273.heap.size := (hzz273).lt
           go_simp
           refine hK.out _ _ hRES.2 (fun hHeld9 => ?_)
           clear hK K
           try simp only [Kl.pts]
           refine wpAnyH_done (by kernel_rfl) ?_ _
           go_wp2_with fail
           go_meet
           exact ⟨_, rfl, hRES.1, hRES.2⟩
         refine AllReadyH.cons rfl (fun K hK => ?_) AllReadyH.nil
         try simp only [Kl.pts]
         go_simp
         obtain ⟨Wa275, hWa275⟩ : ∃ V, Wc136.alloc (.cells #[.int .i64 0, .int .i64 0, .int .i64 0, .slice none 0 0] 37) = V := ⟨_, rfl⟩
         have hab275 : Below Wc136.heap.size Wc136 Wa275 := by rw [← hWa275]; exact (Below.refl _ _).alloc (Nat.le_refl _) _
         have hz275 : Kl.BoxZ Wa275 Wc136.heap.size := by rw [← hWa275]; exact Kl.BoxZ.new _ _
         have hS275 : Below WN.heap.size WN Wa275 := hS136.trans (hab275.mono hS136.size)
         have hl275 : WN.heap.size ≤ Wc136.heap.size := hS136.size
         have ho276 := (ho136.out).below hab275
         have ht276 : Wc136.heap.size ∉ Kl.fp q136 := Kl.not_fp (ho136.out) (Nat.le_refl _)
         rw [hWa275]
         refine hK.out _ _ hS275 (fun hHeld9 => ?_)
         clear hK K
         try simp only [Kl.pts]
         clear hWa275
         refine wpAnyH_ready (rs := [3]) (by kernel_rfl) (by simp) ?_
         refine AllReadyH.cons rfl (fun K hK => ?_) AllReadyH.nil
         try simp only [Kl.pts]
         go_simp
         refine (CTXr.out _ hS275).mono ?_
         rintro e Wc277 ⟨q277, q277o, q277v, q277n, q277p, kq277, q277c, rfl, he277, ho277, hc277, hf277, hb277⟩
         have hS277 : Below WN.heap.size WN Wc277 := hS275.trans (hb277.out.mono hS275.size)
         have ho278 := (ho276).below hb277.out
         have htd277 : Wc136.heap.size ∉ Kl.fp q277 := fun h => by have h1 := hf277.out _ h; have h2 := (hz275).lt; omega
         have hzz277 := (hz275).below hb277.out
         refine hK.out _ _ hS277 (fun hHeld9 => ?_)
         clear hK K
         try simp only [Kl.pts]
         refine wpAnyH_ready (rs := [4, 7]) (by kernel_rfl) (by simp) ?_
         refine AllReadyH.cons rfl (fun K hK => ?_) ?_
         · try simp only [Kl.pts]
           go_simp
           obtain ⟨Wb279, hWb279⟩ : ∃ V, Wc277.alloc (.cells #[.int .i64 q136o, .int .i64 q136v, .int .i64 q136n, .slice q136p kq136 q136c, .int .i64 q277o, .int .i64 q277v, .int .i64 q277n, .slice q277p kq277 q277c] 37) = V := ⟨_, rfl⟩
           obtain ⟨b279, hb279⟩ : ∃ B, Wc277.heap.size = B := ⟨_, rfl⟩
           obtain ⟨F279, hen279, ho279, hc279, hx279, hab279⟩ := Kl.row2 2 hWb279 hb279 (Kl.enc_of he136.out) (Kl.enc_of he277.out) ho278 ho277.out hc136.out hc277.out
           have hS279 := hS277.trans (hab279.mono hS277.size)
           have htd279 := hx279 _ (by have := (hzz277).lt; omega) ht276 htd277
           have hzz279 := (hzz277).below hab279
           rw [hWb279, hb279]
           refine hK.out _ _ hS279 (fun hHeld9 => ?_)
           clear hK K
           try simp only [Kl.pts]
           clear hWb279
           refine Kl.tk 5 (.agg #[.int .i64 2, .int .i64 0, .int .i64 0, .slice (some ⟨b279, 0, none⟩) 2 2]) rfl (by kernel_rfl) (fun _ _ _ h => h) (by assumption) (Or.inl ⟨by rfl, ?y5⟩) ?_
           case y5 => (intro w1 h; go_simp)
           try simp only [Kl.pts]
           refine wpAnyH_ready (rs := [7]) (by kernel_rfl) (by simp) ?_
           refine AllReadyH.cons rfl (fun K hK => ?_) AllReadyH.nil
           try simp only [Kl.pts]
           go_simp
           refine (CTYr.out _ hS279).mono ?_
           rintro e Wc280 ⟨q280, q280o, q280v, q280n, q280p, kq280, q280c, rfl, he280, ho280, hc280, hf280, hb280⟩
           have hS280 : Below WN.heap.size WN Wc280 := hS279.trans (hb280.out.mono hS279.size)
           have ho281 := (ho279).below hb280.out
           have htd280 : Wc136.heap.size ∉ Kl.fp q280 := fun h => by have h1 := hf280.out _ h; have h2 := (hzz279).lt; omega
           have hzz280 := (hzz279).below hb280.out
           refine hK.out _ _ hS280 (fun hHeld9 => ?_)
           clear hK K
           try simp only [Kl.pts]
           refine wpAnyH_ready (rs := [9]) (by kernel_rfl) (by simp) ?_
           refine AllReadyH.cons rfl (fun K hK => ?_) AllReadyH.nil
           try simp only [Kl.pts]
           go_simp
           refine (CTXr.out _ hS280).mono ?_
           rintro e Wc282 ⟨q282, q282o, q282v, q282n, q282p, kq282, q282c, rfl, he282, ho282, hc282, hf282, hb282⟩
           have hS282 : Below WN.heap.size WN Wc282 := hS280.trans (hb282.out.mono hS280.size)
           have ho283 := (ho281).below hb282.out
           have ho284 := (ho280.out).below hb282.out
           have htd282 : Wc136.heap.size ∉ Kl.fp q282 := fun h => by have h1 := hf282.out _ h; have h2 := (hzz280).lt; omega
           have hzz282 := (hzz280).below hb282.out
           refine hK.out _ _ hS282 (fun hHeld9 => ?_)
           clear hK K
           try simp only [Kl.pts]
           refine wpAnyH_ready (rs := [10]) (by kernel_rfl) (by simp) ?_
           refine AllReadyH.cons rfl (fun K hK => ?_) AllReadyH.nil
           try simp only [Kl.pts]
           go_simp
           obtain ⟨Wb285, hWb285⟩ : ∃ V, Wc282.alloc (.cells #[.int .i64 2, .int .i64 0, .int .i64 0, .slice (some ⟨b279, 0, none⟩) 2 2, .int .i64 q280o, .int .i64 q280v, .int .i64 q280n, .slice q280p kq280 q280c, .int .i64 q282o, .int .i64 q282v, .int .i64 q282n, .slice q282p kq282 q282c] 37) = V := ⟨_, rfl⟩
           obtain ⟨b285, hb285⟩ : ∃ B, Wc282.heap.size = B := ⟨_, rfl⟩
           obtain ⟨F285, hen285, ho285, hc285, hx285, hab285⟩ := Kl.row3 2 hWb285 hb285 hen279 (Kl.enc_of he280.out) (Kl.enc_of he282.out) ho283 ho284 ho282.out hc279 hc280.out hc282.out
           have hS285 := hS282.trans (hab285.mono hS282.size)
           have htd285 := hx285 _ (by have := (hzz282).lt; omega) htd279 htd280 htd282
           have hzz285 := (hzz282).below hab285
           rw [hWb285, hb285]
           refine hK.out _ _ hS285 (fun hHeld9 => ?_)
           clear hK K
           try simp only [Kl.pts]
           clear hWb285
           refine Kl.tk 11 (.agg #[.int .i64 2, .int .i64 0, .int .i64 0, .slice (some ⟨b285, 0, none⟩) 3 3]) rfl (by kernel_rfl) (fun _ _ _ h => h) (by assumption) (Or.inl ⟨by rfl, ?y11⟩) ?_
           case y11 => (intro w1 h; go_simp)
           try simp only [Kl.pts]
           refine wpAnyH_ready (rs := [13]) (by kernel_rfl) (by simp) ?_
           refine AllReadyH.cons rfl (fun K hK => ?_) AllReadyH.nil
           try simp only [Kl.pts]
           have hzD := hzz285
           obtain ⟨⟨d0, d1, d2, d3⟩, d4⟩ := hzD
           have hRES := Kl.box_done (w0 := WN) (hc285) (hen285) hzz285 (ho285) htd285 hl275 hS285
           have d5 : Wc136.heap.size < Wb285.heap.size := (hzz285).lt
           go_simp
           refine hK.out _ _ hRES.2 (fun hHeld9 => ?_)
           clear hK K
           try simp only [Kl.pts]
           refine wpAnyH_done (by kernel_rfl) ?_ _
           go_wp2_with fail
           go_meet
           exact ⟨_, rfl, hRES.1, hRES.2⟩
         refine AllReadyH.cons rfl (fun K hK => ?_) AllReadyH.nil
         try simp only [Kl.pts]
         go_simp
         refine (CTYr.out _ hS277).mono ?_
         rintro e Wc287 ⟨q287, q287o, q287v, q287n, q287p, kq287, q287c, rfl, he287, ho287, hc287, hf287, hb287⟩
         have hS287 : Below WN.heap.size WN Wc287 := hS277.trans (hb287.out.mono hS277.size)
         have ho288 := (ho278).below hb287.out
         have ho289 := (ho277.out).below hb287.out
         have htd287 : Wc136.heap.size ∉ Kl.fp q287 := fun h => by have h1 := hf287.out _ h; have h2 := (hzz277).lt; omega
         have hzz287 := (hzz277).below hb287.out
         refine hK.out _ _ hS287 (fun hHeld9 => ?_)
         clear hK K
         try simp only [Kl.pts]
         refine wpAnyH_ready (rs := [4, 9]) (by kernel_rfl) (by simp) ?_
         refine AllReadyH.cons rfl (fun K hK => ?_) ?_
         · try simp only [Kl.pts]
           go_simp
           obtain ⟨Wb290, hWb290⟩ : ∃ V, Wc287.alloc (.cells #[.int .i64 q136o, .int .i64 q136v, .int .i64 q136n, .slice q136p kq136 q136c, .int .i64 q277o, .int .i64 q277v, .int .i64 q277n, .slice q277p kq277 q277c] 37) = V := ⟨_, rfl⟩
           obtain ⟨b290, hb290⟩ : ∃ B, Wc287.heap.size = B := ⟨_, rfl⟩
           obtain ⟨F290, hen290, ho290, hc290, hx290, hab290⟩ := Kl.row2 2 hWb290 hb290 (Kl.enc_of he136.out) (Kl.enc_of he277.out) ho288 ho289 hc136.out hc277.out
           have hS290 := hS287.trans (hab290.mono hS287.size)
           have htd290 := hx290 _ (by have := (hzz287).lt; omega) ht276 htd277
           have hzz290 := (hzz287).below hab290
           have ho291 := (ho287.out).below hab290
           rw [hWb290, hb290]
           refine hK.out _ _ hS290 (fun hHeld9 => ?_)
           clear hK K
           try simp only [Kl.pts]
           clear hWb290
           refine Kl.tk 5 (.agg #[.int .i64 2, .int .i64 0, .int .i64 0, .slice (some ⟨b290, 0, none⟩) 2 2]) rfl (by kernel_rfl) (fun _ _ _ h => h) (by assumption) (Or.inl ⟨by rfl, ?y5⟩) ?_
           case y5 => (intro w1 h; go_simp)
           try simp only [Kl.pts]
           refine wpAnyH_ready (rs := [9]) (by kernel_rfl) (by simp) ?_
           refine AllReadyH.cons rfl (fun K hK => ?_) AllReadyH.nil
           try simp only [Kl.pts]
           go_simp
           refine (CTXr.out _ hS290).mono ?_
           rintro e Wc292 ⟨q292, q292o, q292v, q292n, q292p, kq292, q292c, rfl, he292, ho292, hc292, hf292, hb292⟩
           have hS292 : Below WN.heap.size WN Wc292 := hS290.trans (hb292.out.mono hS290.size)
           have ho293 := (ho291).below hb292.out
           have ho294 := (ho290).below hb292.out
           have htd292 : Wc136.heap.size ∉ Kl.fp q292 := fun h => by have h1 := hf292.out _ h; have h2 := (hzz290).lt; omega
           have hzz292 := (hzz290).below hb292.out
           refine hK.out _ _ hS292 (fun hHeld9 => ?_)
           clear hK K
           try simp only [Kl.pts]
           refine wpAnyH_ready (rs := [10]) (by kernel_rfl) (by simp) ?_
           refine AllReadyH.cons rfl (fun K hK => ?_) AllReadyH.nil
           try simp only [Kl.pts]
           go_simp
           obtain ⟨Wb295, hWb295⟩ : ∃ V, Wc292.alloc (.cells #[.int .i64 2, .int .i64 0, .int .i64 0, .slice (some ⟨b290, 0, none⟩) 2 2, .int .i64 q287o, .int .i64 q287v, .int .i64 q287n, .slice q287p kq287 q287c, .int .i64 q292o, .int .i64 q292v, .int .i64 q292n, .slice q292p kq292 q292c] 37) = V := ⟨_, rfl⟩
           obtain ⟨b295, hb295⟩ : ∃ B, Wc292.heap.size = B := ⟨_, rfl⟩
           obtain ⟨F295, hen295, ho295, hc295, hx295, hab295⟩ := Kl.row3 2 hWb295 hb295 hen290 (Kl.enc_of he287.out) (Kl.enc_of he292.out) ho294 ho293 ho292.out hc290 hc287.out hc292.out
           have hS295 := hS292.trans (hab295.mono hS292.size)
           have htd295 := hx295 _ (by have := (hzz292).lt; omega) htd290 htd287 htd292
           have hzz295 := (hzz292).below hab295
           rw [hWb295, hb295]
           refine hK.out _ _ hS295 (fun hHeld9 => ?_)
           clear hK K
           try simp only [Kl.pts]
           clear hWb295
           refine Kl.tk 11 (.agg #[.int .i64 2, .int .i64 0, .int .i64 0, .slice (some ⟨b295, 0, none⟩) 3 3]) rfl (by kernel_rfl) (fun _ _ _ h => h) (by assumption) (Or.inl ⟨by rfl, ?y11⟩) ?_
           case y11 => (intro w1 h; go_simp)
           try simp only [Kl.pts]
           refine wpAnyH_ready (rs := [13]) (by kernel_rfl) (by simp) ?_
           refine AllReadyH.cons rfl (fun K hK => ?_) AllReadyH.nil
           try simp only [Kl.pts]
           have hzD := hzz295
           obtain ⟨⟨d0, d1, d2, d3⟩, d4⟩ := hzD
           have hRES := Kl.box_done (w0 := WN) (hc295) (hen295) hzz295 (ho295) htd295 hl275 hS295
           have d5 : Wc136.heap.size < Wb295.heap.size := (hzz295).lt
           go_simp
           refine hK.out _ _ hRES.2 (fun hHeld9 => ?_)
           clear hK K
           try simp only [Kl.pts]
           refine wpAnyH_done (by kernel_rfl) ?_ _
           go_wp2_with fail
           go_meet
           exact ⟨_, rfl, hRES.1, hRES.2⟩
         refine AllReadyH.cons rfl (fun K hK => ?_) AllReadyH.nil
         try simp only [Kl.pts]
         go_simp
         refine (CTXr.out _ hS287).mono ?_
         rintro e Wc297 ⟨q297, q297o, q297v, q297n, q297p, kq297, q297c, rfl, he297, ho297, hc297, hf297, hb297⟩
         have hS297 : Below WN.heap.size WN Wc297 := hS287.trans (hb297.out.mono hS287.size)
         have ho298 := (ho288).below hb297.out
         have ho299 := (ho289).below hb297.out
         have ho300 := (ho287.out).below hb297.out
         have htd297 : Wc136.heap.size ∉ Kl.fp q297 := fun h => by have h1 := hf297.out _ h; have h2 := (hzz287).lt; omega
         have hzz297 := (hzz287).below hb297.out
         refine hK.out _ _ hS297 (fun hHeld9 => ?_)
         clear hK K
         try simp only [Kl.pts]
         refine wpAnyH_ready (rs := [4]) (by kernel_rfl) (by simp) ?_
         refine AllReadyH.cons rfl (fun K hK => ?_) AllReadyH.nil
         try simp only [Kl.pts]
         go_simp
         obtain ⟨Wb301, hWb301⟩ : ∃ V, Wc297.alloc (.cells #[.int .i64 q136o, .int .i64 q136v, .int .i64 q136n, .slice q136p kq136 q136c, .int .i64 q277o, .int .i64 q277v, .int .i64 q277n, .slice q277p kq277 q277c] 37) = V := ⟨_, rfl⟩
         obtain ⟨b301, hb301⟩ : ∃ B, Wc297.heap.size = B := ⟨_, rfl⟩
         obtain ⟨F301, hen301, ho301, hc301, hx301, hab301⟩ := Kl.row2 2 hWb301 hb301 (Kl.enc_of he136.out) (Kl.enc_of he277.out) ho298 ho299 hc136.out hc277.out
         have hS301 := hS297.trans (hab301.mono hS297.size)
         have htd301 := hx301 _ (by have := (hzz297).lt; omega) ht276 htd277
         have hzz301 := (hzz297).below hab301
         have ho302 := (ho300).below hab301
         have ho303 := (ho297.out).below hab301
         rw [hWb301, hb301]
         refine hK.out _ _ hS301 (fun hHeld9 => ?_)
         clear hK K
         try simp only [Kl.pts]
         clear hWb301
         refine Kl.tk 5 (.agg #[.int .i64 2, .int .i64 0, .int .i64 0, .slice (some ⟨b301, 0, none⟩) 2 2]) rfl (by kernel_rfl) (fun _ _ _ h => h) (by assumption) (Or.inl ⟨by rfl, ?y5⟩) ?_
         case y5 => (intro w1 h; go_simp)
         try simp only [Kl.pts]
         refine wpAnyH_ready (rs := [10]) (by kernel_rfl) (by simp) ?_
         refine AllReadyH.cons rfl (fun K hK => ?_) AllReadyH.nil
         try simp only [Kl.pts]
         go_simp
         obtain ⟨Wb304, hWb304⟩ : ∃ V, Wb301.alloc (.cells #[.int .i64 2, .int .i64 0, .int .i64 0, .slice (some ⟨b301, 0, none⟩) 2 2, .int .i64 q287o, .int .i64 q287v, .int .i64 q287n, .slice q287p kq287 q287c, .int .i64 q297o, .int .i64 q297v, .int .i64 q297n, .slice q297p kq297 q297c] 37) = V := ⟨_, rfl⟩
         obtain ⟨b304, hb304⟩ : ∃ B, Wb301.heap.size = B := ⟨_, rfl⟩
         obtain ⟨F304, hen304, ho304, hc304, hx304, hab304⟩ := Kl.row3 2 hWb304 hb304 hen301 (Kl.enc_of he287.out) (Kl.enc_of he297.out) ho301 ho302 ho303 hc301 hc287.out hc297.out
         have hS304 := hS301.trans (hab304.mono hS301.size)
         have htd304 := hx304 _ (by have := (hzz301).lt; omega) htd301 htd287 htd297
         have hzz304 := (hzz301).below hab304
         rw [hWb304, hb304]
         refine hK.out _ _ hS304 (fun hHeld9 => ?_)
         clear hK K
         try simp only [Kl.pts]
         clear hWb304
         refine Kl.tk 11 (.agg #[.int .i64 2, .int .i64 0, .int .i64 0, .slice (some ⟨b304, 0, none⟩) 3 3]) rfl (by kernel_rfl) (fun _ _ _ h => h) (by assumption) (Or.inl ⟨by rfl, ?y11⟩) ?_
         case y11 => (intro w1 h; go_simp)
         try simp only [Kl.pts]
         refine wpAnyH_ready (rs := [13]) (by kernel_rfl) (by simp) ?_
         refine AllReadyH.cons rfl (fun K hK => ?_) AllReadyH.nil
         try simp only [Kl.pts]
         have hzD := hzz304
         obtain ⟨⟨d0, d1, d2, d3⟩, d4⟩ := hzD
         have hRES := Kl.box_done (w0 := WN) (hc304) (hen304) hzz304 (ho304) htd304 hl275 hS304
         have d5 : Wc136.heap.size < Wb304.heap.size := (hzz304).lt
         go_simp
         refine hK.out _ _ hRES.2 (fun hHeld9 => ?_)
         clear hK K
         try simp only [Kl.pts]
         refine wpAnyH_done (by kernel_rfl) ?_ _
         go_wp2_with fail
         go_meet
         exact ⟨_, rfl, hRES.1, hRES.2⟩
       refine AllReadyH.cons rfl (fun K hK => ?_) AllReadyH.nil
       try simp only [Kl.pts]
       go_simp
       obtain ⟨Wa306, hWa306⟩ : ∃ V, W00.alloc (.cells #[.int .i64 0, .int .i64 0, .int .i64 0, .slice none 0 0] 37) = V := ⟨_, rfl⟩
       have hab306 : Below W00.heap.size W00 Wa306 := by rw [← hWa306]; exact (Below.refl _ _).alloc (Nat.le_refl _) _
       have hz306 : Kl.BoxZ Wa306 W00.heap.size := by rw [← hWa306]; exact Kl.BoxZ.new _ _
       have hS306 : Below WN.heap.size WN Wa306 := hS0.trans (hab306.mono hS0.size)
       have hl306 : WN.heap.size ≤ W00.heap.size := hS0.size
       rw [hWa306]
       refine hK.out _ _ hS306 (fun hHeld9 => ?_)
       clear hK K
       try simp only [Kl.pts]
       clear hWa306
       refine wpAnyH_ready (rs := [1]) (by kernel_rfl) (by simp) ?_
       refine AllReadyH.cons rfl (fun K hK => ?_) AllReadyH.nil
       try simp only [Kl.pts]
       go_simp
       refine (CTZr.out _ hS306).mono ?_
       rintro e Wc307 ⟨q307, q307o, q307v, q307n, q307p, kq307, q307c, rfl, he307, ho307, hc307, hf307, hb307⟩
       have hS307 : Below WN.heap.size WN Wc307 := hS306.trans (hb307.out.mono hS306.size)
       have htd307 : W00.heap.size ∉ Kl.fp q307 := fun h => by have h1 := hf307.out _ h; have h2 := (hz306).lt; omega
       have hzz307 := (hz306).below hb307.out
       refine hK.out _ _ hS307 (fun hHeld9 => ?_)
       clear hK K
       try simp only [Kl.pts]
       refine wpAnyH_ready (rs := [3]) (by kernel_rfl) (by simp) ?_
       refine AllReadyH.cons rfl (fun K hK => ?_) AllReadyH.nil
       try simp only [Kl.pts]
       go_simp
       refine (CTXr.out _ hS307).mono ?_
       rintro e Wc308 ⟨q308, q308o, q308v, q308n, q308p, kq308, q308c, rfl, he308, ho308, hc308, hf308, hb308⟩
       have hS308 : Below WN.heap.size WN Wc308 := hS307.trans (hb308.out.mono hS307.size)
       have ho309 := (ho307.out).below hb308.out
       have htd308 : W00.heap.size ∉ Kl.fp q308 := fun h => by have h1 := hf308.out _ h; have h2 := (hzz307).lt; omega
       have hzz308 := (hzz307).below hb308.out
       refine hK.out _ _ hS308 (fun hHeld9 => ?_)
       clear hK K
       try simp only [Kl.pts]
       refine wpAnyH_ready (rs := [4, 7]) (by kernel_rfl) (by simp) ?_
       refine AllReadyH.cons rfl (fun K hK => ?_) ?_
       · try simp only [Kl.pts]
         go_simp
         obtain ⟨Wb310, hWb310⟩ : ∃ V, Wc308.alloc (.cells #[.int .i64 q307o, .int .i64 q307v, .int .i64 q307n, .slice q307p kq307 q307c, .int .i64 q308o, .int .i64 q308v, .int .i64 q308n, .slice q308p kq308 q308c] 37) = V := ⟨_, rfl⟩
         obtain ⟨b310, hb310⟩ : ∃ B, Wc308.heap.size = B := ⟨_, rfl⟩
         obtain ⟨F310, hen310, ho310, hc310, hx310, hab310⟩ := Kl.row2 2 hWb310 hb310 (Kl.enc_of he307.out) (Kl.enc_of he308.out) ho309 ho308.out hc307.out hc308.out
         have hS310 := hS308.trans (hab310.mono hS308.size)
         have htd310 := hx310 _ (by have := (hzz308).lt; omega) htd307 htd308
         have hzz310 := (hzz308).below hab310
         rw [hWb310, hb310]
         refine hK.out _ _ hS310 (fun hHeld9 => ?_)
         clear hK K
         try simp only [Kl.pts]
         clear hWb310
         refine Kl.tk 5 (.agg #[.int .i64 2, .int .i64 0, .int .i64 0, .slice (some ⟨b310, 0, none⟩) 2 2]) rfl (by kernel_rfl) (fun _ _ _ h => h) (by assumption) (Or.inl ⟨by rfl, ?y5⟩) ?_
         case y5 => (intro w1 h; go_simp)
         try simp only [Kl.pts]
         refine wpAnyH_ready (rs := [7]) (by kernel_rfl) (by simp) ?_
         refine AllReadyH.cons rfl (fun K hK => ?_) AllReadyH.nil
         try simp only [Kl.pts]
         go_simp
         refine (CTYr.out _ hS310).mono ?_
         rintro e Wc311 ⟨q311, q311o, q311v, q311n, q311p, kq311, q311c, rfl, he311, ho311, hc311, hf311, hb311⟩
         have hS311 : Below WN.heap.size WN Wc311 := hS310.trans (hb311.out.mono hS310.size)
         have ho312 := (ho310).below hb311.out
         have htd311 : W00.heap.size ∉ Kl.fp q311 := fun h => by have h1 := hf311.out _ h; have h2 := (hzz310).lt; omega
         have hzz311 := (hzz310).below hb311.out
         refine hK.out _ _ hS311 (fun hHeld9 => ?_)
         clear hK K
         try simp only [Kl.pts]
         refine wpAnyH_ready (rs := [9]) (by kernel_rfl) (by simp) ?_
         refine AllReadyH.cons rfl (fun K hK => ?_) AllReadyH.nil
         try simp only [Kl.pts]
         go_simp
         refine (CTXr.out _ hS311).mono ?_
         rintro e Wc313 ⟨q313, q313o, q313v, q313n, q313p, kq313, q313c, rfl, he313, ho313, hc313, hf313, hb313⟩
         have hS313 : Below WN.heap.size WN Wc313 := hS311.trans (hb313.out.mono hS311.size)
         have ho314 := (ho312).below hb313.out
         have ho315 := (ho311.out).below hb313.out
         have htd313 : W00.heap.size ∉ Kl.fp q313 := fun h => by have h1 := hf313.out _ h; have h2 := (hzz311).lt; omega
         have hzz313 := (hzz311).below hb313.out
         refine hK.out _ _ hS313 (fun hHeld9 => ?_)
         clear hK K
         try simp only [Kl.pts]
         refine wpAnyH_ready (rs := [10]) (by kernel_rfl) (by simp) ?_
         refine AllReadyH.cons rfl (fun K hK => ?_) AllReadyH.nil
         try simp only [Kl.pts]
         go_simp
         obtain ⟨Wb316, hWb316⟩ : ∃ V, Wc313.alloc (.cells #[.int .i64 2, .int .i64 0, .int .i64 0, .slice (some ⟨b310, 0, none⟩) 2 2, .int .i64 q311o, .int .i64 q311v, .int .i64 q311n, .slice q311p kq311 q311c, .int .i64 q313o, .int .i64 q313v, .int .i64 q313n, .slice q313p kq313 q313c] 37) = V := ⟨_, rfl⟩
         obtain ⟨b316, hb316⟩ : ∃ B, Wc313.heap.size = B := ⟨_, rfl⟩
         obtain ⟨F316, hen316, ho316, hc316, hx316, hab316⟩ := Kl.row3 2 hWb316 hb316 hen310 (Kl.enc_of he311.out) (Kl.enc_of he313.out) ho314 ho315 ho313.out hc310 hc311.out hc313.out
         have hS316 := hS313.trans (hab316.mono hS313.size)
         have htd316 := hx316 _ (by have := (hzz313).lt; omega) htd310 htd311 htd313
         have hzz316 := (hzz313).below hab316
         rw [hWb316, hb316]
         refine hK.out _ _ hS316 (fun hHeld9 => ?_)
         clear hK K
         try simp only [Kl.pts]
         clear hWb316
         refine Kl.tk 11 (.agg #[.int .i64 2, .int .i64 0, .int .i64 0, .slice (some ⟨b316, 0, none⟩) 3 3]) rfl (by kernel_rfl) (fun _ _ _ h => h) (by assumption) (Or.inl ⟨by rfl, ?y11⟩) ?_
         case y11 => (intro w1 h; go_simp)
         try simp only [Kl.pts]
         refine wpAnyH_ready (rs := [13]) (by kernel_rfl) (by simp) ?_
         refine AllReadyH.cons rfl (fun K hK => ?_) AllReadyH.nil
         try simp only [Kl.pts]
         have hzD := hzz316
         obtain ⟨⟨d0, d1, d2, d3⟩, d4⟩ := hzD
         have hRES := Kl.box_done (w0 := WN) (hc316) (hen316) hzz316 (ho316) htd316 hl306 hS316
         have d5 : W00.heap.size < Wb316.heap.size := (hzz316).lt
         go_simp
         refine hK.out _ _ hRES.2 (fun hHeld9 => ?_)
         clear hK K
         try simp only [Kl.pts]
         refine wpAnyH_done (by kernel_rfl) ?_ _
         go_wp2_with fail
         go_meet
         exact ⟨_, rfl, hRES.1, hRES.2⟩
       refine AllReadyH.cons rfl (fun K hK => ?_) AllReadyH.nil
       try simp only [Kl.pts]
       go_simp
       refine (CTYr.out _ hS308).mono ?_
       rintro e Wc318 ⟨q318, q318o, q318v, q318n, q318p, kq318, q318c, rfl, he318, ho318, hc318, hf318, hb318⟩
       have hS318 : Below WN.heap.size WN Wc318 := hS308.trans (hb318.out.mono hS308.size)
       have ho319 := (ho309).below hb318.out
       have ho320 := (ho308.out).below hb318.out
       have htd318 : W00.heap.size ∉ Kl.fp q318 := fun h => by have h1 := hf318.out _ h; have h2 := (hzz308).lt; omega
       have hzz318 := (hzz308).below hb318.out
       refine hK.out _ _ hS318 (fun hHeld9 => ?_)
       clear hK K
       try simp only [Kl.pts]
       refine wpAnyH_ready (rs := [4, 9]) (by kernel_rfl) (by simp) ?_
       refine AllReadyH.cons rfl (fun K hK => ?_) ?_
       · try simp only [Kl.pts]
         go_simp
         obtain ⟨Wb321, hWb321⟩ : ∃ V, Wc318.alloc (.cells #[.int .i64 q307o, .int .i64 q307v, .int .i64 q307n, .slice q307p kq307 q307c, .int .i64 q308o, .int .i64 q308v, .int .i64 q308n, .slice q308p kq308 q308c] 37) = V := ⟨_, rfl⟩
         obtain ⟨b321, hb321⟩ : ∃ B, Wc318.heap.size = B := ⟨_, rfl⟩
         obtain ⟨F321, hen321, ho321, hc321, hx321, hab321⟩ := Kl.row2 2 hWb321 hb321 (Kl.enc_of he307.out) (Kl.enc_of he308.out) ho319 ho320 hc307.out hc308.out
         have hS321 := hS318.trans (hab321.mono hS318.size)
         have htd321 := hx321 _ (by have := (hzz318).lt; omega) htd307 htd308
         have hzz321 := (hzz318).below hab321
         have ho322 := (ho318.out).below hab321
         rw [hWb321, hb321]
         refine hK.out _ _ hS321 (fun hHeld9 => ?_)
         clear hK K
         try simp only [Kl.pts]
         clear hWb321
         refine Kl.tk 5 (.agg #[.int .i64 2, .int .i64 0, .int .i64 0, .slice (some ⟨b321, 0, none⟩) 2 2]) rfl (by kernel_rfl) (fun _ _ _ h => h) (by assumption) (Or.inl ⟨by rfl, ?y5⟩) ?_
         case y5 => (intro w1 h; go_simp)
         try simp only [Kl.pts]
         refine wpAnyH_ready (rs := [9]) (by kernel_rfl) (by simp) ?_
         refine AllReadyH.cons rfl (fun K hK => ?_) AllReadyH.nil
         try simp only [Kl.pts]
         go_simp
         refine (CTXr.out _ hS321).mono ?_
         rintro e Wc323 ⟨q323, q323o, q323v, q323n, q323p, kq323, q323c, rfl, he323, ho323, hc323, hf323, hb323⟩
         have hS323 : Below WN.heap.size WN Wc323 := hS321.trans (hb323.out.mono hS321.size)
         have ho324 := (ho322).below hb323.out
         have ho325 := (ho321).below hb323.out
         have htd323 : W00.heap.size ∉ Kl.fp q323 := fun h => by have h1 := hf323.out _ h; have h2 := (hzz321).lt; omega
         have hzz323 := (hzz321).below hb323.out
         refine hK.out _ _ hS323 (fun hHeld9 => ?_)
         clear hK K
         try simp only [Kl.pts]
         refine wpAnyH_ready (rs := [10]) (by kernel_rfl) (by simp) ?_
         refine AllReadyH.cons rfl (fun K hK => ?_) AllReadyH.nil
         try simp only [Kl.pts]
         go_simp
         obtain ⟨Wb326, hWb326⟩ : ∃ V, Wc323.alloc (.cells #[.int .i64 2, .int .i64 0, .int .i64 0, .slice (some ⟨b321, 0, none⟩) 2 2, .int .i64 q318o, .int .i64 q318v, .int .i64 q318n, .slice q318p kq318 q318c, .int .i64 q323o, .int .i64 q323v, .int .i64 q323n, .slice q323p kq323 q323c] 37) = V := ⟨_, rfl⟩
         obtain ⟨b326, hb326⟩ : ∃ B, Wc323.heap.size = B := ⟨_, rfl⟩
         obtain ⟨F326, hen326, ho326, hc326, hx326, hab326⟩ := Kl.row3 2 hWb326 hb326 hen321 (Kl.enc_of he318.out) (Kl.enc_of he323.out) ho325 ho324 ho323.out hc321 hc318.out hc323.out
         have hS326 := hS323.trans (hab326.mono hS323.size)
         have htd326 := hx326 _ (by have := (hzz323).lt; omega) htd321 htd318 htd323
         have hzz326 := (hzz323).below hab326
         rw [hWb326, hb326]
         refine hK.out _ _ hS326 (fun hHeld9 => ?_)
         clear hK K
         try simp only [Kl.pts]
         clear hWb326
         refine Kl.tk 11 (.agg #[.int .i64 2, .int .i64 0, .int .i64 0, .slice (some ⟨b326, 0, none⟩) 3 3]) rfl (by kernel_rfl) (fun _ _ _ h => h) (by assumption) (Or.inl ⟨by rfl, ?y11⟩) ?_
         case y11 => (intro w1 h; go_simp)
         try simp only [Kl.pts]
         refine wpAnyH_ready (rs := [13]) (by kernel_rfl) (by simp) ?_
         refine AllReadyH.cons rfl (fun K hK => ?_) AllReadyH.nil
         try simp only [Kl.pts]
         have hzD := hzz326
         obtain ⟨⟨d0, d1, d2, d3⟩, d4⟩ := hzD
         have hRES := Kl.box_done (w0 := WN) (hc326) (hen326) hzz326 (ho326) htd326 hl306 hS326
         have d5 : W00.heap.size < Wb326.heap.size := (hzz326).lt
         go_simp
         refine hK.out _ _ hRES.2 (fun hHeld9 => ?_)
         clear hK K
         try simp only [Kl.pts]
         refine wpAnyH_done (by kernel_rfl) ?_ _
         go_wp2_with fail
         go_meet
         exact ⟨_, rfl, hRES.1, hRES.2⟩
       refine AllReadyH.cons rfl (fun K hK => ?_) AllReadyH.nil
       try simp only [Kl.pts]
       go_simp
       refine (CTXr.out _ hS318).mono ?_
       rintro e Wc328 ⟨q328, q328o, q328v, q328n, q328p, kq328, q328c, rfl, he328, ho328, hc328, hf328, hb328⟩
       have hS328 : Below WN.heap.size WN Wc328 := hS318.trans (hb328.out.mono hS318.size)
       have ho329 := (ho319).below hb328.out
       have ho330 := (ho320).below hb328.out
       have ho331 := (ho318.out).below hb328.out
       have htd328 : W00.heap.size ∉ Kl.fp q328 := fun h => by have h1 := hf328.out _ h; have h2 := (hzz318).lt; omega
       have hzz328 := (hzz318).below hb328.out
       refine hK.out _ _ hS328 (fun hHeld9 => ?_)
       clear hK K
       try simp only [Kl.pts]
       refine wpAnyH_ready (rs := [4]) (by kernel_rfl) (by simp) ?_
       refine AllReadyH.cons rfl (fun K hK => ?_) AllReadyH.nil
       try simp only [Kl.pts]
       go_simp
       obtain ⟨Wb332, hWb332⟩ : ∃ V, Wc328.alloc (.cells #[.int .i64 q307o, .int .i64 q307v, .int .i64 q307n, .slice q307p kq307 q307c, .int .i64 q308o, .int .i64 q308v, .int .i64 q308n, .slice q308p kq308 q308c] 37) = V := ⟨_, rfl⟩
       obtain ⟨b332, hb332⟩ : ∃ B, Wc328.heap.size = B := ⟨_, rfl⟩
       obtain ⟨F332, hen332, ho332, hc332, hx332, hab332⟩ := Kl.row2 2 hWb332 hb332 (Kl.enc_of he307.out) (Kl.enc_of he308.out) ho329 ho330 hc307.out hc308.out
       have hS332 := hS328.trans (hab332.mono hS328.size)
       have htd332 := hx332 _ (by have := (hzz328).lt; omega) htd307 htd308
       have hzz332 := (hzz328).below hab332
       have ho333 := (ho331).below hab332
       have ho334 := (ho328.out).below hab332
       rw [hWb332, hb332]
       refine hK.out _ _ hS332 (fun hHeld9 => ?_)
       clear hK K
       try simp only [Kl.pts]
       clear hWb332
       refine Kl.tk 5 (.agg #[.int .i64 2, .int .i64 0, .int .i64 0, .slice (some ⟨b332, 0, none⟩) 2 2]) rfl (by kernel_rfl) (fun _ _ _ h => h) (by assumption) (Or.inl ⟨by rfl, ?y5⟩) ?_
       case y5 => (intro w1 h; go_simp)
       try simp only [Kl.pts]
       refine wpAnyH_ready (rs := [10]) (by kernel_rfl) (by simp) ?_
       refine AllReadyH.cons rfl (fun K hK => ?_) AllReadyH.nil
       try simp only [Kl.pts]
       go_simp
       obtain ⟨Wb335, hWb335⟩ : ∃ V, Wb332.alloc (.cells #[.int .i64 2, .int .i64 0, .int .i64 0, .slice (some ⟨b332, 0, none⟩) 2 2, .int .i64 q318o, .int .i64 q318v, .int .i64 q318n, .slice q318p kq318 q318c, .int .i64 q328o, .int .i64 q328v, .int .i64 q328n, .slice q328p kq328 q328c] 37) = V := ⟨_, rfl⟩
       obtain ⟨b335, hb335⟩ : ∃ B, Wb332.heap.size = B := ⟨_, rfl⟩
       obtain ⟨F335, hen335, ho335, hc335, hx335, hab335⟩ := Kl.row3 2 hWb335 hb335 hen332 (Kl.enc_of he318.out) (Kl.enc_of he328.out) ho332 ho333 ho334 hc332 hc318.out hc328.out
       have hS335 := hS332.trans (hab335.mono hS332.size)
       have htd335 := hx335 _ (by have := (hzz332).lt; omega) htd332 htd318 htd328
       have hzz335 := (hzz332).below hab335
       rw [hWb335, hb335]
       refine hK.out _ _ hS335 (fun hHeld9 => ?_)
       clear hK K
       try simp only [Kl.pts]
       clear hWb335
       refine Kl.tk 11 (.agg #[.int .i64 2, .int .i64 0, .int .i64 0, .slice (some ⟨b335, 0, none⟩) 3 3]) rfl (by kernel_rfl) (fun _ _ _ h => h) (by assumption) (Or.inl ⟨by rfl, ?y11⟩) ?_
       case y11 => (intro w1 h; go_simp)
       try simp only [Kl.pts]
       refine wpAnyH_ready (rs := [13]) (by kernel_rfl) (by simp) ?_
       refine AllReadyH.cons rfl (fun K hK => ?_) AllReadyH.nil
       try simp only [Kl.pts]
       have hzD := hzz335
       obtain ⟨⟨d0, d1, d2, d3⟩, d4⟩ := hzD
       have hRES := Kl.box_done (w0 := WN) (hc335) (hen335) hzz335 (ho335) htd335 hl306 hS335
       have d5 : W00.heap.size < Wb335.heap.size := (hzz335).lt
       go_simp
       refine hK.out _ _ hRES.2 (fun hHeld9 => ?_)
       clear hK K
       try simp only [Kl.pts]
       refine wpAnyH_done (by kernel_rfl) ?_ _
       go_wp2_with fail
       go_meet
       exact ⟨_, rfl, hRES.1, hRES.2⟩
      case rest =>
       obtain ⟨TG, rfl, HXG, HQG⟩ := hcut
       obtain ⟨WG, hWG⟩ : ∃ V, V = wc := ⟨_, rfl⟩
       subst hWG
       have HBG := hide' (HBN.out.trans (HQG.out.mono HBN.out.size))
       go_upto_region 14 with fail
       go_cut [11] from 78 to 85 (fun a wx => ∃ T, a = .pointer (some ⟨T, 0, none⟩) ∧ Hid (Kl.BoxF wx T (.mk 3 0 0 [.mk 4 0 0 [X], .mk 4 0 0 [Y], .mk 4 0 0 [Z]])) ∧ Hid (Below WG.heap.size WG wx))
       case first =>
        have hS0 : Below WG.heap.size WG WG.drew := (Below.refl _ _).drew
        have HSO : Hid (∀ W', Below WG.heap.size WG W' → W'.cell? ⟨B1, 0, none⟩ = some (.int .i64 xo) ∧ W'.cell? ⟨B1, 1, none⟩ = some (.int .i64 xv) ∧ W'.cell? ⟨B1, 2, none⟩ = some (.int .i64 xn) ∧ W'.cell? ⟨B1, 3, none⟩ = some (.slice xp kx xc) ∧ W'.cell? ⟨B2, 0, none⟩ = some (.int .i64 yo) ∧ W'.cell? ⟨B2, 1, none⟩ = some (.int .i64 yv) ∧ W'.cell? ⟨B2, 2, none⟩ = some (.int .i64 yn) ∧ W'.cell? ⟨B2, 3, none⟩ = some (.slice yp ky yc) ∧ W'.cell? ⟨B3, 0, none⟩ = some (.int .i64 zo) ∧ W'.cell? ⟨B3, 1, none⟩ = some (.int .i64 zv) ∧ W'.cell? ⟨B3, 2, none⟩ = some (.int .i64 zn) ∧ W'.cell? ⟨B3, 3, none⟩ = some (.slice zp kz zc)) := fun W' h => HCB.out W' (HBG.out.trans (h.mono HBG.out.size))
        have CTXr := hide' (fun W' (h : Below WG.heap.size WG W') => CTX2.out W' (HUA.out _ (HBG.out.trans (h.mono HBG.out.size))))
        have CTYr := hide' (fun W' (h : Below WG.heap.size WG W') => CTY2.out W' (HUA.out _ (HBG.out.trans (h.mono HBG.out.size))))
        have CTZr := hide' (fun W' (h : Below WG.heap.size WG W') => CTZ2.out W' (HUA.out _ (HBG.out.trans (h.mono HBG.out.size))))
        have CNXr := hide' (fun W' (h : Below WG.heap.size WG W') => CNX2.out W' (HUA.out _ (HBG.out.trans (h.mono HBG.out.size))))
        have CNYr := hide' (fun W' (h : Below WG.heap.size WG W') => CNY2.out W' (HUA.out _ (HBG.out.trans (h.mono HBG.out.size))))
        have CNZr := hide' (fun W' (h : Below WG.heap.size WG W') => CNZ2.out W' (HUA.out _ (HBG.out.trans (h.mono HBG.out.size))))
        clear HCB CTX2 CTY2 CTZ2 CNX2 CNY2 CNZ2 CU
        refine wp_region_held_drew (S := fun W' => Below WG.heap.size WG W') (by kernel_rfl) hS0 (fun hHeld => ?_)
        simp only [List.size_toArray, List.length_cons, List.length_nil, Nat.reduceAdd]
        generalize WG.drew = W00 at hHeld hS0 ⊢
        refine Kl.tk 0 (.agg #[.int .i64 xo, .int .i64 xv, .int .i64 xn, .slice xp kx xc]) rfl (by kernel_rfl) (fun _ _ _ h => h) (by assumption) (Or.inl ⟨by rfl, ?y0⟩) ?_
        case y0 => (intro w1 h; obtain ⟨z0, z1, z2, z3, z4, z5, z6, z7, z8, z9, z10, z11⟩ := HSO.out w1 h; go_simp)
        try simp only [Kl.pts]
        refine Kl.tk 2 (.agg #[.int .i64 yo, .int .i64 yv, .int .i64 yn, .slice yp ky yc]) rfl (by kernel_rfl) (fun _ _ _ h => h) (by assumption) (Or.inl ⟨by rfl, ?y2⟩) ?_
        case y2 => (intro w1 h; obtain ⟨z0, z1, z2, z3, z4, z5, z6, z7, z8, z9, z10, z11⟩ := HSO.out w1 h; go_simp)
        try simp only [Kl.pts]
        refine Kl.tk 4 (.agg #[.int .i64 zo, .int .i64 zv, .int .i64 zn, .slice zp kz zc]) rfl (by kernel_rfl) (fun _ _ _ h => h) (by assumption) (Or.inl ⟨by rfl, ?y4⟩) ?_
        case y4 => (intro w1 h; obtain ⟨z0, z1, z2, z3, z4, z5, z6, z7, z8, z9, z10, z11⟩ := HSO.out w1 h; go_simp)
        try simp only [Kl.pts]
        refine wpAnyH_ready (rs := [1, 8]) (by kernel_rfl) (by simp) ?_
        refine AllReadyH.cons rfl (fun K hK => ?_) ?_
        · try simp only [Kl.pts]
          go_simp
          refine (CNXr.out _ hS0).mono ?_
          rintro e Wc94 ⟨q94, q94o, q94v, q94n, q94p, kq94, q94c, rfl, he94, ho94, hc94, hf94, hb94⟩
          have hS94 : Below WG.heap.size WG Wc94 := hS0.trans (hb94.out.mono hS0.size)
          refine hK.out _ _ hS94 (fun hHeld9 => ?_)
          clear hK K
          try simp only [Kl.pts]
          refine wpAnyH_ready (rs := [3, 8]) (by kernel_rfl) (by simp) ?_
          refine AllReadyH.cons rfl (fun K hK => ?_) ?_
          · try simp only [Kl.pts]
            go_simp
            refine (CNYr.out _ hS94).mono ?_
            rintro e Wc95 ⟨q95, q95o, q95v, q95n, q95p, kq95, q95c, rfl, he95, ho95, hc95, hf95, hb95⟩
            have hS95 : Below WG.heap.size WG Wc95 := hS94.trans (hb95.out.mono hS94.size)
            have ho96 := (ho94.out).below hb95.out
            refine hK.out _ _ hS95 (fun hHeld9 => ?_)
            clear hK K
            try simp only [Kl.pts]
            refine wpAnyH_ready (rs := [5, 8]) (by kernel_rfl) (by simp) ?_
            refine AllReadyH.cons rfl (fun K hK => ?_) ?_
            · try simp only [Kl.pts]
              go_simp
              refine (CNZr.out _ hS95).mono ?_
              rintro e Wc97 ⟨q97, q97o, q97v, q97n, q97p, kq97, q97c, rfl, he97, ho97, hc97, hf97, hb97⟩
              have hS97 : Below WG.heap.size WG Wc97 := hS95.trans (hb97.out.mono hS95.size)
              have ho98 := (ho96).below hb97.out
              have ho99 := (ho95.out).below hb97.out
              refine hK.out _ _ hS97 (fun hHeld9 => ?_)
              clear hK K
              try simp only [Kl.pts]
              refine wpAnyH_ready (rs := [6, 8]) (by kernel_rfl) (by simp) ?_
              refine AllReadyH.cons rfl (fun K hK => ?_) ?_
              · try simp only [Kl.pts]
                go_simp
                obtain ⟨Wb100, hWb100⟩ : ∃ V, Wc97.alloc (.cells #[.int .i64 q94o, .int .i64 q94v, .int .i64 q94n, .slice q94p kq94 q94c, .int .i64 q95o, .int .i64 q95v, .int .i64 q95n, .slice q95p kq95 q95c, .int .i64 q97o, .int .i64 q97v, .int .i64 q97n, .slice q97p kq97 q97c] 37) = V := ⟨_, rfl⟩
                obtain ⟨b100, hb100⟩ : ∃ B, Wc97.heap.size = B := ⟨_, rfl⟩
                obtain ⟨F100, hen100, ho100, hc100, hx100, hab100⟩ := Kl.row3 3 hWb100 hb100 (Kl.enc_of he94.out) (Kl.enc_of he95.out) (Kl.enc_of he97.out) ho98 ho99 ho97.out hc94.out hc95.out hc97.out
                have hS100 := hS97.trans (hab100.mono hS97.size)
                rw [hWb100, hb100]
                refine hK.out _ _ hS100 (fun hHeld9 => ?_)
                clear hK K
                try simp only [Kl.pts]
                clear hWb100
                refine Kl.tk 7 (.agg #[.int .i64 3, .int .i64 0, .int .i64 0, .slice (some ⟨b100, 0, none⟩) 3 3]) rfl (by kernel_rfl) (fun _ _ _ h => h) (by assumption) (Or.inl ⟨by rfl, ?y7⟩) ?_
                case y7 => (intro w1 h; go_simp)
                try simp only [Kl.pts]
                refine wpAnyH_ready (rs := [8]) (by kernel_rfl) (by simp) ?_
                refine AllReadyH.cons rfl (fun K hK => ?_) AllReadyH.nil
                try simp only [Kl.pts]
                go_simp
                obtain ⟨Wa101, hWa101⟩ : ∃ V, Wb100.alloc (.cells #[.int .i64 0, .int .i64 0, .int .i64 0, .slice none 0 0] 37) = V := ⟨_, rfl⟩
                have hab101 : Below Wb100.heap.size Wb100 Wa101 := by rw [← hWa101]; exact (Below.refl _ _).alloc (Nat.le_refl _) _
                have hz101 : Kl.BoxZ Wa101 Wb100.heap.size := by rw [← hWa101]; exact Kl.BoxZ.new _ _
                have hS101 : Below WG.heap.size WG Wa101 := hS100.trans (hab101.mono hS100.size)
                have hl101 : WG.heap.size ≤ Wb100.heap.size := hS100.size
                have ho102 := (ho100).below hab101
                have ht102 : Wb100.heap.size ∉ Kl.fp F100 := Kl.not_fp (ho100) (Nat.le_refl _)
                rw [hWa101]
                refine hK.out _ _ hS101 (fun hHeld9 => ?_)
                clear hK K
                try simp only [Kl.pts]
                clear hWa101
                refine wpAnyH_ready (rs := [9]) (by kernel_rfl) (by simp) ?_
                refine AllReadyH.cons rfl (fun K hK => ?_) AllReadyH.nil
                try simp only [Kl.pts]
                have hzD := hz101
                obtain ⟨⟨d0, d1, d2, d3⟩, d4⟩ := hzD
                have hRES := Kl.box_done (w0 := WG) (hc100) (hen100) hz101 (ho102) ht102 hl101 hS101
                have d5 : Wb100.heap.size < Wa101.heap.size := (hz101).lt
                go_simp
                refine hK.out _ _ hRES.2 (fun hHeld9 => ?_)
                clear hK K
                try simp only [Kl.pts]
                refine wpAnyH_done (by kernel_rfl) ?_ _
                go_wp2_with fail
                go_meet
                exact ⟨_, rfl, hRES.1, hRES.2⟩
              refine AllReadyH.cons rfl (fun K hK => ?_) AllReadyH.nil
              try simp only [Kl.pts]
              go_simp
              obtain ⟨Wa104, hWa104⟩ : ∃ V, Wc97.alloc (.cells #[.int .i64 0, .int .i64 0, .int .i64 0, .slice none 0 0] 37) = V := ⟨_, rfl⟩
              have hab104 : Below Wc97.heap.size Wc97 Wa104 := by rw [← hWa104]; exact (Below.refl _ _).alloc (Nat.le_refl _) _
              have hz104 : Kl.BoxZ Wa104 Wc97.heap.size := by rw [← hWa104]; exact Kl.BoxZ.new _ _
              have hS104 : Below WG.heap.size WG Wa104 := hS97.trans (hab104.mono hS97.size)
              have hl104 : WG.heap.size ≤ Wc97.heap.size := hS97.size
              have ho105 := (ho98).below hab104
              have ht105 : Wc97.heap.size ∉ Kl.fp q94 := Kl.not_fp (ho98) (Nat.le_refl _)
              have ho106 := (ho99).below hab104
              have ht106 : Wc97.heap.size ∉ Kl.fp q95 := Kl.not_fp (ho99) (Nat.le_refl _)
              have ho107 := (ho97.out).below hab104
              have ht107 : Wc97.heap.size ∉ Kl.fp q97 := Kl.not_fp (ho97.out) (Nat.le_refl _)
              rw [hWa104]
              refine hK.out _ _ hS104 (fun hHeld9 => ?_)
              clear hK K
              try simp only [Kl.pts]
              clear hWa104
              refine wpAnyH_ready (rs := [6]) (by kernel_rfl) (by simp) ?_
              refine AllReadyH.cons rfl (fun K hK => ?_) AllReadyH.nil
              try simp only [Kl.pts]
              go_simp
              obtain ⟨Wb108, hWb108⟩ : ∃ V, Wa104.alloc (.cells #[.int .i64 q94o, .int .i64 q94v, .int .i64 q94n, .slice q94p kq94 q94c, .int .i64 q95o, .int .i64 q95v, .int .i64 q95n, .slice q95p kq95 q95c, .int .i64 q97o, .int .i64 q97v, .int .i64 q97n, .slice q97p kq97 q97c] 37) = V := ⟨_, rfl⟩
              obtain ⟨b108, hb108⟩ : ∃ B, Wa104.heap.size = B := ⟨_, rfl⟩
              obtain ⟨F108, hen108, ho108, hc108, hx108, hab108⟩ := Kl.row3 3 hWb108 hb108 (Kl.enc_of he94.out) (Kl.enc_of he95.out) (Kl.enc_of he97.out) ho105 ho106 ho107 hc94.out hc95.out hc97.out
              have hS108 := hS104.trans (hab108.mono hS104.size)
              have htd108 := hx108 _ (by have := (hz104).lt; omega) ht105 ht106 ht107
              have hzz108 := (hz104).below hab108
              rw [hWb108, hb108]
              refine hK.out _ _ hS108 (fun hHeld9 => ?_)
              clear hK K
              try simp only [Kl.pts]
              clear hWb108
              refine Kl.tk 7 (.agg #[.int .i64 3, .int .i64 0, .int .i64 0, .slice (some ⟨b108, 0, none⟩) 3 3]) rfl (by kernel_rfl) (fun _ _ _ h => h) (by assumption) (Or.inl ⟨by rfl, ?y7⟩) ?_
              case y7 => (intro w1 h; go_simp)
              try simp only [Kl.pts]
              refine wpAnyH_ready (rs := [9]) (by kernel_rfl) (by simp) ?_
              refine AllReadyH.cons rfl (fun K hK => ?_) AllReadyH.nil
              try simp only [Kl.pts]
              have hzD := hzz108
              obtain ⟨⟨d0, d1, d2, d3⟩, d4⟩ := hzD
              have hRES := Kl.box_done (w0 := WG) (hc108) (hen108) hzz108 (ho108) htd108 hl104 hS108
              have d5 : Wc97.heap.size < Wb108.heap.size := (hzz108).lt
              go_simp
              refine hK.out _ _ hRES.2 (fun hHeld9 => ?_)
              clear hK K
              try simp only [Kl.pts]
              refine wpAnyH_done (by kernel_rfl) ?_ _
              go_wp2_with fail
              go_meet
              exact ⟨_, rfl, hRES.1, hRES.2⟩
            refine AllReadyH.cons rfl (fun K hK => ?_) AllReadyH.nil
            try simp only [Kl.pts]
            go_simp
            obtain ⟨Wa110, hWa110⟩ : ∃ V, Wc95.alloc (.cells #[.int .i64 0, .int .i64 0, .int .i64 0, .slice none 0 0] 37) = V := ⟨_, rfl⟩
            have hab110 : Below Wc95.heap.size Wc95 Wa110 := by rw [← hWa110]; exact (Below.refl _ _).alloc (Nat.le_refl _) _
            have hz110 : Kl.BoxZ Wa110 Wc95.heap.size := by rw [← hWa110]; exact Kl.BoxZ.new _ _
            have hS110 : Below WG.heap.size WG Wa110 := hS95.trans (hab110.mono hS95.size)
            have hl110 : WG.heap.size ≤ Wc95.heap.size := hS95.size
            have ho111 := (ho96).below hab110
            have ht111 : Wc95.heap.size ∉ Kl.fp q94 := Kl.not_fp (ho96) (Nat.le_refl _)
            have ho112 := (ho95.out).below hab110
            have ht112 : Wc95.heap.size ∉ Kl.fp q95 := Kl.not_fp (ho95.out) (Nat.le_refl _)
            rw [hWa110]
            refine hK.out _ _ hS110 (fun hHeld9 => ?_)
            clear hK K
            try simp only [Kl.pts]
            clear hWa110
            refine wpAnyH_ready (rs := [5]) (by kernel_rfl) (by simp) ?_
            refine AllReadyH.cons rfl (fun K hK => ?_) AllReadyH.nil
            try simp only [Kl.pts]
            go_simp
            refine (CNZr.out _ hS110).mono ?_
            rintro e Wc113 ⟨q113, q113o, q113v, q113n, q113p, kq113, q113c, rfl, he113, ho113, hc113, hf113, hb113⟩
            have hS113 : Below WG.heap.size WG Wc113 := hS110.trans (hb113.out.mono hS110.size)
            have ho114 := (ho111).below hb113.out
            have ho115 := (ho112).below hb113.out
            have htd113 : Wc95.heap.size ∉ Kl.fp q113 := fun h => by have h1 := hf113.out _ h; have h2 := (hz110).lt; omega
            have hzz113 := (hz110).below hb113.out
            refine hK.out _ _ hS113 (fun hHeld9 => ?_)
            clear hK K
            try simp only [Kl.pts]
            refine wpAnyH_ready (rs := [6]) (by kernel_rfl) (by simp) ?_
            refine AllReadyH.cons rfl (fun K hK => ?_) AllReadyH.nil
            try simp only [Kl.pts]
            go_simp
            obtain ⟨Wb116, hWb116⟩ : ∃ V, Wc113.alloc (.cells #[.int .i64 q94o, .int .i64 q94v, .int .i64 q94n, .slice q94p kq94 q94c, .int .i64 q95o, .int .i64 q95v, .int .i64 q95n, .slice q95p kq95 q95c, .int .i64 q113o, .int .i64 q113v, .int .i64 q113n, .slice q113p kq113 q113c] 37) = V := ⟨_, rfl⟩
            obtain ⟨b116, hb116⟩ : ∃ B, Wc113.heap.size = B := ⟨_, rfl⟩
            obtain ⟨F116, hen116, ho116, hc116, hx116, hab116⟩ := Kl.row3 3 hWb116 hb116 (Kl.enc_of he94.out) (Kl.enc_of he95.out) (Kl.enc_of he113.out) ho114 ho115 ho113.out hc94.out hc95.out hc113.out
            have hS116 := hS113.trans (hab116.mono hS113.size)
            have htd116 := hx116 _ (by have := (hzz113).lt; omega) ht111 ht112 htd113
            have hzz116 := (hzz113).below hab116
            rw [hWb116, hb116]
            refine hK.out _ _ hS116 (fun hHeld9 => ?_)
            clear hK K
            try simp only [Kl.pts]
            clear hWb116
            refine Kl.tk 7 (.agg #[.int .i64 3, .int .i64 0, .int .i64 0, .slice (some ⟨b116, 0, none⟩) 3 3]) rfl (by kernel_rfl) (fun _ _ _ h => h) (by assumption) (Or.inl ⟨by rfl, ?y7⟩) ?_
            case y7 => (intro w1 h; go_simp)
            try simp only [Kl.pts]
            refine wpAnyH_ready (rs := [9]) (by kernel_rfl) (by simp) ?_
            refine AllReadyH.cons rfl (fun K hK => ?_) AllReadyH.nil
            try simp only [Kl.pts]
            have hzD := hzz116
            obtain ⟨⟨d0, d1, d2, d3⟩, d4⟩ := hzD
            have hRES := Kl.box_done (w0 := WG) (hc116) (hen116) hzz116 (ho116) htd116 hl110 hS116
            have d5 : Wc95.heap.size < Wb116.heap.size := (hzz116).lt
            go_simp
            refine hK.out _ _ hRES.2 (fun hHeld9 => ?_)
            clear hK K
            try simp only [Kl.pts]
            refine wpAnyH_done (by kernel_rfl) ?_ _
            go_wp2_with fail
            go_meet
            exact ⟨_, rfl, hRES.1, hRES.2⟩
          refine AllReadyH.cons rfl (fun K hK => ?_) AllReadyH.nil
          try simp only [Kl.pts]
          go_simp
          obtain ⟨Wa118, hWa118⟩ : ∃ V, Wc94.alloc (.cells #[.int .i64 0, .int .i64 0, .int .i64 0, .slice none 0 0] 37) = V := ⟨_, rfl⟩
          have hab118 : Below Wc94.heap.size Wc94 Wa118 := by rw [← hWa118]; exact (Below.refl _ _).alloc (Nat.le_refl _) _
          have hz118 : Kl.BoxZ Wa118 Wc94.heap.size := by rw [← hWa118]; exact Kl.BoxZ.new _ _
          have hS118 : Below WG.heap.size WG Wa118 := hS94.trans (hab118.mono hS94.size)
          have hl118 : WG.heap.size ≤ Wc94.heap.size := hS94.size
          have ho119 := (ho94.out).below hab118
          have ht119 : Wc94.heap.size ∉ Kl.fp q94 := Kl.not_fp (ho94.out) (Nat.le_refl _)
          rw [hWa118]
          refine hK.out _ _ hS118 (fun hHeld9 => ?_)
          clear hK K
          try simp only [Kl.pts]
          clear hWa118
          refine wpAnyH_ready (rs := [3]) (by kernel_rfl) (by simp) ?_
          refine AllReadyH.cons rfl (fun K hK => ?_) AllReadyH.nil
          try simp only [Kl.pts]
          go_simp
          refine (CNYr.out _ hS118).mono ?_
          rintro e Wc120 ⟨q120, q120o, q120v, q120n, q120p, kq120, q120c, rfl, he120, ho120, hc120, hf120, hb120⟩
          have hS120 : Below WG.heap.size WG Wc120 := hS118.trans (hb120.out.mono hS118.size)
          have ho121 := (ho119).below hb120.out
          have htd120 : Wc94.heap.size ∉ Kl.fp q120 := fun h => by have h1 := hf120.out _ h; have h2 := (hz118).lt; omega
          have hzz120 := (hz118).below hb120.out
          refine hK.out _ _ hS120 (fun hHeld9 => ?_)
          clear hK K
          try simp only [Kl.pts]
          refine wpAnyH_ready (rs := [5]) (by kernel_rfl) (by simp) ?_
          refine AllReadyH.cons rfl (fun K hK => ?_) AllReadyH.nil
          try simp only [Kl.pts]
          go_simp
          refine (CNZr.out _ hS120).mono ?_
          rintro e Wc122 ⟨q122, q122o, q122v, q122n, q122p, kq122, q122c, rfl, he122, ho122, hc122, hf122, hb122⟩
          have hS122 : Below WG.heap.size WG Wc122 := hS120.trans (hb122.out.mono hS120.size)
          have ho123 := (ho121).below hb122.out
          have ho124 := (ho120.out).below hb122.out
          have htd122 : Wc94.heap.size ∉ Kl.fp q122 := fun h => by have h1 := hf122.out _ h; have h2 := (hzz120).lt; omega
          have hzz122 := (hzz120).below hb122.out
          refine hK.out _ _ hS122 (fun hHeld9 => ?_)
          clear hK K
          try simp only [Kl.pts]
          refine wpAnyH_ready (rs := [6]) (by kernel_rfl) (by simp) ?_
          refine AllReadyH.cons rfl (fun K hK => ?_) AllReadyH.nil
          try simp only [Kl.pts]
          go_simp
          obtain ⟨Wb125, hWb125⟩ : ∃ V, Wc122.alloc (.cells #[.int .i64 q94o, .int .i64 q94v, .int .i64 q94n, .slice q94p kq94 q94c, .int .i64 q120o, .int .i64 q120v, .int .i64 q120n, .slice q120p kq120 q120c, .int .i64 q122o, .int .i64 q122v, .int .i64 q122n, .slice q122p kq122 q122c] 37) = V := ⟨_, rfl⟩
          obtain ⟨b125, hb125⟩ : ∃ B, Wc122.heap.size = B := ⟨_, rfl⟩
          obtain ⟨F125, hen125, ho125, hc125, hx125, hab125⟩ := Kl.row3 3 hWb125 hb125 (Kl.enc_of he94.out) (Kl.enc_of he120.out) (Kl.enc_of he122.out) ho123 ho124 ho122.out hc94.out hc120.out hc122.out
          have hS125 := hS122.trans (hab125.mono hS122.size)
          have htd125 := hx125 _ (by have := (hzz122).lt; omega) ht119 htd120 htd122
          have hzz125 := (hzz122).below hab125
          rw [hWb125, hb125]
          refine hK.out _ _ hS125 (fun hHeld9 => ?_)
          clear hK K
          try simp only [Kl.pts]
          clear hWb125
          refine Kl.tk 7 (.agg #[.int .i64 3, .int .i64 0, .int .i64 0, .slice (some ⟨b125, 0, none⟩) 3 3]) rfl (by kernel_rfl) (fun _ _ _ h => h) (by assumption) (Or.inl ⟨by rfl, ?y7⟩) ?_
          case y7 => (intro w1 h; go_simp)
          try simp only [Kl.pts]
          refine wpAnyH_ready (rs := [9]) (by kernel_rfl) (by simp) ?_
          refine AllReadyH.cons rfl (fun K hK => ?_) AllReadyH.nil
          try simp only [Kl.pts]
          have hzD := hzz125
          obtain ⟨⟨d0, d1, d2, d3⟩, d4⟩ := hzD
          have hRES := Kl.box_done (w0 := WG) (hc125) (hen125) hzz125 (ho125) htd125 hl118 hS125
          have d5 : Wc94.heap.size < Wb125.heap.size := (hzz125).lt
          go_simp
          refine hK.out _ _ hRES.2 (fun hHeld9 => ?_)
          clear hK K
          try simp only [Kl.pts]
          refine wpAnyH_done (by kernel_rfl) ?_ _
          go_wp2_with fail
          go_meet
          exact ⟨_, rfl, hRES.1, hRES.2⟩
        refine AllReadyH.cons rfl (fun K hK => ?_) AllReadyH.nil
        try simp only [Kl.pts]
        go_simp
        obtain ⟨Wa127, hWa127⟩ : ∃ V, W00.alloc (.cells #[.int .i64 0, .int .i64 0, .int .i64 0, .slice none 0 0] 37) = V := ⟨_, rfl⟩
        have hab127 : Below W00.heap.size W00 Wa127 := by rw [← hWa127]; exact (Below.refl _ _).alloc (Nat.le_refl _) _
        have hz127 : Kl.BoxZ Wa127 W00.heap.size := by rw [← hWa127]; exact Kl.BoxZ.new _ _
        have hS127 : Below WG.heap.size WG Wa127 := hS0.trans (hab127.mono hS0.size)
        have hl127 : WG.heap.size ≤ W00.heap.size := hS0.size
        rw [hWa127]
        refine hK.out _ _ hS127 (fun hHeld9 => ?_)
        clear hK K
        try simp only [Kl.pts]
        clear hWa127
        refine wpAnyH_ready (rs := [1]) (by kernel_rfl) (by simp) ?_
        refine AllReadyH.cons rfl (fun K hK => ?_) AllReadyH.nil
        try simp only [Kl.pts]
        go_simp
        refine (CNXr.out _ hS127).mono ?_
        rintro e Wc128 ⟨q128, q128o, q128v, q128n, q128p, kq128, q128c, rfl, he128, ho128, hc128, hf128, hb128⟩
        have hS128 : Below WG.heap.size WG Wc128 := hS127.trans (hb128.out.mono hS127.size)
        have htd128 : W00.heap.size ∉ Kl.fp q128 := fun h => by have h1 := hf128.out _ h; have h2 := (hz127).lt; omega
        have hzz128 := (hz127).below hb128.out
        refine hK.out _ _ hS128 (fun hHeld9 => ?_)
        clear hK K
        try simp only [Kl.pts]
        refine wpAnyH_ready (rs := [3]) (by kernel_rfl) (by simp) ?_
        refine AllReadyH.cons rfl (fun K hK => ?_) AllReadyH.nil
        try simp only [Kl.pts]
        go_simp
        refine (CNYr.out _ hS128).mono ?_
        rintro e Wc129 ⟨q129, q129o, q129v, q129n, q129p, kq129, q129c, rfl, he129, ho129, hc129, hf129, hb129⟩
        have hS129 : Below WG.heap.size WG Wc129 := hS128.trans (hb129.out.mono hS128.size)
        have ho130 := (ho128.out).below hb129.out
        have htd129 : W00.heap.size ∉ Kl.fp q129 := fun h => by have h1 := hf129.out _ h; have h2 := (hzz128).lt; omega
        have hzz129 := (hzz128).below hb129.out
        refine hK.out _ _ hS129 (fun hHeld9 => ?_)
        clear hK K
        try simp only [Kl.pts]
        refine wpAnyH_ready (rs := [5]) (by kernel_rfl) (by simp) ?_
        refine AllReadyH.cons rfl (fun K hK => ?_) AllReadyH.nil
        try simp only [Kl.pts]
        go_simp
        refine (CNZr.out _ hS129).mono ?_
        rintro e Wc131 ⟨q131, q131o, q131v, q131n, q131p, kq131, q131c, rfl, he131, ho131, hc131, hf131, hb131⟩
        have hS131 : Below WG.heap.size WG Wc131 := hS129.trans (hb131.out.mono hS129.size)
        have ho132 := (ho130).below hb131.out
        have ho133 := (ho129.out).below hb131.out
        have htd131 : W00.heap.size ∉ Kl.fp q131 := fun h => by have h1 := hf131.out _ h; have h2 := (hzz129).lt; omega
        have hzz131 := (hzz129).below hb131.out
        refine hK.out _ _ hS131 (fun hHeld9 => ?_)
        clear hK K
        try simp only [Kl.pts]
        refine wpAnyH_ready (rs := [6]) (by kernel_rfl) (by simp) ?_
        refine AllReadyH.cons rfl (fun K hK => ?_) AllReadyH.nil
        try simp only [Kl.pts]
        go_simp
        obtain ⟨Wb134, hWb134⟩ : ∃ V, Wc131.alloc (.cells #[.int .i64 q128o, .int .i64 q128v, .int .i64 q128n, .slice q128p kq128 q128c, .int .i64 q129o, .int .i64 q129v, .int .i64 q129n, .slice q129p kq129 q129c, .int .i64 q131o, .int .i64 q131v, .int .i64 q131n, .slice q131p kq131 q131c] 37) = V := ⟨_, rfl⟩
        obtain ⟨b134, hb134⟩ : ∃ B, Wc131.heap.size = B := ⟨_, rfl⟩
        obtain ⟨F134, hen134, ho134, hc134, hx134, hab134⟩ := Kl.row3 3 hWb134 hb134 (Kl.enc_of he128.out) (Kl.enc_of he129.out) (Kl.enc_of he131.out) ho132 ho133 ho131.out hc128.out hc129.out hc131.out
        have hS134 := hS131.trans (hab134.mono hS131.size)
        have htd134 := hx134 _ (by have := (hzz131).lt; omega) htd128 htd129 htd131
        have hzz134 := (hzz131).below hab134
        rw [hWb134, hb134]
        refine hK.out _ _ hS134 (fun hHeld9 => ?_)
        clear hK K
        try simp only [Kl.pts]
        clear hWb134
        refine Kl.tk 7 (.agg #[.int .i64 3, .int .i64 0, .int .i64 0, .slice (some ⟨b134, 0, none⟩) 3 3]) rfl (by kernel_rfl) (fun _ _ _ h => h) (by assumption) (Or.inl ⟨by rfl, ?y7⟩) ?_
        case y7 => (intro w1 h; go_simp)
        try simp only [Kl.pts]
        refine wpAnyH_ready (rs := [9]) (by kernel_rfl) (by simp) ?_
        refine AllReadyH.cons rfl (fun K hK => ?_) AllReadyH.nil
        try simp only [Kl.pts]
        have hzD := hzz134
        obtain ⟨⟨d0, d1, d2, d3⟩, d4⟩ := hzD
        have hRES := Kl.box_done (w0 := WG) (hc134) (hen134) hzz134 (ho134) htd134 hl127 hS134
        have d5 : W00.heap.size < Wb134.heap.size := (hzz134).lt
        go_simp
        refine hK.out _ _ hRES.2 (fun hHeld9 => ?_)
        clear hK K
        try simp only [Kl.pts]
        refine wpAnyH_done (by kernel_rfl) ?_ _
        go_wp2_with fail
        go_meet
        exact ⟨_, rfl, hRES.1, hRES.2⟩
       case rest =>
        obtain ⟨TO, rfl, HXO, HQO⟩ := hcut
        obtain ⟨WO, hWO⟩ : ∃ V, V = wc := ⟨_, rfl⟩
        subst hWO
        have HBO := hide' (HBG.out.trans (HQO.out.mono HBG.out.size))
        have HQ0 : Hid (Below WO.heap.size WO WO) := Below.refl _ _
        have HN9 := hide' ((HXN.out.below HQG.out).below HQO.out)
        have HG9 := hide' (HXG.out.below HQO.out)
        have isN := Kl.isG_jn (op := 2) (.inl rfl) (l := [X, Y, Z]) (fun x hx => by simp at hx; rcases hx with rfl | rfl | rfl <;> first | exact HG1.out | exact HG2.out | exact HG3.out)
        have isI := Kl.isG_jn (op := 2) (.inl rfl) (l := [Z, X]) (fun x hx => by simp at hx; rcases hx with rfl | rfl <;> first | exact HG1.out | exact HG3.out)
        have isR := Kl.isG_jn (op := 2) (.inl rfl) (l := [.mk 2 0 0 [Z, X], Y, X]) (fun x hx => by simp at hx; rcases hx with rfl | rfl | rfl <;> first | exact isI | exact HG1.out | exact HG2.out)
        have isO := Kl.isG_jn (op := 3) (.inr rfl) (l := [.mk 4 0 0 [X], .mk 4 0 0 [Y], .mk 4 0 0 [Z]]) (fun x hx => by simp at hx; rcases hx with rfl | rfl | rfl <;> first | exact Kl.isG_not HG1.out | exact Kl.isG_not HG2.out | exact Kl.isG_not HG3.out)
        have szX : Kl.sz X ≤ 65536 := by rw [HSX.out]; exact HGX.out
        have szY : Kl.sz Y ≤ 65536 := by rw [HSY.out]; exact HGY.out
        have szZ : Kl.sz Z ≤ 65536 := by rw [HSZ.out]; exact HGZ.out
        obtain ⟨e0, he0⟩ : ∃ e, Kl.erO (Kl.goodL vs) = e := ⟨_, rfl⟩
        have YE : ∀ F, Kl.isG F = true → Kl.sz F ≤ 1048576 → Kl.isF F 131072 = Kl.isG F → Hid (∀ y w' v', Kl.Ok w' y → Kl.ct y = F → Kl.Ts w' v' vs → Calls Try.prog 27 #[.agg y.enc.toArray, v'] w' fun e w2 => e = .returned (.tuple #[.int .i64 (if Kl.goodL vs = true then Kl.ev vs F else 0), .int .i64 e0]) ∧ Below w'.heap.size w' w2) := fun F hG hs hi y w' v' ho hc hl => by
         have := klEvalI y v' vs w' ho hl (by rw [hc]; exact hs) (by rw [hc]; exact hi)
         rw [hc] at this
         unfold Kl.okE at this
         rw [hG, Bool.and_true, he0] at this
         exact this
        have YS : Kl.goodL vs = true → ∀ F R, Kl.isG F = true → Kl.sz F ≤ 1048576 → Kl.isF F 131072 = Kl.isG F → Kl.rs vs F = R → Hid (∀ y w' v', Kl.Ok w' y → Kl.ct y = F → Kl.Ts w' v' vs → Calls Try.prog 28 #[.agg y.enc.toArray, v'] w' (Kl.SimP R w')) := fun hg F R hG hs hi hR y w' v' ho hc hl => klSimplifyP y v' vs R w' ho hl (by rw [hc]; exact hs) hg (by rw [hc, hi]; exact hG) (by rw [hc]; exact hG) (by rw [hc]; exact hR)
        have sN : Kl.sz (.mk 2 0 0 [X, Y, Z]) ≤ 1048576 := by simp only [Kl.sz, Kl.szs]; omega
        have sR : Kl.sz (.mk 2 0 0 [.mk 2 0 0 [Z, X], Y, X]) ≤ 1048576 := by simp only [Kl.sz, Kl.szs]; omega
        have sO : Kl.sz (.mk 3 0 0 [.mk 4 0 0 [X], .mk 4 0 0 [Y], .mk 4 0 0 [Z]]) ≤ 1048576 := by simp only [Kl.sz, Kl.szs]; omega
        have s2 : Kl.sz (.mk 4 0 0 [.mk 4 0 0 [X]]) ≤ 1048576 := by simp only [Kl.sz, Kl.szs]; omega
        have YE1 := YE _ isN sN (Kl.isF_and szX szY szZ)
        have YE2 := YE _ isR sR (Kl.isF_grp szX szY szZ)
        have YE3 := YE _ isO sO (Kl.isF_or szX szY szZ)
        obtain ⟨R, hR⟩ : ∃ R, Kl.rs vs (.mk 2 0 0 [X, Y, Z]) = R := ⟨_, rfl⟩
        obtain ⟨R2, hR2⟩ : ∃ R, Kl.rs vs X = R := ⟨_, rfl⟩
        have YS1 := hide' (fun hg => YS hg _ R isN sN (Kl.isF_and szX szY szZ) hR)
        have YS2 := hide' (fun hg => YS hg _ R isR sR (Kl.isF_grp szX szY szZ) (by rw [← Kl.rs_turn HG1.out HG3.out]; exact hR))
        have YS3 := hide' (fun hg => YS hg _ R2 (Kl.isG_not (Kl.isG_not HG1.out)) s2 (Kl.isF_not2 szX) (by rw [Kl.rs_not2 hg HG1.out]; exact hR2))
        have YS4 := hide' (fun hg => YS hg X R2 HG1.out (by omega) (Kl.isF_isG X _ (by omega)) hR2)
        have HTURN := hide' (fun hg => Kl.ev_turn (vs := vs) hg HG1.out HG2.out HG3.out)
        have HE0 := hide' he0
        obtain ⟨a1, ha1⟩ : ∃ a : Int, (if Kl.goodL vs = true then Kl.ev vs (.mk 2 0 0 [X, Y, Z]) else 0) = a := ⟨_, rfl⟩
        obtain ⟨a2, ha2⟩ : ∃ a : Int, (if Kl.goodL vs = true then Kl.ev vs (.mk 2 0 0 [.mk 2 0 0 [Z, X], Y, X]) else 0) = a := ⟨_, rfl⟩
        obtain ⟨a3, ha3⟩ : ∃ a : Int, (if Kl.goodL vs = true then Kl.ev vs (.mk 3 0 0 [.mk 4 0 0 [X], .mk 4 0 0 [Y], .mk 4 0 0 [Z]]) else 0) = a := ⟨_, rfl⟩
        rw [ha1] at YE1
        rw [ha2] at YE2
        rw [ha3] at YE3
        have HA1 := hide' ha1
        have HA2 := hide' ha2
        have HA3 := hide' ha3
        clear ha1 ha2 ha3 he0 hR hR2 YE YS isN isI isR isO szX szY szZ sN sR sO s2 HG2 HG3
        go_wp2_with fail
        obtain ⟨g, go, gv, gn, gp, kg, gc, HGE, HGC, HGO, HGB⟩ := (HN9.out.below HQ0.out).opn
        have HSO : Hid (∀ W', Below WO.heap.size WO W' → W'.cell? ⟨TN, 0, none⟩ = some (.int .i64 go) ∧ W'.cell? ⟨TN, 1, none⟩ = some (.int .i64 gv) ∧ W'.cell? ⟨TN, 2, none⟩ = some (.int .i64 gn) ∧ W'.cell? ⟨TN, 3, none⟩ = some (.slice gp kg gc)) := HGB
        have hS0 : Below WO.heap.size WO WO.drew := (Below.refl _ _).drew
        have CU2 := hide' (CU.out WO.drew (HUA.out _ (HBO.out.trans (hS0.mono HBO.out.size))))
        have YG : Hid (∀ W' v', Below WO.heap.size WO W' → Kl.Ts W' v' vs → Calls Try.prog 27 #[.agg #[.int .i64 go, .int .i64 gv, .int .i64 gn, .slice gp kg gc], v'] W' fun e w2 => e = .returned (.tuple #[.int .i64 a1, .int .i64 e0]) ∧ Below W'.heap.size W' w2) := fun W' v' hb hl => by
         have := YE1.out g W' v' (HGO.out.below hb) HGC.out hl
         rw [HGE.out] at this
         exact this
        refine wp_region_held_drew (S := fun W' => Below WO.heap.size WO W') (by kernel_rfl) hS0 (fun hHeld => ?_)
        simp only [List.size_toArray, List.length_cons, List.length_nil, Nat.reduceAdd]
        refine Kl.tk 0 (.agg #[.int .i64 go, .int .i64 gv, .int .i64 gn, .slice gp kg gc]) rfl (by kernel_rfl) (fun _ _ _ h => h) (by assumption) (Or.inl ⟨by rfl, ?y0⟩) ?_
        case y0 => (intro w' hSw; obtain ⟨z0, z1, z2, z3⟩ := HSO.out w' hSw; go_simp)
        try simp only [Kl.pts]
        refine Kl.tk 1 (.slice pv nv cv) rfl (by kernel_rfl) (fun _ _ _ h => h) (by assumption) (Or.inl ⟨by rfl, ?y1⟩) ?_
        case y1 => (intro w' hSw; obtain ⟨z0, z1, z2, z3⟩ := HSO.out w' hSw; go_simp)
        try simp only [Kl.pts]
        refine wpAnyH_ready (rs := [2]) (by kernel_rfl) (by simp) ?_
        refine AllReadyH.cons rfl (fun K hK => ?_) AllReadyH.nil
        try simp only [Kl.pts]
        go_simp
        refine CU2.out.mono ?_
        rintro e V1 ⟨pt, ct', rfl, HT, hb⟩
        have hS1 : Below WO.heap.size WO V1 := hS0.trans (hb.out.mono hS0.size)
        have KE := hide' (YG.out V1 _ hS1 HT.out)
        clear hb HT CU2 YG
        refine hK.out _ _ hS1 (fun hHeld9 => ?_)
        clear hK K
        try simp only [Kl.pts]
        refine wpAnyH_ready (rs := [3]) (by kernel_rfl) (by simp) ?_
        refine AllReadyH.cons rfl (fun K hK => ?_) AllReadyH.nil
        try simp only [Kl.pts]
        go_simp
        refine KE.out.mono ?_
        rintro e W15 ⟨rfl, hb⟩
        have hS2 : Below WO.heap.size WO W15 := hS1.trans (hb.mono hS1.size)
        clear KE hb hS1
        refine hK.out _ _ hS2 (fun hHeld9 => ?_)
        clear hK K
        try simp only [Kl.pts]
        refine Kl.tk 4 (.tuple #[.int .i64 a1, .int .i64 e0]) rfl (by kernel_rfl) (fun _ _ _ h => h) (by assumption) (Or.inl ⟨by rfl, ?y4⟩) ?_
        case y4 => (intro w' hSw; obtain ⟨z0, z1, z2, z3⟩ := HSO.out w' hSw; go_simp)
        try simp only [Kl.pts]
        refine Kl.tk 5 (.int .i64 a1) rfl (by kernel_rfl) (fun _ _ _ h => h) (by assumption) (Or.inl ⟨by rfl, ?y5⟩) ?_
        case y5 => (intro w' hSw; obtain ⟨z0, z1, z2, z3⟩ := HSO.out w' hSw; go_simp)
        try simp only [Kl.pts]
        refine Kl.tk 6 (.int .i64 e0) rfl (by kernel_rfl) (fun _ _ _ h => h) (by assumption) (Or.inl ⟨by rfl, ?y6⟩) ?_
        case y6 => (intro w' hSw; obtain ⟨z0, z1, z2, z3⟩ := HSO.out w' hSw; go_simp)
        try simp only [Kl.pts]
        refine Kl.tk 7 (.int .i64 a1) rfl (by kernel_rfl) (fun _ _ _ h => h) (by assumption) (Or.inl ⟨by rfl, ?y7⟩) ?_
        case y7 => (intro w' hSw; obtain ⟨z0, z1, z2, z3⟩ := HSO.out w' hSw; go_simp)
        try simp only [Kl.pts]
        refine Kl.tk 8 (.int .i64 e0) rfl (by kernel_rfl) (fun _ _ _ h => h) (by assumption) (Or.inl ⟨by rfl, ?y8⟩) ?_
        case y8 => (intro w' hSw; obtain ⟨z0, z1, z2, z3⟩ := HSO.out w' hSw; go_simp)
        try simp only [Kl.pts]
        refine wpAnyH_done (by kernel_rfl) ?_ _
        have HBW15 := hide' (HBO.out.trans (hS2.mono HBO.out.size))
        have H0W15 := hide' (HQ0.out.trans (hS2.mono HQ0.out.size))
        clear HSO hS0 hS2 hHeld HGE HGC HGO HGB
        go_wp2_with fail
        obtain ⟨g, go, gv, gn, gp, kg, gc, HGE, HGC, HGO, HGB⟩ := (HG9.out.below H0W15.out).opn
        have HSO : Hid (∀ W', Below W15.heap.size W15 W' → W'.cell? ⟨TG, 0, none⟩ = some (.int .i64 go) ∧ W'.cell? ⟨TG, 1, none⟩ = some (.int .i64 gv) ∧ W'.cell? ⟨TG, 2, none⟩ = some (.int .i64 gn) ∧ W'.cell? ⟨TG, 3, none⟩ = some (.slice gp kg gc)) := HGB
        have hS0 : Below W15.heap.size W15 W15.drew := (Below.refl _ _).drew
        have CU2 := hide' (CU.out W15.drew (HUA.out _ (HBW15.out.trans (hS0.mono HBW15.out.size))))
        have YG : Hid (∀ W' v', Below W15.heap.size W15 W' → Kl.Ts W' v' vs → Calls Try.prog 27 #[.agg #[.int .i64 go, .int .i64 gv, .int .i64 gn, .slice gp kg gc], v'] W' fun e w2 => e = .returned (.tuple #[.int .i64 a2, .int .i64 e0]) ∧ Below W'.heap.size W' w2) := fun W' v' hb hl => by
         have := YE2.out g W' v' (HGO.out.below hb) HGC.out hl
         rw [HGE.out] at this
         exact this
        refine wp_region_held_drew (S := fun W' => Below W15.heap.size W15 W') (by kernel_rfl) hS0 (fun hHeld => ?_)
        simp only [List.size_toArray, List.length_cons, List.length_nil, Nat.reduceAdd]
        refine Kl.tk 0 (.agg #[.int .i64 go, .int .i64 gv, .int .i64 gn, .slice gp kg gc]) rfl (by kernel_rfl) (fun _ _ _ h => h) (by assumption) (Or.inl ⟨by rfl, ?y0⟩) ?_
        case y0 => (intro w' hSw; obtain ⟨z0, z1, z2, z3⟩ := HSO.out w' hSw; go_simp)
        try simp only [Kl.pts]
        refine Kl.tk 1 (.slice pv nv cv) rfl (by kernel_rfl) (fun _ _ _ h => h) (by assumption) (Or.inl ⟨by rfl, ?y1⟩) ?_
        case y1 => (intro w' hSw; obtain ⟨z0, z1, z2, z3⟩ := HSO.out w' hSw; go_simp)
        try simp only [Kl.pts]
        refine wpAnyH_ready (rs := [2]) (by kernel_rfl) (by simp) ?_
        refine AllReadyH.cons rfl (fun K hK => ?_) AllReadyH.nil
        try simp only [Kl.pts]
        go_simp
        refine CU2.out.mono ?_
        rintro e V1 ⟨pt, ct', rfl, HT, hb⟩
        have hS1 : Below W15.heap.size W15 V1 := hS0.trans (hb.out.mono hS0.size)
        have KE := hide' (YG.out V1 _ hS1 HT.out)
        clear hb HT CU2 YG
        refine hK.out _ _ hS1 (fun hHeld9 => ?_)
        clear hK K
        try simp only [Kl.pts]
        refine wpAnyH_ready (rs := [3]) (by kernel_rfl) (by simp) ?_
        refine AllReadyH.cons rfl (fun K hK => ?_) AllReadyH.nil
        try simp only [Kl.pts]
        go_simp
        refine KE.out.mono ?_
        rintro e W16 ⟨rfl, hb⟩
        have hS2 : Below W15.heap.size W15 W16 := hS1.trans (hb.mono hS1.size)
        clear KE hb hS1
        refine hK.out _ _ hS2 (fun hHeld9 => ?_)
        clear hK K
        try simp only [Kl.pts]
        refine Kl.tk 4 (.tuple #[.int .i64 a2, .int .i64 e0]) rfl (by kernel_rfl) (fun _ _ _ h => h) (by assumption) (Or.inl ⟨by rfl, ?y4⟩) ?_
        case y4 => (intro w' hSw; obtain ⟨z0, z1, z2, z3⟩ := HSO.out w' hSw; go_simp)
        try simp only [Kl.pts]
        refine Kl.tk 5 (.int .i64 a2) rfl (by kernel_rfl) (fun _ _ _ h => h) (by assumption) (Or.inl ⟨by rfl, ?y5⟩) ?_
        case y5 => (intro w' hSw; obtain ⟨z0, z1, z2, z3⟩ := HSO.out w' hSw; go_simp)
        try simp only [Kl.pts]
        refine Kl.tk 6 (.int .i64 e0) rfl (by kernel_rfl) (fun _ _ _ h => h) (by assumption) (Or.inl ⟨by rfl, ?y6⟩) ?_
        case y6 => (intro w' hSw; obtain ⟨z0, z1, z2, z3⟩ := HSO.out w' hSw; go_simp)
        try simp only [Kl.pts]
        refine Kl.tk 7 (.int .i64 a2) rfl (by kernel_rfl) (fun _ _ _ h => h) (by assumption) (Or.inl ⟨by rfl, ?y7⟩) ?_
        case y7 => (intro w' hSw; obtain ⟨z0, z1, z2, z3⟩ := HSO.out w' hSw; go_simp)
        try simp only [Kl.pts]
        refine Kl.tk 8 (.int .i64 e0) rfl (by kernel_rfl) (fun _ _ _ h => h) (by assumption) (Or.inl ⟨by rfl, ?y8⟩) ?_
        case y8 => (intro w' hSw; obtain ⟨z0, z1, z2, z3⟩ := HSO.out w' hSw; go_simp)
        try simp only [Kl.pts]
        refine wpAnyH_done (by kernel_rfl) ?_ _
        have HBW16 := hide' (HBW15.out.trans (hS2.mono HBW15.out.size))
        have H0W16 := hide' (H0W15.out.trans (hS2.mono H0W15.out.size))
        clear HSO hS0 hS2 hHeld HGE HGC HGO HGB
        go_wp2_with fail
        obtain ⟨g, go, gv, gn, gp, kg, gc, HGE, HGC, HGO, HGB⟩ := (HXO.out.below H0W16.out).opn
        have HSO : Hid (∀ W', Below W16.heap.size W16 W' → W'.cell? ⟨TO, 0, none⟩ = some (.int .i64 go) ∧ W'.cell? ⟨TO, 1, none⟩ = some (.int .i64 gv) ∧ W'.cell? ⟨TO, 2, none⟩ = some (.int .i64 gn) ∧ W'.cell? ⟨TO, 3, none⟩ = some (.slice gp kg gc)) := HGB
        have hS0 : Below W16.heap.size W16 W16.drew := (Below.refl _ _).drew
        have CU2 := hide' (CU.out W16.drew (HUA.out _ (HBW16.out.trans (hS0.mono HBW16.out.size))))
        have YG : Hid (∀ W' v', Below W16.heap.size W16 W' → Kl.Ts W' v' vs → Calls Try.prog 27 #[.agg #[.int .i64 go, .int .i64 gv, .int .i64 gn, .slice gp kg gc], v'] W' fun e w2 => e = .returned (.tuple #[.int .i64 a3, .int .i64 e0]) ∧ Below W'.heap.size W' w2) := fun W' v' hb hl => by
         have := YE3.out g W' v' (HGO.out.below hb) HGC.out hl
         rw [HGE.out] at this
         exact this
        refine wp_region_held_drew (S := fun W' => Below W16.heap.size W16 W') (by kernel_rfl) hS0 (fun hHeld => ?_)
        simp only [List.size_toArray, List.length_cons, List.length_nil, Nat.reduceAdd]
        refine Kl.tk 0 (.agg #[.int .i64 go, .int .i64 gv, .int .i64 gn, .slice gp kg gc]) rfl (by kernel_rfl) (fun _ _ _ h => h) (by assumption) (Or.inl ⟨by rfl, ?y0⟩) ?_
        case y0 => (intro w' hSw; obtain ⟨z0, z1, z2, z3⟩ := HSO.out w' hSw; go_simp)
        try simp only [Kl.pts]
        refine Kl.tk 1 (.slice pv nv cv) rfl (by kernel_rfl) (fun _ _ _ h => h) (by assumption) (Or.inl ⟨by rfl, ?y1⟩) ?_
        case y1 => (intro w' hSw; obtain ⟨z0, z1, z2, z3⟩ := HSO.out w' hSw; go_simp)
        try simp only [Kl.pts]
        refine wpAnyH_ready (rs := [2]) (by kernel_rfl) (by simp) ?_
        refine AllReadyH.cons rfl (fun K hK => ?_) AllReadyH.nil
        try simp only [Kl.pts]
        go_simp
        refine CU2.out.mono ?_
        rintro e V1 ⟨pt, ct', rfl, HT, hb⟩
        have hS1 : Below W16.heap.size W16 V1 := hS0.trans (hb.out.mono hS0.size)
        have KE := hide' (YG.out V1 _ hS1 HT.out)
        clear hb HT CU2 YG
        refine hK.out _ _ hS1 (fun hHeld9 => ?_)
        clear hK K
        try simp only [Kl.pts]
        refine wpAnyH_ready (rs := [3]) (by kernel_rfl) (by simp) ?_
        refine AllReadyH.cons rfl (fun K hK => ?_) AllReadyH.nil
        try simp only [Kl.pts]
        go_simp
        refine KE.out.mono ?_
        rintro e W17 ⟨rfl, hb⟩
        have hS2 : Below W16.heap.size W16 W17 := hS1.trans (hb.mono hS1.size)
        clear KE hb hS1
        refine hK.out _ _ hS2 (fun hHeld9 => ?_)
        clear hK K
        try simp only [Kl.pts]
        refine Kl.tk 4 (.tuple #[.int .i64 a3, .int .i64 e0]) rfl (by kernel_rfl) (fun _ _ _ h => h) (by assumption) (Or.inl ⟨by rfl, ?y4⟩) ?_
        case y4 => (intro w' hSw; obtain ⟨z0, z1, z2, z3⟩ := HSO.out w' hSw; go_simp)
        try simp only [Kl.pts]
        refine Kl.tk 5 (.int .i64 a3) rfl (by kernel_rfl) (fun _ _ _ h => h) (by assumption) (Or.inl ⟨by rfl, ?y5⟩) ?_
        case y5 => (intro w' hSw; obtain ⟨z0, z1, z2, z3⟩ := HSO.out w' hSw; go_simp)
        try simp only [Kl.pts]
        refine Kl.tk 6 (.int .i64 e0) rfl (by kernel_rfl) (fun _ _ _ h => h) (by assumption) (Or.inl ⟨by rfl, ?y6⟩) ?_
        case y6 => (intro w' hSw; obtain ⟨z0, z1, z2, z3⟩ := HSO.out w' hSw; go_simp)
        try simp only [Kl.pts]
        refine Kl.tk 7 (.int .i64 a3) rfl (by kernel_rfl) (fun _ _ _ h => h) (by assumption) (Or.inl ⟨by rfl, ?y7⟩) ?_
        case y7 => (intro w' hSw; obtain ⟨z0, z1, z2, z3⟩ := HSO.out w' hSw; go_simp)
        try simp only [Kl.pts]
        refine Kl.tk 8 (.int .i64 e0) rfl (by kernel_rfl) (fun _ _ _ h => h) (by assumption) (Or.inl ⟨by rfl, ?y8⟩) ?_
        case y8 => (intro w' hSw; obtain ⟨z0, z1, z2, z3⟩ := HSO.out w' hSw; go_simp)
        try simp only [Kl.pts]
        refine wpAnyH_done (by kernel_rfl) ?_ _
        have HBW17 := hide' (HBW16.out.trans (hS2.mono HBW16.out.size))
        have H0W17 := hide' (H0W16.out.trans (hS2.mono H0W16.out.size))
        clear HSO hS0 hS2 hHeld HGE HGC HGO HGB
        clear YE1 YE2 YE3
        by_cases hgd : Kl.goodL vs = true
        rotate_left
        · have hgf : Kl.goodL vs = false := by simpa using hgd
          have hh1 : a1 = 0 := by rw [← HA1.out, if_neg hgd]
          have hh2 : e0 = 6 := by rw [← HE0.out, hgf]; rfl
          subst hh1 hh2
          clear hgd hgf HE0 HA1 HA2 HA3 HTURN YS1 YS2 YS3 YS4 HCB CTX2 CTY2 CTZ2 CNX2 CNY2 CNZ2 CU
          go_wp2_with fail
          go_ret
          exact ⟨rfl, HUA.out _ HBW17.out⟩
        have hh2 : e0 = 0 := by rw [← HE0.out, hgd]; rfl
        have hh3 : a2 = a1 := by rw [← HA1.out, ← HA2.out, if_pos hgd, if_pos hgd, (HTURN.out hgd).1]
        have hh4 : a3 = Kl.notT a1 := by rw [← HA1.out, ← HA3.out, if_pos hgd, if_pos hgd, (HTURN.out hgd).2]
        subst hh2 hh3
        have HNT := hide' hh4
        have YT1 := YS1.out hgd
        have YT2 := YS2.out hgd
        have YT3 := YS3.out hgd
        have YT4 := YS4.out hgd
        clear hgd hh4 HE0 HA1 HA2 HA3 HTURN YS1 YS2 YS3 YS4
        go_upto_region 20 with fail
        go_cut [15, 18] from 121 to 127 (fun e a wx => e = .int .i64 0 ∧ ∃ T, a = .pointer (some ⟨T, 0, none⟩) ∧ Hid (Kl.BoxF wx T R ∧ ∀ o, wx.frozen? ⟨T, o, none⟩ = false) ∧ Hid (Below W17.heap.size W17 wx) ∧ Hid (W17.heap.size ≤ T))
        case first =>
         have hS0 : Below W17.heap.size W17 W17.drew := (Below.refl _ _).drew
         obtain ⟨g, go, gv, gn, gp, kg, gc, HGE, HGC, HGO, HGB⟩ := (HN9.out.below H0W17.out).opn
         have HSO : Hid (∀ W', Below W17.heap.size W17 W' → W'.cell? ⟨TN, 0, none⟩ = some (.int .i64 go) ∧ W'.cell? ⟨TN, 1, none⟩ = some (.int .i64 gv) ∧ W'.cell? ⟨TN, 2, none⟩ = some (.int .i64 gn) ∧ W'.cell? ⟨TN, 3, none⟩ = some (.slice gp kg gc)) := HGB
         have CU2 := hide' (fun W' (h : Below W17.heap.size W17 W') => CU.out W' (HUA.out _ (HBW17.out.trans (h.mono HBW17.out.size))))
         have YG : Hid (∀ W' v', Below W17.heap.size W17 W' → Kl.Ts W' v' vs → Calls Try.prog 28 #[.agg #[.int .i64 go, .int .i64 gv, .int .i64 gn, .slice gp kg gc], v'] W' (Kl.SimP R W')) := fun W' v' hb hl => by
          have := YT1.out g W' v' (HGO.out.below hb) HGC.out hl
          rw [HGE.out] at this
          exact this
         clear CU HCB CTX2 CTY2 CTZ2 CNX2 CNY2 CNZ2
         refine wp_region_held_drew (S := fun W' => Below W17.heap.size W17 W') (by kernel_rfl) hS0 (fun hHeld => ?_)
         simp only [List.size_toArray, List.length_cons, List.length_nil, Nat.reduceAdd]
         generalize W17.drew = W00 at hHeld hS0 ⊢
         refine Kl.tk 0 (.agg #[.int .i64 go, .int .i64 gv, .int .i64 gn, .slice gp kg gc]) rfl (by kernel_rfl) (fun _ _ _ h => h) (by assumption) (Or.inl ⟨by rfl, ?y0⟩) ?_
         case y0 => (intro w' hSw; obtain ⟨z0, z1, z2, z3⟩ := HSO.out w' hSw; go_simp)
         try simp only [Kl.pts]
         refine Kl.tk 1 (.slice pv nv cv) rfl (by kernel_rfl) (fun _ _ _ h => h) (by assumption) (Or.inl ⟨by rfl, ?y1⟩) ?_
         case y1 => (intro w' hSw; obtain ⟨z0, z1, z2, z3⟩ := HSO.out w' hSw; go_simp)
         try simp only [Kl.pts]
         refine wpAnyH_ready (rs := [2, 7]) (by kernel_rfl) (by simp) ?_
         refine AllReadyH.cons rfl (fun K hK => ?_) ?_
         · try simp only [Kl.pts]
           go_simp
           refine (CU2.out W00 hS0).mono ?_
           rintro e V1 ⟨pt, ct', rfl, HT, hb⟩
           have hS1 : Below W17.heap.size W17 V1 := hS0.trans (hb.out.mono hS0.size)
           have HT1 := HT.out
           refine hK.out _ _ hS1 (fun hHeld9 => ?_)
           clear hK K
           try simp only [Kl.pts]
           clear hb HT CU2
           refine wpAnyH_ready (rs := [3, 7]) (by kernel_rfl) (by simp) ?_
           refine AllReadyH.cons rfl (fun K hK => ?_) ?_
           · try simp only [Kl.pts]
             go_simp
             refine (YG.out V1 _ hS1 HT1).mono ?_
             rintro e V2 ⟨s, so, sv, sn, sp, ks, sc, rfl, HSE, HSK, HSC, HSF, hb⟩
             have hS2 : Below W17.heap.size W17 V2 := hS1.trans (hb.out.mono hS1.size)
             have hsk := HSK.out
             refine hK.out _ _ hS2 (fun hHeld9 => ?_)
             clear hK K
             try simp only [Kl.pts]
             clear hb YG HSK
             refine Kl.tk 4 (.tuple #[.agg #[.int .i64 so, .int .i64 sv, .int .i64 sn, .slice sp ks sc], .int .i64 0]) rfl (by kernel_rfl) (fun _ _ _ h => h) (by assumption) (Or.inl ⟨by rfl, ?y4⟩) ?_
             case y4 => (intro w' hSw; obtain ⟨z0, z1, z2, z3⟩ := HSO.out w' hSw; go_simp)
             try simp only [Kl.pts]
             refine Kl.tk 5 (.agg #[.int .i64 so, .int .i64 sv, .int .i64 sn, .slice sp ks sc]) rfl (by kernel_rfl) (fun _ _ _ h => h) (by assumption) (Or.inl ⟨by rfl, ?y5⟩) ?_
             case y5 => (intro w' hSw; obtain ⟨z0, z1, z2, z3⟩ := HSO.out w' hSw; go_simp)
             try simp only [Kl.pts]
             refine Kl.tk 6 (.int .i64 0) rfl (by kernel_rfl) (fun _ _ _ h => h) (by assumption) (Or.inl ⟨by rfl, ?y6⟩) ?_
             case y6 => (intro w' hSw; obtain ⟨z0, z1, z2, z3⟩ := HSO.out w' hSw; go_simp)
             try simp only [Kl.pts]
             refine wpAnyH_ready (rs := [7]) (by kernel_rfl) (by simp) ?_
             refine AllReadyH.cons rfl (fun K hK => ?_) AllReadyH.nil
             try simp only [Kl.pts]
             go_simp
             obtain ⟨Va91, hVa⟩ : ∃ V, V2.alloc (.cells #[.int .i64 0, .int .i64 0, .int .i64 0, .slice none 0 0] 37) = V := ⟨_, rfl⟩
             obtain ⟨Tq, hTq⟩ : ∃ T, V2.heap.size = T := ⟨_, rfl⟩
             have hab : Below V2.heap.size V2 Va91 := by rw [← hVa]; exact (Below.refl _ _).alloc (Nat.le_refl _) _
             have hz91 : Kl.BoxZ Va91 Tq := by rw [← hVa, ← hTq]; exact Kl.BoxZ.new _ _
             have hSa91 : Below W17.heap.size W17 Va91 := hS2.trans (hab.mono hS2.size)
             have hl91 : W17.heap.size ≤ Tq := by rw [← hTq]; exact hS2.size
             have hsk2 := hsk.below hab
             have htd : Tq ∉ Kl.fp s := by rw [← hTq]; exact Kl.not_fp hsk (Nat.le_refl _)
             rw [hVa, hTq]
             refine hK.out _ _ hSa91 (fun hHeld9 => ?_)
             clear hK K
             try simp only [Kl.pts]
             clear hVa
             refine wpAnyH_ready (rs := [8]) (by kernel_rfl) (by simp) ?_
             refine AllReadyH.cons rfl (fun K hK => ?_) AllReadyH.nil
             try simp only [Kl.pts]
             have hzD := hz91
             obtain ⟨⟨d0, d1, d2, d3⟩, d4⟩ := hzD
             have hRES := Kl.box_done (w0 := W17) HSC.out (Kl.enc_of HSE.out) hz91 hsk2 htd hl91 hSa91
             have hFRZ := Kl.frz_keep Tq (.int .i64 so) (.int .i64 sv) (.int .i64 sn) (.slice sp ks sc) (hz91).2
             have d5 : Tq < Va91.heap.size := (hz91).lt
             go_simp
             refine hK.out _ _ hRES.2 (fun hHeld9 => ?_)
             clear hK K
             try simp only [Kl.pts]
             refine Kl.tk 9 (.int .i64 0) rfl (by kernel_rfl) (fun _ _ _ h => h) (by assumption) (Or.inl ⟨by rfl, ?y9⟩) ?_
             case y9 => (intro w' hSw; obtain ⟨z0, z1, z2, z3⟩ := HSO.out w' hSw; go_simp)
             try simp only [Kl.pts]
             refine wpAnyH_done (by kernel_rfl) ?_ _
             go_wp2_with fail
             go_meet
             exact ⟨rfl, _, rfl, ⟨hRES.1, hFRZ⟩, hRES.2, hl91⟩
           refine AllReadyH.cons rfl (fun K hK => ?_) AllReadyH.nil
           try simp only [Kl.pts]
           go_simp
           obtain ⟨Va92, hVa⟩ : ∃ V, V1.alloc (.cells #[.int .i64 0, .int .i64 0, .int .i64 0, .slice none 0 0] 37) = V := ⟨_, rfl⟩
           obtain ⟨Tq, hTq⟩ : ∃ T, V1.heap.size = T := ⟨_, rfl⟩
           have hab : Below V1.heap.size V1 Va92 := by rw [← hVa]; exact (Below.refl _ _).alloc (Nat.le_refl _) _
           have hz92 : Kl.BoxZ Va92 Tq := by rw [← hVa, ← hTq]; exact Kl.BoxZ.new _ _
           have hSa92 : Below W17.heap.size W17 Va92 := hS1.trans (hab.mono hS1.size)
           have hl92 : W17.heap.size ≤ Tq := by rw [← hTq]; exact hS1.size
           have HT2 := HT1.below hab
           rw [hVa, hTq]
           refine hK.out _ _ hSa92 (fun hHeld9 => ?_)
           clear hK K
           try simp only [Kl.pts]
           clear hVa
           refine wpAnyH_ready (rs := [3]) (by kernel_rfl) (by simp) ?_
           refine AllReadyH.cons rfl (fun K hK => ?_) AllReadyH.nil
           try simp only [Kl.pts]
           go_simp
           refine (YG.out Va92 _ hSa92 HT2).mono ?_
           rintro e V2 ⟨s, so, sv, sn, sp, ks, sc, rfl, HSE, HSK, HSC, HSF, hb⟩
           have hS2 : Below W17.heap.size W17 V2 := hSa92.trans (hb.out.mono hSa92.size)
           have hsk := HSK.out
           have hzd := hz92.below hb.out
           have htd : Tq ∉ Kl.fp s := fun h => by have h1 := HSF.out _ h; have h2 := hz92.lt; omega
           refine hK.out _ _ hS2 (fun hHeld9 => ?_)
           clear hK K
           try simp only [Kl.pts]
           clear hb YG HSK
           refine Kl.tk 4 (.tuple #[.agg #[.int .i64 so, .int .i64 sv, .int .i64 sn, .slice sp ks sc], .int .i64 0]) rfl (by kernel_rfl) (fun _ _ _ h => h) (by assumption) (Or.inl ⟨by rfl, ?y4⟩) ?_
           case y4 => (intro w' hSw; obtain ⟨z0, z1, z2, z3⟩ := HSO.out w' hSw; go_simp)
           try simp only [Kl.pts]
           refine Kl.tk 5 (.agg #[.int .i64 so, .int .i64 sv, .int .i64 sn, .slice sp ks sc]) rfl (by kernel_rfl) (fun _ _ _ h => h) (by assumption) (Or.inl ⟨by rfl, ?y5⟩) ?_
           case y5 => (intro w' hSw; obtain ⟨z0, z1, z2, z3⟩ := HSO.out w' hSw; go_simp)
           try simp only [Kl.pts]
           refine Kl.tk 6 (.int .i64 0) rfl (by kernel_rfl) (fun _ _ _ h => h) (by assumption) (Or.inl ⟨by rfl, ?y6⟩) ?_
           case y6 => (intro w' hSw; obtain ⟨z0, z1, z2, z3⟩ := HSO.out w' hSw; go_simp)
           try simp only [Kl.pts]
           refine wpAnyH_ready (rs := [8]) (by kernel_rfl) (by simp) ?_
           refine AllReadyH.cons rfl (fun K hK => ?_) AllReadyH.nil
           try simp only [Kl.pts]
           have hzD := hzd
           obtain ⟨⟨d0, d1, d2, d3⟩, d4⟩ := hzD
           have hRES := Kl.box_done (w0 := W17) HSC.out (Kl.enc_of HSE.out) hzd hsk htd hl92 hS2
           have hFRZ := Kl.frz_keep Tq (.int .i64 so) (.int .i64 sv) (.int .i64 sn) (.slice sp ks sc) (hzd).2
           have d5 : Tq < V2.heap.size := (hzd).lt
           go_simp
           refine hK.out _ _ hRES.2 (fun hHeld9 => ?_)
           clear hK K
           try simp only [Kl.pts]
           refine Kl.tk 9 (.int .i64 0) rfl (by kernel_rfl) (fun _ _ _ h => h) (by assumption) (Or.inl ⟨by rfl, ?y9⟩) ?_
           case y9 => (intro w' hSw; obtain ⟨z0, z1, z2, z3⟩ := HSO.out w' hSw; go_simp)
           try simp only [Kl.pts]
           refine wpAnyH_done (by kernel_rfl) ?_ _
           go_wp2_with fail
           go_meet
           exact ⟨rfl, _, rfl, ⟨hRES.1, hFRZ⟩, hRES.2, hl92⟩
         refine AllReadyH.cons rfl (fun K hK => ?_) AllReadyH.nil
         try simp only [Kl.pts]
         go_simp
         obtain ⟨Va93, hVa⟩ : ∃ V, W00.alloc (.cells #[.int .i64 0, .int .i64 0, .int .i64 0, .slice none 0 0] 37) = V := ⟨_, rfl⟩
         obtain ⟨Tq, hTq⟩ : ∃ T, W00.heap.size = T := ⟨_, rfl⟩
         have hab : Below W00.heap.size W00 Va93 := by rw [← hVa]; exact (Below.refl _ _).alloc (Nat.le_refl _) _
         have hz93 : Kl.BoxZ Va93 Tq := by rw [← hVa, ← hTq]; exact Kl.BoxZ.new _ _
         have hSa93 : Below W17.heap.size W17 Va93 := hS0.trans (hab.mono hS0.size)
         have hl93 : W17.heap.size ≤ Tq := by rw [← hTq]; exact hS0.size
         rw [hVa, hTq]
         refine hK.out _ _ hSa93 (fun hHeld9 => ?_)
         clear hK K
         try simp only [Kl.pts]
         clear hVa
         refine wpAnyH_ready (rs := [2]) (by kernel_rfl) (by simp) ?_
         refine AllReadyH.cons rfl (fun K hK => ?_) AllReadyH.nil
         try simp only [Kl.pts]
         go_simp
         refine (CU2.out Va93 hSa93).mono ?_
         rintro e V1 ⟨pt, ct', rfl, HT, hb⟩
         have hS1 : Below W17.heap.size W17 V1 := hSa93.trans (hb.out.mono hSa93.size)
         have HT1 := HT.out
         have hzc := hz93.below hb.out
         refine hK.out _ _ hS1 (fun hHeld9 => ?_)
         clear hK K
         try simp only [Kl.pts]
         clear hb HT CU2
         refine wpAnyH_ready (rs := [3]) (by kernel_rfl) (by simp) ?_
         refine AllReadyH.cons rfl (fun K hK => ?_) AllReadyH.nil
         try simp only [Kl.pts]
         go_simp
         refine (YG.out V1 _ hS1 HT1).mono ?_
         rintro e V2 ⟨s, so, sv, sn, sp, ks, sc, rfl, HSE, HSK, HSC, HSF, hb⟩
         have hS2 : Below W17.heap.size W17 V2 := hS1.trans (hb.out.mono hS1.size)
         have hsk := HSK.out
         have hzd := hzc.below hb.out
         have htd : Tq ∉ Kl.fp s := fun h => by have h1 := HSF.out _ h; have h2 := hzc.lt; omega
         refine hK.out _ _ hS2 (fun hHeld9 => ?_)
         clear hK K
         try simp only [Kl.pts]
         clear hb YG HSK
         refine Kl.tk 4 (.tuple #[.agg #[.int .i64 so, .int .i64 sv, .int .i64 sn, .slice sp ks sc], .int .i64 0]) rfl (by kernel_rfl) (fun _ _ _ h => h) (by assumption) (Or.inl ⟨by rfl, ?y4⟩) ?_
         case y4 => (intro w' hSw; obtain ⟨z0, z1, z2, z3⟩ := HSO.out w' hSw; go_simp)
         try simp only [Kl.pts]
         refine Kl.tk 5 (.agg #[.int .i64 so, .int .i64 sv, .int .i64 sn, .slice sp ks sc]) rfl (by kernel_rfl) (fun _ _ _ h => h) (by assumption) (Or.inl ⟨by rfl, ?y5⟩) ?_
         case y5 => (intro w' hSw; obtain ⟨z0, z1, z2, z3⟩ := HSO.out w' hSw; go_simp)
         try simp only [Kl.pts]
         refine Kl.tk 6 (.int .i64 0) rfl (by kernel_rfl) (fun _ _ _ h => h) (by assumption) (Or.inl ⟨by rfl, ?y6⟩) ?_
         case y6 => (intro w' hSw; obtain ⟨z0, z1, z2, z3⟩ := HSO.out w' hSw; go_simp)
         try simp only [Kl.pts]
         refine wpAnyH_ready (rs := [8]) (by kernel_rfl) (by simp) ?_
         refine AllReadyH.cons rfl (fun K hK => ?_) AllReadyH.nil
         try simp only [Kl.pts]
         have hzD := hzd
         obtain ⟨⟨d0, d1, d2, d3⟩, d4⟩ := hzD
         have hRES := Kl.box_done (w0 := W17) HSC.out (Kl.enc_of HSE.out) hzd hsk htd hl93 hS2
         have hFRZ := Kl.frz_keep Tq (.int .i64 so) (.int .i64 sv) (.int .i64 sn) (.slice sp ks sc) (hzd).2
         have d5 : Tq < V2.heap.size := (hzd).lt
         go_simp
         refine hK.out _ _ hRES.2 (fun hHeld9 => ?_)
         clear hK K
         try simp only [Kl.pts]
         refine Kl.tk 9 (.int .i64 0) rfl (by kernel_rfl) (fun _ _ _ h => h) (by assumption) (Or.inl ⟨by rfl, ?y9⟩) ?_
         case y9 => (intro w' hSw; obtain ⟨z0, z1, z2, z3⟩ := HSO.out w' hSw; go_simp)
         try simp only [Kl.pts]
         refine wpAnyH_done (by kernel_rfl) ?_ _
         go_wp2_with fail
         go_meet
         exact ⟨rfl, _, rfl, ⟨hRES.1, hFRZ⟩, hRES.2, hl93⟩
        case rest =>
         obtain ⟨rfl, TP, rfl, HXP, HQP, HLP⟩ := hcut
         obtain ⟨WP, hWP⟩ : ∃ V, V = wc := ⟨_, rfl⟩
         subst hWP
         have HBP := hide' (HBW17.out.trans (HQP.out.mono HBW17.out.size))
         have H0P := hide' (H0W17.out.trans (HQP.out.mono H0W17.out.size))
         go_upto_region 21 with fail
         go_cut [17, 19] from 128 to 134 (fun e a wx => e = .int .i64 0 ∧ ∃ T, a = .pointer (some ⟨T, 0, none⟩) ∧ Hid (Kl.BoxF wx T R ∧ ∀ o, wx.frozen? ⟨T, o, none⟩ = false) ∧ Hid (Below WP.heap.size WP wx) ∧ Hid (WP.heap.size ≤ T))
         case first =>
          have hS0 : Below WP.heap.size WP WP.drew := (Below.refl _ _).drew
          obtain ⟨g, go, gv, gn, gp, kg, gc, HGE, HGC, HGO, HGB⟩ := (HG9.out.below H0P.out).opn
          have HSO : Hid (∀ W', Below WP.heap.size WP W' → W'.cell? ⟨TG, 0, none⟩ = some (.int .i64 go) ∧ W'.cell? ⟨TG, 1, none⟩ = some (.int .i64 gv) ∧ W'.cell? ⟨TG, 2, none⟩ = some (.int .i64 gn) ∧ W'.cell? ⟨TG, 3, none⟩ = some (.slice gp kg gc)) := HGB
          have CU2 := hide' (fun W' (h : Below WP.heap.size WP W') => CU.out W' (HUA.out _ (HBP.out.trans (h.mono HBP.out.size))))
          have YG : Hid (∀ W' v', Below WP.heap.size WP W' → Kl.Ts W' v' vs → Calls Try.prog 28 #[.agg #[.int .i64 go, .int .i64 gv, .int .i64 gn, .slice gp kg gc], v'] W' (Kl.SimP R W')) := fun W' v' hb hl => by
           have := YT2.out g W' v' (HGO.out.below hb) HGC.out hl
           rw [HGE.out] at this
           exact this
          clear CU HCB CTX2 CTY2 CTZ2 CNX2 CNY2 CNZ2
          refine wp_region_held_drew (S := fun W' => Below WP.heap.size WP W') (by kernel_rfl) hS0 (fun hHeld => ?_)
          simp only [List.size_toArray, List.length_cons, List.length_nil, Nat.reduceAdd]
          generalize WP.drew = W00 at hHeld hS0 ⊢
          refine Kl.tk 0 (.agg #[.int .i64 go, .int .i64 gv, .int .i64 gn, .slice gp kg gc]) rfl (by kernel_rfl) (fun _ _ _ h => h) (by assumption) (Or.inl ⟨by rfl, ?y0⟩) ?_
          case y0 => (intro w' hSw; obtain ⟨z0, z1, z2, z3⟩ := HSO.out w' hSw; go_simp)
          try simp only [Kl.pts]
          refine Kl.tk 1 (.slice pv nv cv) rfl (by kernel_rfl) (fun _ _ _ h => h) (by assumption) (Or.inl ⟨by rfl, ?y1⟩) ?_
          case y1 => (intro w' hSw; obtain ⟨z0, z1, z2, z3⟩ := HSO.out w' hSw; go_simp)
          try simp only [Kl.pts]
          refine wpAnyH_ready (rs := [2, 7]) (by kernel_rfl) (by simp) ?_
          refine AllReadyH.cons rfl (fun K hK => ?_) ?_
          · try simp only [Kl.pts]
            go_simp
            refine (CU2.out W00 hS0).mono ?_
            rintro e V1 ⟨pt, ct', rfl, HT, hb⟩
            have hS1 : Below WP.heap.size WP V1 := hS0.trans (hb.out.mono hS0.size)
            have HT1 := HT.out
            refine hK.out _ _ hS1 (fun hHeld9 => ?_)
            clear hK K
            try simp only [Kl.pts]
            clear hb HT CU2
            refine wpAnyH_ready (rs := [3, 7]) (by kernel_rfl) (by simp) ?_
            refine AllReadyH.cons rfl (fun K hK => ?_) ?_
            · try simp only [Kl.pts]
              go_simp
              refine (YG.out V1 _ hS1 HT1).mono ?_
              rintro e V2 ⟨s, so, sv, sn, sp, ks, sc, rfl, HSE, HSK, HSC, HSF, hb⟩
              have hS2 : Below WP.heap.size WP V2 := hS1.trans (hb.out.mono hS1.size)
              have hsk := HSK.out
              refine hK.out _ _ hS2 (fun hHeld9 => ?_)
              clear hK K
              try simp only [Kl.pts]
              clear hb YG HSK
              refine Kl.tk 4 (.tuple #[.agg #[.int .i64 so, .int .i64 sv, .int .i64 sn, .slice sp ks sc], .int .i64 0]) rfl (by kernel_rfl) (fun _ _ _ h => h) (by assumption) (Or.inl ⟨by rfl, ?y4⟩) ?_
              case y4 => (intro w' hSw; obtain ⟨z0, z1, z2, z3⟩ := HSO.out w' hSw; go_simp)
              try simp only [Kl.pts]
              refine Kl.tk 5 (.agg #[.int .i64 so, .int .i64 sv, .int .i64 sn, .slice sp ks sc]) rfl (by kernel_rfl) (fun _ _ _ h => h) (by assumption) (Or.inl ⟨by rfl, ?y5⟩) ?_
              case y5 => (intro w' hSw; obtain ⟨z0, z1, z2, z3⟩ := HSO.out w' hSw; go_simp)
              try simp only [Kl.pts]
              refine Kl.tk 6 (.int .i64 0) rfl (by kernel_rfl) (fun _ _ _ h => h) (by assumption) (Or.inl ⟨by rfl, ?y6⟩) ?_
              case y6 => (intro w' hSw; obtain ⟨z0, z1, z2, z3⟩ := HSO.out w' hSw; go_simp)
              try simp only [Kl.pts]
              refine wpAnyH_ready (rs := [7]) (by kernel_rfl) (by simp) ?_
              refine AllReadyH.cons rfl (fun K hK => ?_) AllReadyH.nil
              try simp only [Kl.pts]
              go_simp
              obtain ⟨Va88, hVa⟩ : ∃ V, V2.alloc (.cells #[.int .i64 0, .int .i64 0, .int .i64 0, .slice none 0 0] 37) = V := ⟨_, rfl⟩
              obtain ⟨Tq, hTq⟩ : ∃ T, V2.heap.size = T := ⟨_, rfl⟩
              have hab : Below V2.heap.size V2 Va88 := by rw [← hVa]; exact (Below.refl _ _).alloc (Nat.le_refl _) _
              have hz88 : Kl.BoxZ Va88 Tq := by rw [← hVa, ← hTq]; exact Kl.BoxZ.new _ _
              have hSa88 : Below WP.heap.size WP Va88 := hS2.trans (hab.mono hS2.size)
              have hl88 : WP.heap.size ≤ Tq := by rw [← hTq]; exact hS2.size
              have hsk2 := hsk.below hab
              have htd : Tq ∉ Kl.fp s := by rw [← hTq]; exact Kl.not_fp hsk (Nat.le_refl _)
              rw [hVa, hTq]
              refine hK.out _ _ hSa88 (fun hHeld9 => ?_)
              clear hK K
              try simp only [Kl.pts]
              clear hVa
              refine wpAnyH_ready (rs := [8]) (by kernel_rfl) (by simp) ?_
              refine AllReadyH.cons rfl (fun K hK => ?_) AllReadyH.nil
              try simp only [Kl.pts]
              have hzD := hz88
              obtain ⟨⟨d0, d1, d2, d3⟩, d4⟩ := hzD
              have hRES := Kl.box_done (w0 := WP) HSC.out (Kl.enc_of HSE.out) hz88 hsk2 htd hl88 hSa88
              have hFRZ := Kl.frz_keep Tq (.int .i64 so) (.int .i64 sv) (.int .i64 sn) (.slice sp ks sc) (hz88).2
              have d5 : Tq < Va88.heap.size := (hz88).lt
              go_simp
              refine hK.out _ _ hRES.2 (fun hHeld9 => ?_)
              clear hK K
              try simp only [Kl.pts]
              refine Kl.tk 9 (.int .i64 0) rfl (by kernel_rfl) (fun _ _ _ h => h) (by assumption) (Or.inl ⟨by rfl, ?y9⟩) ?_
              case y9 => (intro w' hSw; obtain ⟨z0, z1, z2, z3⟩ := HSO.out w' hSw; go_simp)
              try simp only [Kl.pts]
              refine wpAnyH_done (by kernel_rfl) ?_ _
              go_wp2_with fail
              go_meet
              exact ⟨rfl, _, rfl, ⟨hRES.1, hFRZ⟩, hRES.2, hl88⟩
            refine AllReadyH.cons rfl (fun K hK => ?_) AllReadyH.nil
            try simp only [Kl.pts]
            go_simp
            obtain ⟨Va89, hVa⟩ : ∃ V, V1.alloc (.cells #[.int .i64 0, .int .i64 0, .int .i64 0, .slice none 0 0] 37) = V := ⟨_, rfl⟩
            obtain ⟨Tq, hTq⟩ : ∃ T, V1.heap.size = T := ⟨_, rfl⟩
            have hab : Below V1.heap.size V1 Va89 := by rw [← hVa]; exact (Below.refl _ _).alloc (Nat.le_refl _) _
            have hz89 : Kl.BoxZ Va89 Tq := by rw [← hVa, ← hTq]; exact Kl.BoxZ.new _ _
            have hSa89 : Below WP.heap.size WP Va89 := hS1.trans (hab.mono hS1.size)
            have hl89 : WP.heap.size ≤ Tq := by rw [← hTq]; exact hS1.size
            have HT2 := HT1.below hab
            rw [hVa, hTq]
            refine hK.out _ _ hSa89 (fun hHeld9 => ?_)
            clear hK K
            try simp only [Kl.pts]
            clear hVa
            refine wpAnyH_ready (rs := [3]) (by kernel_rfl) (by simp) ?_
            refine AllReadyH.cons rfl (fun K hK => ?_) AllReadyH.nil
            try simp only [Kl.pts]
            go_simp
            refine (YG.out Va89 _ hSa89 HT2).mono ?_
            rintro e V2 ⟨s, so, sv, sn, sp, ks, sc, rfl, HSE, HSK, HSC, HSF, hb⟩
            have hS2 : Below WP.heap.size WP V2 := hSa89.trans (hb.out.mono hSa89.size)
            have hsk := HSK.out
            have hzd := hz89.below hb.out
            have htd : Tq ∉ Kl.fp s := fun h => by have h1 := HSF.out _ h; have h2 := hz89.lt; omega
            refine hK.out _ _ hS2 (fun hHeld9 => ?_)
            clear hK K
            try simp only [Kl.pts]
            clear hb YG HSK
            refine Kl.tk 4 (.tuple #[.agg #[.int .i64 so, .int .i64 sv, .int .i64 sn, .slice sp ks sc], .int .i64 0]) rfl (by kernel_rfl) (fun _ _ _ h => h) (by assumption) (Or.inl ⟨by rfl, ?y4⟩) ?_
            case y4 => (intro w' hSw; obtain ⟨z0, z1, z2, z3⟩ := HSO.out w' hSw; go_simp)
            try simp only [Kl.pts]
            refine Kl.tk 5 (.agg #[.int .i64 so, .int .i64 sv, .int .i64 sn, .slice sp ks sc]) rfl (by kernel_rfl) (fun _ _ _ h => h) (by assumption) (Or.inl ⟨by rfl, ?y5⟩) ?_
            case y5 => (intro w' hSw; obtain ⟨z0, z1, z2, z3⟩ := HSO.out w' hSw; go_simp)
            try simp only [Kl.pts]
            refine Kl.tk 6 (.int .i64 0) rfl (by kernel_rfl) (fun _ _ _ h => h) (by assumption) (Or.inl ⟨by rfl, ?y6⟩) ?_
            case y6 => (intro w' hSw; obtain ⟨z0, z1, z2, z3⟩ := HSO.out w' hSw; go_simp)
            try simp only [Kl.pts]
            refine wpAnyH_ready (rs := [8]) (by kernel_rfl) (by simp) ?_
            refine AllReadyH.cons rfl (fun K hK => ?_) AllReadyH.nil
            try simp only [Kl.pts]
            have hzD := hzd
            obtain ⟨⟨d0, d1, d2, d3⟩, d4⟩ := hzD
            have hRES := Kl.box_done (w0 := WP) HSC.out (Kl.enc_of HSE.out) hzd hsk htd hl89 hS2
            have hFRZ := Kl.frz_keep Tq (.int .i64 so) (.int .i64 sv) (.int .i64 sn) (.slice sp ks sc) (hzd).2
            have d5 : Tq < V2.heap.size := (hzd).lt
            go_simp
            refine hK.out _ _ hRES.2 (fun hHeld9 => ?_)
            clear hK K
            try simp only [Kl.pts]
            refine Kl.tk 9 (.int .i64 0) rfl (by kernel_rfl) (fun _ _ _ h => h) (by assumption) (Or.inl ⟨by rfl, ?y9⟩) ?_
            case y9 => (intro w' hSw; obtain ⟨z0, z1, z2, z3⟩ := HSO.out w' hSw; go_simp)
            try simp only [Kl.pts]
            refine wpAnyH_done (by kernel_rfl) ?_ _
            go_wp2_with fail
            go_meet
            exact ⟨rfl, _, rfl, ⟨hRES.1, hFRZ⟩, hRES.2, hl89⟩
          refine AllReadyH.cons rfl (fun K hK => ?_) AllReadyH.nil
          try simp only [Kl.pts]
          go_simp
          obtain ⟨Va90, hVa⟩ : ∃ V, W00.alloc (.cells #[.int .i64 0, .int .i64 0, .int .i64 0, .slice none 0 0] 37) = V := ⟨_, rfl⟩
          obtain ⟨Tq, hTq⟩ : ∃ T, W00.heap.size = T := ⟨_, rfl⟩
          have hab : Below W00.heap.size W00 Va90 := by rw [← hVa]; exact (Below.refl _ _).alloc (Nat.le_refl _) _
          have hz90 : Kl.BoxZ Va90 Tq := by rw [← hVa, ← hTq]; exact Kl.BoxZ.new _ _
          have hSa90 : Below WP.heap.size WP Va90 := hS0.trans (hab.mono hS0.size)
          have hl90 : WP.heap.size ≤ Tq := by rw [← hTq]; exact hS0.size
          rw [hVa, hTq]
          refine hK.out _ _ hSa90 (fun hHeld9 => ?_)
          clear hK K
          try simp only [Kl.pts]
          clear hVa
          refine wpAnyH_ready (rs := [2]) (by kernel_rfl) (by simp) ?_
          refine AllReadyH.cons rfl (fun K hK => ?_) AllReadyH.nil
          try simp only [Kl.pts]
          go_simp
          refine (CU2.out Va90 hSa90).mono ?_
          rintro e V1 ⟨pt, ct', rfl, HT, hb⟩
          have hS1 : Below WP.heap.size WP V1 := hSa90.trans (hb.out.mono hSa90.size)
          have HT1 := HT.out
          have hzc := hz90.below hb.out
          refine hK.out _ _ hS1 (fun hHeld9 => ?_)
          clear hK K
          try simp only [Kl.pts]
          clear hb HT CU2
          refine wpAnyH_ready (rs := [3]) (by kernel_rfl) (by simp) ?_
          refine AllReadyH.cons rfl (fun K hK => ?_) AllReadyH.nil
          try simp only [Kl.pts]
          go_simp
          refine (YG.out V1 _ hS1 HT1).mono ?_
          rintro e V2 ⟨s, so, sv, sn, sp, ks, sc, rfl, HSE, HSK, HSC, HSF, hb⟩
          have hS2 : Below WP.heap.size WP V2 := hS1.trans (hb.out.mono hS1.size)
          have hsk := HSK.out
          have hzd := hzc.below hb.out
          have htd : Tq ∉ Kl.fp s := fun h => by have h1 := HSF.out _ h; have h2 := hzc.lt; omega
          refine hK.out _ _ hS2 (fun hHeld9 => ?_)
          clear hK K
          try simp only [Kl.pts]
          clear hb YG HSK
          refine Kl.tk 4 (.tuple #[.agg #[.int .i64 so, .int .i64 sv, .int .i64 sn, .slice sp ks sc], .int .i64 0]) rfl (by kernel_rfl) (fun _ _ _ h => h) (by assumption) (Or.inl ⟨by rfl, ?y4⟩) ?_
          case y4 => (intro w' hSw; obtain ⟨z0, z1, z2, z3⟩ := HSO.out w' hSw; go_simp)
          try simp only [Kl.pts]
          refine Kl.tk 5 (.agg #[.int .i64 so, .int .i64 sv, .int .i64 sn, .slice sp ks sc]) rfl (by kernel_rfl) (fun _ _ _ h => h) (by assumption) (Or.inl ⟨by rfl, ?y5⟩) ?_
          case y5 => (intro w' hSw; obtain ⟨z0, z1, z2, z3⟩ := HSO.out w' hSw; go_simp)
          try simp only [Kl.pts]
          refine Kl.tk 6 (.int .i64 0) rfl (by kernel_rfl) (fun _ _ _ h => h) (by assumption) (Or.inl ⟨by rfl, ?y6⟩) ?_
          case y6 => (intro w' hSw; obtain ⟨z0, z1, z2, z3⟩ := HSO.out w' hSw; go_simp)
          try simp only [Kl.pts]
          refine wpAnyH_ready (rs := [8]) (by kernel_rfl) (by simp) ?_
          refine AllReadyH.cons rfl (fun K hK => ?_) AllReadyH.nil
          try simp only [Kl.pts]
          have hzD := hzd
          obtain ⟨⟨d0, d1, d2, d3⟩, d4⟩ := hzD
          have hRES := Kl.box_done (w0 := WP) HSC.out (Kl.enc_of HSE.out) hzd hsk htd hl90 hS2
          have hFRZ := Kl.frz_keep Tq (.int .i64 so) (.int .i64 sv) (.int .i64 sn) (.slice sp ks sc) (hzd).2
          have d5 : Tq < V2.heap.size := (hzd).lt
          go_simp
          refine hK.out _ _ hRES.2 (fun hHeld9 => ?_)
          clear hK K
          try simp only [Kl.pts]
          refine Kl.tk 9 (.int .i64 0) rfl (by kernel_rfl) (fun _ _ _ h => h) (by assumption) (Or.inl ⟨by rfl, ?y9⟩) ?_
          case y9 => (intro w' hSw; obtain ⟨z0, z1, z2, z3⟩ := HSO.out w' hSw; go_simp)
          try simp only [Kl.pts]
          refine wpAnyH_done (by kernel_rfl) ?_ _
          go_wp2_with fail
          go_meet
          exact ⟨rfl, _, rfl, ⟨hRES.1, hFRZ⟩, hRES.2, hl90⟩
         case rest =>
          obtain ⟨rfl, TU, rfl, HXU, HQU, HLU⟩ := hcut
          obtain ⟨WU, hWU⟩ : ∃ V, V = wc := ⟨_, rfl⟩
          subst hWU
          have HBU := hide' (HBP.out.trans (HQU.out.mono HBP.out.size))
          have H0U := hide' (H0P.out.trans (HQU.out.mono H0P.out.size))
          have hl1 : B1 < W3.heap.size := block_lt_of_cell (HCB.out W3 (Below.refl _ _)).1
          have hl2 : W3.heap.size ≤ TP := Nat.le_trans HBW17.out.size HLP.out
          have hl3 : TP < WP.heap.size := HXP.out.1.lt
          have hl4 : WP.heap.size ≤ TU := HLU.out
          have hl5 : TU < WU.heap.size := HXU.out.1.lt
          have HNE : Hid (B1 ≠ TP ∧ B1 ≠ TU ∧ TP ≠ TU ∧ W3.heap.size ≤ TP ∧ W3.heap.size ≤ TU ∧ TP < WU.heap.size ∧ TU < WU.heap.size) := ⟨by omega, by omega, by omega, hl2, by omega, by omega, hl5⟩
          have HFP1 : Hid (∀ o, WU.frozen? ⟨TP, o, none⟩ = false) := fun o => (HQU.out.frozen (p := ⟨TP, o, none⟩) hl3).trans (HXP.out.2 o)
          have HFU1 : Hid (∀ o, WU.frozen? ⟨TU, o, none⟩ = false) := HXU.out.2
          obtain ⟨s, so, sv, sn, sp, ks, sc, HSE, HSC, HSO, HSB⟩ := (HXP.out.1.below HQU.out).opn
          obtain ⟨m, mo, mv, mn, mp, km, mc, HME, HMC, HMO, HMB⟩ := HXU.out.1.opn
          clear hl1 hl2 hl3 hl4 hl5 HXP HXU HN9 HG9 HXN HXG HXO YT1 YT2 HQN HQG HQO HQP
          obtain ⟨c0, c1, c2, c3⟩ := HSB.out WU (Below.refl _ _)
          obtain ⟨d0, d1, d2, d3⟩ := HMB.out WU (Below.refl _ _)
          have K := hide' (klSame s m WU (by rw [HSC.out, HMC.out]) HSO.out HMO.out)
          rw [HSE.out, HME.out] at K
          have n9 : ∀ q : Int, (q != q) = false := fun q => by simp
          go_wp2_with (go_at_call 17; refine (klNot _ _).mono ?_; rintro e w9 ⟨rfl, rfl⟩; rw [← HNT.out])
          refine K.out.mono ?_
          rintro e w22 ⟨rfl, hg⟩
          have HB22 := hide' (HBU.out.trans (hg.below.mono HBU.out.size))
          have HW22 := hide' hg.below
          clear K hg c0 c1 c2 c3 d0 d1 d2 d3 HSE HSC HSO HME HMC HMO n9 HNT
          obtain ⟨z0, z1, z2, z3, z4, z5, z6, z7, z8, z9, z10, z11⟩ := HCB.out w22 HB22.out
          clear z4 z5 z6 z7 z8 z9 z10 z11
          go_wp2_with fail
          refine (CNX2.out w22 (HUA.out _ HB22.out)).mono ?_
          rintro e w23 ⟨u, uo, uv, un, up, ku, uc, rfl, HUE, HUO, HUC, HUF, hb⟩
          have HB23 := hide' (HB22.out.trans (hb.out.mono HB22.out.size))
          have HW23 := hide' (HW22.out.trans (hb.out.mono HW22.out.size))
          have K := hide' (lawNot14 u w23 HUO.out (by rw [HUC.out]; have := HGX.out; have h2 := HSX.out; simp only [Kl.sz, Kl.szs]; omega))
          rw [HUE.out, HUC.out] at K
          clear hb z0 z1 z2 z3 HUE HUO HUC HUF HB22 HW22
          go_wp2_with fail
          refine K.out.mono ?_
          rintro e w24 ⟨u, uo, uv, un, up, ku, uc, rfl, HUE, HUO, HUC, HUF, hb⟩
          have HB24 := hide' (HB23.out.trans (hb.out.mono HB23.out.size))
          have HW24 := hide' (HW23.out.trans (hb.out.mono HW23.out.size))
          clear K hb HUF HB23 HW23
          go_wp2_with fail
          refine (CU.out w24 (HUA.out _ HB24.out)).mono ?_
          rintro e w25 ⟨pt, ct', rfl, HT, hb⟩
          have HB25 := hide' (HB24.out.trans (hb.out.mono HB24.out.size))
          have HW25 := hide' (HW24.out.trans (hb.out.mono HW24.out.size))
          have K := hide' (YT3.out u w25 _ (HUO.out.below hb.out) HUC.out HT.out)
          rw [HUE.out] at K
          clear hb HT HUE HUO HUC HB24 HW24
          go_wp2_with fail
          refine K.out.mono ?_
          rintro e w26 ⟨s, so, sv, sn, sp, ks, sc, rfl, HSE, HSO, HSC, HSF, hb⟩
          have HB26 := hide' (HB25.out.trans (hb.out.mono HB25.out.size))
          have HW26 := hide' (HW25.out.trans (hb.out.mono HW25.out.size))
          have hz26 : TP < w26.heap.size := Nat.lt_of_lt_of_le HNE.out.2.2.2.2.2.1 HW26.out.size
          have hfs : TP ∉ Kl.fp s ∧ TU ∉ Kl.fp s := ⟨fun h => by have h1 := HSF.out _ h; have h2 := HW25.out.size; have h3 := HNE.out.2.2.2.2.2.1; omega, fun h => by have h1 := HSF.out _ h; have h2 := HW25.out.size; have h3 := HNE.out.2.2.2.2.2.2; omega⟩
          have HFS := hide' hfs
          obtain ⟨c0, c1, c2, c3⟩ := HSB.out w26 HW26.out
          have c4 : ∀ o, w26.frozen? ⟨TP, o, none⟩ = false := fun o => (HW26.out.frozen (p := ⟨TP, o, none⟩) HNE.out.2.2.2.2.2.1).trans (HFP1.out o)
          obtain ⟨W27, hW27, hr27, ho27, hc27, hf27, hb27, hk27⟩ := Kl.put_all (T := TP) (Kl.enc_of HSE.out) ⟨_, _, _, _, c0, c1, c2, c3⟩ HSO.out hfs.1
          have HR27 := hide' hr27
          have HO27 := hide' ho27
          have HC27 := hide' hc27
          have HF27 := hide' hf27
          have HB27 := hide' (hb27 _ _ HNE.out.2.2.2.1 HB26.out)
          have HE27 := hide' hW27
          have HS27 : Hid (TP < W27.heap.size ∧ TU < W27.heap.size) := by
           have h1 := HW26.out.size
           have h2 : W27.heap.size = w26.heap.size := by rw [← hW27]; simp [World.setCell]
           have h3 := HNE.out.2.2.2.2.2
           exact ⟨by omega, by omega⟩
          clear K hb hfs hW27 hr27 ho27 hc27 hf27 hb27 hk27 HB25 HW25
          go_upto_region 25 with fail
          rw [HE27.out]
          obtain ⟨z0, z1, z2, z3, z4, z5, z6, z7, z8, z9, z10, z11⟩ := HCB.out W27 HB27.out
          clear c0 c1 c2 c3 c4 z4 z5 z6 z7 z8 z9 z10 z11 hz26
          go_wp2_with fail
          refine (CTX2.out W27 (HUA.out _ HB27.out)).mono ?_
          rintro e w28 ⟨u, uo, uv, un, up, ku, uc, rfl, HUE, HUO, HUC, HUF, hb⟩
          have HB28 := hide' (HB27.out.trans (hb.out.mono HB27.out.size))
          have HW28 := hide' hb.out
          clear hb z0 z1 z2 z3 HUF
          go_wp2_with fail
          refine (CU.out w28 (HUA.out _ HB28.out)).mono ?_
          rintro e w29 ⟨pt, ct', rfl, HT, hb⟩
          have HB29 := hide' (HB28.out.trans (hb.out.mono HB28.out.size))
          have HW29 := hide' (HW28.out.trans (hb.out.mono HW28.out.size))
          have K := hide' (YT4.out u w29 _ (HUO.out.below hb.out) HUC.out HT.out)
          rw [HUE.out] at K
          clear hb HT HUE HUO HUC HB28 HW28
          go_wp2_with fail
          refine K.out.mono ?_
          rintro e w30 ⟨j, jo, jv, jn, jp, kj, jc, rfl, HJE, HJO, HJC, HJF, hb⟩
          have HB30 := hide' (HB29.out.trans (hb.out.mono HB29.out.size))
          have HW30 := hide' (HW29.out.trans (hb.out.mono HW29.out.size))
          have hz30 : TU < w30.heap.size := Nat.lt_of_lt_of_le HS27.out.2 HW30.out.size
          have hfj : TU ∉ Kl.fp j := fun h => by have h1 := HJF.out _ h; have h2 := HW29.out.size; have h3 := HS27.out.2; omega
          have hu : ∀ o, w30.cell? ⟨TU, o, none⟩ = w26.cell? ⟨TU, o, none⟩ := fun o => (HW30.out.cell (p := ⟨TU, o, none⟩) HS27.out.2).trans (HC27.out TU o (Ne.symm HNE.out.2.2.1))
          obtain ⟨k0, k1, k2, k3⟩ := HMB.out w26 HW26.out
          have c0 := (hu 0).trans k0
          have c1 := (hu 1).trans k1
          have c2 := (hu 2).trans k2
          have c3 := (hu 3).trans k3
          have c4 : ∀ o, w30.frozen? ⟨TU, o, none⟩ = false := fun o => ((HW30.out.frozen (p := ⟨TU, o, none⟩) HS27.out.2).trans (HF27.out TU o (Ne.symm HNE.out.2.2.1))).trans ((HW26.out.frozen (p := ⟨TU, o, none⟩) HNE.out.2.2.2.2.2.2).trans (HFU1.out o))
          obtain ⟨W31, hW31, hr31, ho31, hc31, hf31, hb31, hk31⟩ := Kl.put_all (T := TU) (Kl.enc_of HJE.out) ⟨_, _, _, _, c0, c1, c2, c3⟩ HJO.out hfj
          have HB31 := hide' (hb31 _ _ HNE.out.2.2.2.2.1 HB30.out)
          have HE31 := hide' hW31
          have HK31 := hide' (klSame s j W31 (by rw [HSC.out, HJC.out]) (hk31 s (HO27.out.below HW30.out) HFS.out.2) ho31)
          rw [HSE.out, HJE.out] at HK31
          have HC31 : Hid (W31.cell? ⟨TP, 0, none⟩ = some (.int .i64 so) ∧ W31.cell? ⟨TP, 1, none⟩ = some (.int .i64 sv) ∧ W31.cell? ⟨TP, 2, none⟩ = some (.int .i64 sn) ∧ W31.cell? ⟨TP, 3, none⟩ = some (.slice sp ks sc)) := by
           have e : ∀ o, W31.cell? ⟨TP, o, none⟩ = W27.cell? ⟨TP, o, none⟩ := fun o => (hc31 TP o HNE.out.2.2.1).trans (HW30.out.cell (p := ⟨TP, o, none⟩) HS27.out.1)
           show _ ∧ _
           rw [e, e, e, e]
           exact ⟨by simpa using HR27.out 0 _ rfl, by simpa using HR27.out 1 _ rfl, by simpa using HR27.out 2 _ rfl, by simpa using HR27.out 3 _ rfl⟩
          have HD31 : Hid (W31.cell? ⟨TU, 0, none⟩ = some (.int .i64 jo) ∧ W31.cell? ⟨TU, 1, none⟩ = some (.int .i64 jv) ∧ W31.cell? ⟨TU, 2, none⟩ = some (.int .i64 jn) ∧ W31.cell? ⟨TU, 3, none⟩ = some (.slice jp kj jc)) := ⟨by simpa using hr31 0 _ rfl, by simpa using hr31 1 _ rfl, by simpa using hr31 2 _ rfl, by simpa using hr31 3 _ rfl⟩
          clear K hb hfj hu k0 k1 k2 k3 hW31 hr31 ho31 hc31 hf31 hb31 hk31 HB29 HW29
          go_upto_region 26 with fail
          rw [HE31.out]
          clear c0 c1 c2 c3 c4 hz30
          obtain ⟨c0, c1, c2, c3⟩ := HC31.out
          obtain ⟨d0, d1, d2, d3⟩ := HD31.out
          go_wp2_with fail
          refine HK31.out.mono ?_
          rintro e w32 ⟨rfl, hg⟩
          have HB32 := hide' (HB31.out.trans (hg.below.mono HB31.out.size))
          clear hg
          go_wp2_with fail
          go_ret
          exact ⟨rfl, HUA.out _ HB32.out⟩
end Go.Proofs.Ytipnhfnjoaoceaa
