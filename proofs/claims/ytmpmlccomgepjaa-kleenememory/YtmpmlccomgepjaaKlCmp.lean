/-
  WALKS over slices.CompareFunc, kleene.compared, kleene.isEqual.
-/
import Derived.Test.YtmpmlccomgepjaaKlLeaf
import Derived.Deep.RegionHeld
namespace Go.Proofs.Ytmpmlccomgepjaa
open Go.RowKit Go.Lib Go.Sort
namespace Kl
/-- what compared answers of these two -/
def CmpOf (x y : Fv) : Prop := ∀ w, Ok w x → Ok w y → Calls Try.prog 27 #[.agg x.enc.toArray, .agg y.enc.toArray] w fun e w' => e = .returned (.int .i64 (cmpF (ct x) (ct y))) ∧ Gr w w'
theorem cmpL_step {l m : List Fv} {i : Nat} {x y : Fv} (hx : l[i]? = some x) (hy : m[i]? = some y) :
    cmpL (cts (l.drop i)) (cts (m.drop i)) = if cmpF (ct x) (ct y) ≠ 0 then cmpF (ct x) (ct y) else cmpL (cts (l.drop (i + 1))) (cts (m.drop (i + 1))) := by
  rw [List.drop_eq_getElem_cons (List.getElem?_eq_some_iff.1 hx).1, List.drop_eq_getElem_cons (List.getElem?_eq_some_iff.1 hy).1, (List.getElem?_eq_some_iff.1 hx).2, (List.getElem?_eq_some_iff.1 hy).2]
  simp only [cts]
  rw [cmpL]
theorem cmpL_more {l m : List Fv} {i : Nat} (h1 : i < l.length) (h2 : m.length ≤ i) : cmpL (cts (l.drop i)) (cts (m.drop i)) = 1 := by
  rw [List.drop_eq_getElem_cons h1, List.drop_eq_nil_of_le h2]
  simp [cts, cmpL]
theorem cmpL_less {l m : List Fv} {i : Nat} (h1 : l.length ≤ i) (h2 : i < m.length) : cmpL (cts (l.drop i)) (cts (m.drop i)) = -1 := by
  rw [List.drop_eq_getElem_cons h2, List.drop_eq_nil_of_le h1]
  simp [cts, cmpL]
theorem cmpL_end {l m : List Fv} {i : Nat} (h1 : l.length ≤ i) (h2 : m.length ≤ i) : cmpL (cts (l.drop i)) (cts (m.drop i)) = 0 := by
  rw [List.drop_eq_nil_of_le h1, List.drop_eq_nil_of_le h2]
  simp [cts, cmpL]
end Kl
set_option maxRecDepth 100000 in
set_option maxHeartbeats 2000000 in
theorem klCompareFunc (o v n o' v' n' : Int) (p q : Option Addr) (c d : Nat) (l m : List Kl.Fv) (w : World) (hx : Kl.Ok w (.mk o v n p c l)) (hy : Kl.Ok w (.mk o' v' n' q d m)) (ih : ∀ a ∈ l, ∀ b, Kl.CmpOf a b) :
    Calls Try.prog 45 #[.slice p l.length c, .slice q m.length d, .func (.func 27) #[] #[]] w fun e w' => e = .returned (.int .i64 (Kl.cmpL (Kl.cts l) (Kl.cts m))) ∧ Kl.Gr w w' := by
  have eg : ∀ args w, (callFunc 27 args).run Try.prog w = .ok (.enter 27 args) w := enters_of Try.func27 (by kernel_rfl) rfl
  obtain ⟨x1, x2, x3⟩ := hx.row
  obtain ⟨y1, y2, y3⟩ := hy.row
  obtain ⟨k1, hk1⟩ : ∃ k, l.length = k := ⟨_, rfl⟩
  obtain ⟨k2, hk2⟩ : ∃ k, m.length = k := ⟨_, rfl⟩
  obtain ⟨r, hr⟩ : ∃ r, Kl.cmpL (Kl.cts l) (Kl.cts m) = r := ⟨_, rfl⟩
  rw [hk1] at x1 x3
  rw [hk2] at y1 y3
  rw [hk1, hk2, hr]
  have HR : Hid (Kl.cmpL (Kl.cts (l.drop 0)) (Kl.cts (m.drop 0)) = r) := hr
  have X3 := hide' x3
  have Y3 := hide' y3
  have K1 := hide' hk1
  have K2 := hide' hk2
  have IH := hide' ih
  clear x3 y3 hk1 hk2 hx hy ih hr
  go_enter Try.func45, Try.ntmps45
  go_wp2_with fail
  go_loopw [13] (fun z wr => ∃ i : Nat, z = .int .i64 i ∧ i ≤ k1 ∧ i ≤ k2 ∧ Hid (Kl.cmpL (Kl.cts (l.drop i)) (Kl.cts (m.drop i)) = r) ∧ Hid (Kl.Gr w wr)) (fun z _ => k1 - (RowKit.intOf z).toNat)
  case atStart => exact ⟨0, rfl, Nat.zero_le _, Nat.zero_le _, HR, Kl.Gr.refl _⟩
  case round =>
    clear HR
    obtain ⟨i, rfl, hi1, hi2, HI, HG⟩ := hrel
    by_cases hlt : i < k1
    · have t1 : (i : Int) < (k1 : Int) := by omega
      obtain ⟨b, o1, rfl, kx⟩ := X3.out (by omega)
      obtain ⟨x, hx⟩ := Kl.some_of (l := l) (i := i) (by rw [K1.out]; exact hlt)
      obtain ⟨rx, ox⟩ := kx i x hx
      have HMX : Hid (x ∈ l) := List.mem_of_getElem? hx
      by_cases hlt2 : i < k2
      · have t2 : (i : Int) < (k2 : Int) := by omega
        obtain ⟨b2, o2, rfl, ky⟩ := Y3.out (by omega)
        obtain ⟨y, hy⟩ := Kl.some_of (l := m) (i := i) (by rw [K2.out]; exact hlt2)
        obtain ⟨ry, oy⟩ := ky i y hy
        have hst := Kl.cmpL_step hx hy
        have HST := hide' hst
        have HC := hide' (IH.out x HMX.out y)
        have HOX := hide' ox
        have HOY := hide' oy
        obtain ⟨g, hg⟩ : ∃ g, Kl.cmpF (Kl.ct x) (Kl.ct y) = g := ⟨_, rfl⟩
        unfold Kl.CmpOf at HC
        rw [hg] at HC HST
        obtain ⟨xo, xv, xn, xp, xc, xl⟩ := x
        obtain ⟨yo, yv, yn, yp, yc, yl⟩ := y
        obtain ⟨a0, a1, a2, a3⟩ := Kl.cells4 rx
        obtain ⟨b0, b1, b2', b3⟩ := Kl.cells4 ry
        have q0 := HG.out.cell a0
        have q1 := HG.out.cell a1
        have q2 := HG.out.cell a2
        have q3 := HG.out.cell a3
        have s0 := (HG.out.alloc (.cells #[.int .i64 xo, .int .i64 xv, .int .i64 xn, .slice xp xl.length xc] 26)).cell b0
        have s1 := (HG.out.alloc (.cells #[.int .i64 xo, .int .i64 xv, .int .i64 xn, .slice xp xl.length xc] 26)).cell b1
        have s2 := (HG.out.alloc (.cells #[.int .i64 xo, .int .i64 xv, .int .i64 xn, .slice xp xl.length xc] 26)).cell b2'
        have s3 := (HG.out.alloc (.cells #[.int .i64 xo, .int .i64 xv, .int .i64 xn, .slice xp xl.length xc] 26)).cell b3
        obtain ⟨kx', hkx⟩ : ∃ k, xl.length = k := ⟨_, rfl⟩
        obtain ⟨ky', hky⟩ : ∃ k, yl.length = k := ⟨_, rfl⟩
        simp only [Kl.Fv.enc, hkx, hky] at HC q3 s0 s1 s2 s3
        clear hx hy rx ry ox oy kx ky X3 Y3 hst hg a0 a1 a2 a3 b0 b1 b2' b3 hkx hky IH HMX
        by_cases hz : g = 0
        · have hzb : (g != 0) = false := by simpa using hz
          have HZ := hide' hz
          clear hz
          go_wp2_with (go_at_fn 27; go_loud (refine (HC.out _ (((HG.out.alloc _).alloc _).ok HOX.out) (((HG.out.alloc _).alloc _).ok HOY.out)).mono ?_); rintro e w' ⟨rfl, HGr⟩)
          go_roundw
          case rel => exact ⟨i + 1, by go_num, by omega, by omega, by have := HST.out; rw [if_neg (by rw [HZ.out]; simp)] at this; exact this.symm.trans HI.out, ((HG.out.alloc _).alloc _).trans HGr⟩
          case measure => simp [RowKit.intOf]; omega
        · have hzb : (g != 0) = true := by simpa using hz
          have hr : r = g := by have := HST.out; rw [if_pos hz] at this; exact HI.out.symm.trans this
          clear hz
          subst hr
          go_wp2_with (go_at_fn 27; refine (HC.out _ (((HG.out.alloc _).alloc _).ok HOX.out) (((HG.out.alloc _).alloc _).ok HOY.out)).mono ?_; rintro e w' ⟨rfl, HGr⟩)
          go_ret
          exact ⟨rfl, ((HG.out.alloc _).alloc _).trans HGr⟩
      · have t2 : ¬ (i : Int) < (k2 : Int) := by omega
        have t3 : (k2 : Int) ≤ (i : Int) := by omega
        have hr : r = 1 := HI.out.symm.trans (Kl.cmpL_more (by rw [K1.out]; exact hlt) (by rw [K2.out]; omega))
        obtain ⟨xo, xv, xn, xp, xc, xl⟩ := x
        obtain ⟨a0, a1, a2, a3⟩ := Kl.cells4 rx
        have q0 := HG.out.cell a0
        have q1 := HG.out.cell a1
        have q2 := HG.out.cell a2
        have q3 := HG.out.cell a3
        obtain ⟨kx', hkx⟩ : ∃ k, xl.length = k := ⟨_, rfl⟩
        simp only [hkx] at q3
        clear hx rx ox kx X3 Y3 a0 a1 a2 a3 hkx IH HMX HI
        subst hr
        go_wp2_with fail
        go_ret
        exact ⟨rfl, HG.out.alloc _⟩
    · have t1 : ¬ (i : Int) < (k1 : Int) := by omega
      obtain rfl : i = k1 := by omega
      by_cases hlt2 : i < k2
      · have t2 : (i : Int) < (k2 : Int) := by omega
        have hr : r = -1 := HI.out.symm.trans (Kl.cmpL_less (by rw [K1.out]; omega) (by rw [K2.out]; exact hlt2))
        subst hr
        clear X3 Y3 IH HI
        go_wp2_with fail
        go_ret
        exact ⟨rfl, HG.out⟩
      · have t2 : ¬ (i : Int) < (k2 : Int) := by omega
        have hr : r = 0 := HI.out.symm.trans (Kl.cmpL_end (by rw [K1.out]; omega) (by rw [K2.out]; omega))
        subst hr
        clear X3 Y3 IH HI
        go_wp2_with fail
        go_ret
        exact ⟨rfl, HG.out⟩
set_option maxRecDepth 100000 in
set_option maxHeartbeats 2000000 in
theorem klCompared1 (xo xv xn yo yv yn : Int) (xp yp : Option Addr) (xc yc : Nat) (xl yl : List Kl.Fv) (ih : ∀ a ∈ xl, ∀ b, Kl.CmpOf a b) : Kl.CmpOf (.mk xo xv xn xp xc xl) (.mk yo yv yn yp yc yl) := by
  intro w hx hy
  have cF := fun w' (g : Kl.Gr w w') => klCompareFunc xo xv xn yo yv yn xp yp xc yc xl yl w' (g.ok hx) (g.ok hy) ih
  have c1 := fun w' => klCmpOp xo yo w'
  have c2 := fun w' => klCmpTr xv yv w'
  have c3 := fun w' => klCmpInt xn yn w'
  obtain ⟨g1, hg1⟩ : ∃ g, compareInt xo yo = g := ⟨_, rfl⟩
  obtain ⟨g2, hg2⟩ : ∃ g, compareInt xv yv = g := ⟨_, rfl⟩
  obtain ⟨g3, hg3⟩ : ∃ g, compareInt xn yn = g := ⟨_, rfl⟩
  have c4 := fun B k w' => klCmpOr g1 g2 g3 B k w'
  obtain ⟨g, hg⟩ : ∃ g, Kl.fst3 g1 g2 g3 = g := ⟨_, rfl⟩
  obtain ⟨h, hh⟩ : ∃ h, Kl.cmpL (Kl.cts xl) (Kl.cts yl) = h := ⟨_, rfl⟩
  obtain ⟨kx, hkx⟩ : ∃ k, xl.length = k := ⟨_, rfl⟩
  obtain ⟨ky, hky⟩ : ∃ k, yl.length = k := ⟨_, rfl⟩
  have hres : Kl.cmpF (Kl.ct (.mk xo xv xn xp xc xl)) (Kl.ct (.mk yo yv yn yp yc yl)) = if g ≠ 0 then g else h := by
    simp only [Kl.ct]
    rw [Kl.cmpF, hg1, hg2, hg3, hg, hh]
  obtain ⟨r, hr⟩ : ∃ r, (if g ≠ 0 then g else h) = r := ⟨_, rfl⟩
  rw [hres, hr]
  have HR := hide' hr
  simp only [hg1, hg2, hg3, hg, hh, hkx, hky] at c1 c2 c3 c4 cF
  simp only [Kl.Fv.enc, hkx, hky]
  have C1 := hide' c1
  have C2 := hide' c2
  have C3 := hide' c3
  have C4 := hide' c4
  have CF := hide' cF
  clear c1 c2 c3 c4 cF hg1 hg2 hg3 hg hh hkx hky hres ih hx hy hr
  go_enter Try.func27, Try.ntmps27
  go_wp2_with fail
  generalize hW : (w.alloc (.cells #[.int .i64 xo, .int .i64 xv, .int .i64 xn, .slice xp kx xc] 26)).alloc (.cells #[.int .i64 yo, .int .i64 yv, .int .i64 yn, .slice yp ky yc] 26) = W
  have HG : Hid (Kl.Gr w W) := by rw [← hW]; exact ((Kl.Gr.refl w).alloc _).alloc _
  have xx : W.drew.cell? ⟨w.heap.size, 0, none⟩ = some (.int .i64 xo) ∧ W.drew.cell? ⟨w.heap.size, 1, none⟩ = some (.int .i64 xv) ∧ W.drew.cell? ⟨w.heap.size, 2, none⟩ = some (.int .i64 xn) ∧ W.drew.cell? ⟨w.heap.size + 1, 0, none⟩ = some (.int .i64 yo) ∧ W.drew.cell? ⟨w.heap.size + 1, 1, none⟩ = some (.int .i64 yv) ∧ W.drew.cell? ⟨w.heap.size + 1, 2, none⟩ = some (.int .i64 yn) := by rw [← hW]; refine ⟨?_, ?_, ?_, ?_, ?_, ?_⟩ <;> simp
  have x3 : W.cell? ⟨w.heap.size, 3, none⟩ = some (.slice xp kx xc) := by rw [← hW]; simp
  have y3 : W.cell? ⟨w.heap.size + 1, 3, none⟩ = some (.slice yp ky yc) := by rw [← hW]; simp
  have zz : (W.alloc (.cells #[.int .i64 g1, .int .i64 g2, .int .i64 g3] 3)).drew.cell? ⟨w.heap.size, 0, none⟩ = some (.int .i64 xo) ∧ (W.alloc (.cells #[.int .i64 g1, .int .i64 g2, .int .i64 g3] 3)).drew.cell? ⟨w.heap.size, 1, none⟩ = some (.int .i64 xv) ∧ (W.alloc (.cells #[.int .i64 g1, .int .i64 g2, .int .i64 g3] 3)).drew.cell? ⟨w.heap.size, 2, none⟩ = some (.int .i64 xn) ∧ (W.alloc (.cells #[.int .i64 g1, .int .i64 g2, .int .i64 g3] 3)).drew.cell? ⟨w.heap.size + 1, 0, none⟩ = some (.int .i64 yo) ∧ (W.alloc (.cells #[.int .i64 g1, .int .i64 g2, .int .i64 g3] 3)).drew.cell? ⟨w.heap.size + 1, 1, none⟩ = some (.int .i64 yv) ∧ (W.alloc (.cells #[.int .i64 g1, .int .i64 g2, .int .i64 g3] 3)).drew.cell? ⟨w.heap.size + 1, 2, none⟩ = some (.int .i64 yn) := by
    have hk : ∀ {a : Addr} {u}, W.cell? a = some u → (W.alloc (.cells #[.int .i64 g1, .int .i64 g2, .int .i64 g3] 3)).drew.cell? a = some u := fun h => ((Kl.Gr.refl W).alloc _).drew.cell h
    obtain ⟨a1, a2, a3, a4, a5, a6⟩ := xx
    exact ⟨hk a1, hk a2, hk a3, hk a4, hk a5, hk a6⟩
  have X3 := hide' x3
  have Y3 := hide' y3
  clear hW x3 y3
  go_region_held (fun w' => w'.cell? ⟨w.heap.size, 0, none⟩ = some (.int .i64 xo) ∧ w'.cell? ⟨w.heap.size, 1, none⟩ = some (.int .i64 xv) ∧ w'.cell? ⟨w.heap.size, 2, none⟩ = some (.int .i64 xn) ∧ w'.cell? ⟨w.heap.size + 1, 0, none⟩ = some (.int .i64 yo) ∧ w'.cell? ⟨w.heap.size + 1, 1, none⟩ = some (.int .i64 yv) ∧ w'.cell? ⟨w.heap.size + 1, 2, none⟩ = some (.int .i64 yn)) (first | (with_reducible exact xx) | (with_reducible exact zz)) (first | (go_at_call 42; refine (C1.out _).mono ?_; rintro e w' ⟨rfl, rfl⟩) | (go_at_call 43; refine (C2.out _).mono ?_; rintro e w' ⟨rfl, rfl⟩) | (go_at_call 44; refine (C3.out _).mono ?_; rintro e w' ⟨rfl, rfl⟩) | (go_at_call 41; refine (C4.out _ _ _ (by simp) (by simp) (by simp)).mono ?_; rintro e w' ⟨rfl, rfl⟩))
  all_goals
    have HG2 : Hid (Kl.Gr w (W.alloc (.cells #[.int .i64 g1, .int .i64 g2, .int .i64 g3] 3)).drew) := (HG.out.alloc _).drew
    have x3 := ((Kl.Gr.refl W).alloc (.cells #[.int .i64 g1, .int .i64 g2, .int .i64 g3] 3)).drew.cell X3.out
    have y3 := ((Kl.Gr.refl W).alloc (.cells #[.int .i64 g1, .int .i64 g2, .int .i64 g3] 3)).drew.cell Y3.out
    clear xx zz X3 Y3 C1 C2 C3 C4 HG
    by_cases hz : g = 0
    · have hzb : (g != 0) = false := by simpa using hz
      have HRg : Hid (h = r) := by have := HR.out; rw [if_neg (by simp [hz])] at this; exact this
      clear hz HR
      go_wp2_with (go_at_call 45; refine (CF.out _ HG2.out).mono ?_; rintro e w' ⟨rfl, HGr⟩)
      go_ret
      exact ⟨Kl.ret_int HRg.out, HG2.out.trans HGr⟩
    · have hzb : (g != 0) = true := by simpa using hz
      have HRg : Hid (g = r) := by have := HR.out; rw [if_pos hz] at this; exact this
      clear hz CF HR
      go_wp2_with fail
      go_ret
      exact ⟨Kl.ret_int HRg.out, HG2.out⟩
theorem klCompared : ∀ x y : Kl.Fv, Kl.CmpOf x y := Kl.Fv.ind fun xo xv xn xp xc xl ih y => by
  obtain ⟨yo, yv, yn, yp, yc, yl⟩ := y
  exact klCompared1 xo xv xn yo yv yn xp yp xc yc xl yl ih
set_option maxRecDepth 100000 in
theorem klIsEqual (x y : Kl.Fv) (w : World) (hx : Kl.Ok w x) (hy : Kl.Ok w y) : Calls Try.prog 29 #[.agg x.enc.toArray, .agg y.enc.toArray] w fun e w' => e = .returned (.bool (decide (Kl.cmpF (Kl.ct x) (Kl.ct y) = 0))) ∧ Kl.Gr w w' := by
  have cC := fun w' (g : Kl.Gr w w') => klCompared x y w' (g.ok hx) (g.ok hy)
  obtain ⟨g, hg⟩ : ∃ g, Kl.cmpF (Kl.ct x) (Kl.ct y) = g := ⟨_, rfl⟩
  rw [hg] at cC ⊢
  obtain ⟨xo, xv, xn, xp, xc, xl⟩ := x
  obtain ⟨yo, yv, yn, yp, yc, yl⟩ := y
  obtain ⟨kx, hkx⟩ : ∃ k, xl.length = k := ⟨_, rfl⟩
  obtain ⟨ky, hky⟩ : ∃ k, yl.length = k := ⟨_, rfl⟩
  simp only [Kl.Fv.enc, hkx, hky] at cC ⊢
  have CC := hide' cC
  clear cC hg hkx hky hx hy
  by_cases hz : g = 0
  · rw [decide_eq_true hz]
    have hzb : (g == 0) = true := by simpa using hz
    clear hz
    go_enter Try.func29, Try.ntmps29
    go_wp2_with (go_at_call 27; refine (CC.out _ (((Kl.Gr.refl w).alloc _).alloc _)).mono ?_; rintro e w' ⟨rfl, HGr⟩)
    go_ret
    exact ⟨rfl, (((Kl.Gr.refl w).alloc _).alloc _).trans HGr⟩
  · rw [decide_eq_false hz]
    have hzb : (g == 0) = false := by simpa using hz
    clear hz
    go_enter Try.func29, Try.ntmps29
    go_wp2_with (go_at_call 27; refine (CC.out _ (((Kl.Gr.refl w).alloc _).alloc _)).mono ?_; rintro e w' ⟨rfl, HGr⟩)
    go_ret
    exact ⟨rfl, (((Kl.Gr.refl w).alloc _).alloc _).trans HGr⟩
end Go.Proofs.Ytmpmlccomgepjaa
