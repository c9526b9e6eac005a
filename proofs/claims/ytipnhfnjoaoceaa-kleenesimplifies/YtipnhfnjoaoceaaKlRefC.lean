/-
  WALKS over gimletref14.sign, constant, Cmp.
-/
import Derived.Test.YtipnhfnjoaoceaaKlRefE
import Derived.Test.YtipnhfnjoaoceaaKlSame
namespace Go.Proofs.Ytipnhfnjoaoceaa
open Go.RowKit Go.Lib Go.Sort
namespace Kl
def sgn (n : Int) : Int := if n < 0 then -1 else if 0 < n then 1 else 0
def RcE (x y : Fv) : Prop := ∀ w, Ok w x → Ok w y → Calls Try.prog 87 #[.agg x.enc.toArray, .agg y.enc.toArray] w fun e w' => e = .returned (.int .i64 (cmpF (ct x) (ct y))) ∧ Gr w w'
theorem cmpF_facts (o v n o' v' n' : Int) (l m : List Fm) : (o < o' → cmpF (.mk o v n l) (.mk o' v' n' m) = -1) ∧ (o' < o → cmpF (.mk o v n l) (.mk o' v' n' m) = 1) ∧ (o = o' → v < v' → cmpF (.mk o v n l) (.mk o' v' n' m) = -1) ∧ (o = o' → v' < v → cmpF (.mk o v n l) (.mk o' v' n' m) = 1) ∧
    (o = o' → v = v' → n < n' → cmpF (.mk o v n l) (.mk o' v' n' m) = -1) ∧ (o = o' → v = v' → n' < n → cmpF (.mk o v n l) (.mk o' v' n' m) = 1) ∧ (o = o' → v = v' → n = n' → cmpF (.mk o v n l) (.mk o' v' n' m) = cmpL l m) := by
  have lt : ∀ a b : Int, a < b → compareInt a b = -1 := fun a b h => by unfold compareInt; rw [if_pos h]
  have gt : ∀ a b : Int, b < a → compareInt a b = 1 := fun a b h => by unfold compareInt; rw [if_neg (by omega), if_pos h]
  have eq : ∀ a b : Int, a = b → compareInt a b = 0 := fun a b h => by rw [h]; exact ci_self b
  refine ⟨fun h => ?_, fun h => ?_, fun e h => ?_, fun e h => ?_, fun e e2 h => ?_, fun e e2 h => ?_, fun e e2 e3 => ?_⟩
  · rw [cmpF, lt _ _ h]; simp [fst3]
  · rw [cmpF, gt _ _ h]; simp [fst3]
  · rw [cmpF, eq _ _ e, lt _ _ h]; simp [fst3]
  · rw [cmpF, eq _ _ e, gt _ _ h]; simp [fst3]
  · rw [cmpF, eq _ _ e, eq _ _ e2, lt _ _ h]; simp [fst3]
  · rw [cmpF, eq _ _ e, eq _ _ e2, gt _ _ h]; simp [fst3]
  · rw [cmpF, eq _ _ e, eq _ _ e2, eq _ _ e3]; simp [fst3]
end Kl
set_option maxRecDepth 100000 in
theorem klRefSign (n : Int) (w : World) : Calls Try.prog 108 #[.int .i64 n] w fun e w' => e = .returned (.int .i64 (Kl.sgn n)) ∧ w' = w := by
  have hs : Kl.sgn n = max (-1) (min 1 n) := by unfold Kl.sgn; split <;> (try split) <;> omega
  rw [hs]
  clear hs
  go_enter Try.func108, Try.ntmps108
  go_wp2
  all_goals
    go_ret
    refine ⟨?_, rfl⟩
    first | rfl | (refine Kl.ret_int ?_; omega)
set_option maxRecDepth 100000 in
set_option maxHeartbeats 4000000 in
theorem klRefCmp1 (o v n : Int) (p : Option Addr) (c : Nat) (l : List Kl.Fv) (ih : ∀ a ∈ l, ∀ b, Kl.RcE a b) (y : Kl.Fv) : Kl.RcE (.mk o v n p c l) y := by
  intro w hx hy
  have mixed : Try.prog.follows Departure.mixedOrders = true := by kernel_rfl
  obtain ⟨o', v', n', p', c', m⟩ := y
  obtain ⟨x1, x2, x3⟩ := hx.row
  obtain ⟨y1, y2, y3⟩ := hy.row
  obtain ⟨k1, hk1⟩ : ∃ k, l.length = k := ⟨_, rfl⟩
  obtain ⟨k2, hk2⟩ : ∃ k, m.length = k := ⟨_, rfl⟩
  obtain ⟨r, hr⟩ : ∃ r, Kl.cmpF (Kl.ct (.mk o v n p c l)) (Kl.ct (.mk o' v' n' p' c' m)) = r := ⟨_, rfl⟩
  have hf := Kl.cmpF_facts o v n o' v' n' (Kl.cts l) (Kl.cts m)
  have e9 : Kl.cmpF (.mk o v n (Kl.cts l)) (.mk o' v' n' (Kl.cts m)) = r := hr
  rw [e9] at hf
  have HF := hide' hf
  clear hf e9
  simp only [Kl.Fv.enc]
  rw [hk1] at x1 x3
  rw [hk2] at y1 y3
  rw [hr, hk1, hk2]
  obtain ⟨W, hWd⟩ : ∃ W, ((w.alloc (.cells #[.int .i64 o, .int .i64 v, .int .i64 n, .slice p k1 c] 37)).alloc (.cells #[.int .i64 o', .int .i64 v', .int .i64 n', .slice p' k2 c'] 37)).alloc (.cells #[.int .i64 o, .int .i64 o', .int .i64 v, .int .i64 v', .int .i64 n, .int .i64 n'] 124) = W := ⟨_, rfl⟩
  have HGW : Hid (Kl.Gr w W) := by rw [← hWd]; exact (((Kl.Gr.refl _).alloc _).alloc _).alloc _
  have HJ : Hid (W.cell? ⟨w.heap.size, 3, none⟩ = some (.slice p k1 c)) := by show W.cell? _ = _; rw [← hWd]; (first | (rw [World.cell?_alloc_at _ _ _ _ (by simp)]; rfl) | (rw [World.cell?_alloc_past _ _ _ (by simp; try omega)]; simp))
  have HJ2 : Hid (W.cell? ⟨w.heap.size + 1, 3, none⟩ = some (.slice p' k2 c')) := by show W.cell? _ = _; rw [← hWd]; (first | (rw [World.cell?_alloc_at _ _ _ _ (by simp)]; rfl) | (rw [World.cell?_alloc_past _ _ _ (by simp; try omega)]; simp))
  have HP : Hid (W.cell? ⟨w.heap.size + 2, 0, none⟩ = some (.int .i64 o) ∧ W.cell? ⟨w.heap.size + 2, 1, none⟩ = some (.int .i64 o') ∧ W.cell? ⟨w.heap.size + 2, 2, none⟩ = some (.int .i64 v) ∧ W.cell? ⟨w.heap.size + 2, 3, none⟩ = some (.int .i64 v') ∧ W.cell? ⟨w.heap.size + 2, 4, none⟩ = some (.int .i64 n) ∧ W.cell? ⟨w.heap.size + 2, 5, none⟩ = some (.int .i64 n')) := by rw [← hWd]; refine ⟨?_, ?_, ?_, ?_, ?_, ?_⟩ <;> (first | (rw [World.cell?_alloc_at _ _ _ _ (by simp)]; rfl) | (rw [World.cell?_alloc_past _ _ _ (by simp; try omega)]; simp))
  have X3 := hide' x3
  have Y3 := hide' y3
  have K1 := hide' hk1
  have K2 := hide' hk2
  have IH := hide' ih
  have HWd := hide' hWd
  clear x3 y3 hk1 hk2 hx hy ih hr hWd
  go_enter Try.func87, Try.ntmps87
  go_wp2_with fail
  rw [HWd.out]
  go_loopw [26] (fun u wr => ∃ (i : Nat), u = .int .i64 i ∧ Hid ((i = 0) ∨ (i = 1 ∧ o = o') ∨ (i = 2 ∧ o = o' ∧ v = v') ∨ (i = 3 ∧ r = Kl.cmpL (Kl.cts l) (Kl.cts m))) ∧ Hid (Kl.Gr W wr)) (fun u _ => 3 - (RowKit.intOf u).toNat)
  case atStart => exact ⟨0, rfl, .inl rfl, Kl.Gr.refl _⟩
  case round =>
    obtain ⟨i, rfl, HI, HG⟩ := hrel
    obtain ⟨f0, f1, f2, f3, f4, f5⟩ := HP.out
    have q0 := HG.out.cell f0
    have q1 := HG.out.cell f1
    have q2 := HG.out.cell f2
    have q3 := HG.out.cell f3
    have q4 := HG.out.cell f4
    have q5 := HG.out.cell f5
    clear f0 f1 f2 f3 f4 f5
    rcases HI.out with rfl | ⟨rfl, e1⟩ | ⟨rfl, e1, e2⟩ | ⟨rfl, e1⟩
    · clear HI q2 q3 q4 q5
      rcases Int.lt_trichotomy o o' with h | h | h
      · have HR : Hid (r = -1) := HF.out.1 h
        go_wp2_with fail
        go_ret
        rw [HR.out]
        exact ⟨rfl, HGW.out.trans (HG.out.alloc _)⟩
      · have HE := hide' h
        have h1 : ¬ o < o' := by omega
        have h2 : ¬ o' < o := by omega
        clear h
        go_wp2_with fail
        go_roundw
        case rel => exact ⟨1, rfl, .inr (.inl ⟨rfl, HE.out⟩), HG.out.alloc _⟩
        case measure => simp [RowKit.intOf]
      · have HR : Hid (r = 1) := HF.out.2.1 h
        have h1 : ¬ o < o' := by omega
        go_wp2_with fail
        go_ret
        rw [HR.out]
        exact ⟨rfl, HGW.out.trans (HG.out.alloc _)⟩
    · clear HI q0 q1 q4 q5
      have HE1 := hide' e1
      clear e1
      rcases Int.lt_trichotomy v v' with h | h | h
      · have HR : Hid (r = -1) := HF.out.2.2.1 HE1.out h
        go_wp2_with fail
        go_ret
        rw [HR.out]
        exact ⟨rfl, HGW.out.trans (HG.out.alloc _)⟩
      · have HE := hide' h
        have h1 : ¬ v < v' := by omega
        have h2 : ¬ v' < v := by omega
        clear h
        go_wp2_with fail
        go_roundw
        case rel => exact ⟨2, rfl, .inr (.inr (.inl ⟨rfl, HE1.out, HE.out⟩)), HG.out.alloc _⟩
        case measure => simp [RowKit.intOf]
      · have HR : Hid (r = 1) := HF.out.2.2.2.1 HE1.out h
        have h1 : ¬ v < v' := by omega
        go_wp2_with fail
        go_ret
        rw [HR.out]
        exact ⟨rfl, HGW.out.trans (HG.out.alloc _)⟩
    · clear HI q0 q1 q2 q3
      have HE1 := hide' e1
      have HE2 := hide' e2
      clear e1 e2
      rcases Int.lt_trichotomy n n' with h | h | h
      · have HR : Hid (r = -1) := HF.out.2.2.2.2.1 HE1.out HE2.out h
        go_wp2_with fail
        go_ret
        rw [HR.out]
        exact ⟨rfl, HGW.out.trans (HG.out.alloc _)⟩
      · have HE : Hid (r = Kl.cmpL (Kl.cts l) (Kl.cts m)) := HF.out.2.2.2.2.2.2 HE1.out HE2.out h
        have h1 : ¬ n < n' := by omega
        have h2 : ¬ n' < n := by omega
        clear h
        go_wp2_with fail
        go_roundw
        case rel => exact ⟨3, rfl, .inr (.inr (.inr ⟨rfl, HE.out⟩)), HG.out.alloc _⟩
        case measure => simp [RowKit.intOf]
      · have HR : Hid (r = 1) := HF.out.2.2.2.2.2.1 HE1.out HE2.out h
        have h1 : ¬ n < n' := by omega
        go_wp2_with fail
        go_ret
        rw [HR.out]
        exact ⟨rfl, HGW.out.trans (HG.out.alloc _)⟩
    · clear HI q0 q1 q2 q3 q4 q5 HF HP
      have HR : Hid (Kl.cmpL (Kl.cts (l.drop 0)) (Kl.cts (m.drop 0)) = r) := e1.symm
      clear e1
      rw [show ((3 : Nat) : Int) = 3 from rfl]
      go_wp2_with fail
      go_loopw [7] (fun z w2 => ∃ i : Nat, z = .int .i64 i ∧ i ≤ k1 ∧ i ≤ k2 ∧ Hid (Kl.cmpL (Kl.cts (l.drop i)) (Kl.cts (m.drop i)) = r) ∧ Hid (Kl.Gr W w2)) (fun z _ => k1 - (RowKit.intOf z).toNat)
      case atStart => exact ⟨0, rfl, Nat.zero_le _, Nat.zero_le _, HR, HG⟩
      case round =>
        clear HR HG
        obtain ⟨i, rfl, hi1, hi2, HI, HG⟩ := hrel
        have s0 := HG.out.cell HJ.out
        have s1 := HG.out.cell HJ2.out
        have CS := hide' (fun w' => klRefSign ((k1 : Int) - k2) w')
        have HGF : Hid (Kl.Gr w wr) := HGW.out.trans HG.out
        by_cases hlt : i < k1
        · have t1 : (i : Int) < (k1 : Int) := by omega
          by_cases hlt2 : i < k2
          · have t2 : (i : Int) < (k2 : Int) := by omega
            obtain ⟨b, o1, rfl, kx⟩ := X3.out (by omega)
            obtain ⟨b', o2, rfl, ky⟩ := Y3.out (by omega)
            obtain ⟨x, hx⟩ := Kl.some_of (l := l) (i := i) (by rw [K1.out]; exact hlt)
            obtain ⟨y, hy⟩ := Kl.some_of (l := m) (i := i) (by rw [K2.out]; exact hlt2)
            have hst := Kl.cmpL_step hx hy
            rw [HI.out] at hst
            obtain ⟨c1, ox⟩ := kx i x hx
            obtain ⟨c2, oy⟩ := ky i y hy
            have hc := IH.out x (List.mem_of_getElem? hx) y
            unfold Kl.RcE at hc
            obtain ⟨g, hg⟩ : ∃ g, Kl.cmpF (Kl.ct x) (Kl.ct y) = g := ⟨_, rfl⟩
            rw [hg] at hc hst
            have HST := hide' hst
            have hq := fun q os => hc (grow (wr.drewN q) os) ((HGF.out.ok ox).grown q os) ((HGF.out.ok oy).grown q os)
            obtain ⟨xo, xv, xn, xp, xc, xl⟩ := x
            obtain ⟨yo, yv, yn, yp, yc, yl⟩ := y
            obtain ⟨kx', hkx⟩ : ∃ k, xl.length = k := ⟨_, rfl⟩
            obtain ⟨ky', hky⟩ : ∃ k, yl.length = k := ⟨_, rfl⟩
            simp only [Kl.Fv.enc, hkx, hky] at hq
            have p0 := fun q os => cell_grown (block_lt_of_cell (HGF.out.cell (Kl.cells4 c1).1)) (HGF.out.cell (Kl.cells4 c1).1) q os
            have p1 := fun q os => cell_grown (block_lt_of_cell (HGF.out.cell (Kl.cells4 c1).2.1)) (HGF.out.cell (Kl.cells4 c1).2.1) q os
            have p2 := fun q os => cell_grown (block_lt_of_cell (HGF.out.cell (Kl.cells4 c1).2.2.1)) (HGF.out.cell (Kl.cells4 c1).2.2.1) q os
            have p3 := fun q os => cell_grown (block_lt_of_cell (HGF.out.cell (Kl.cells4 c1).2.2.2)) (HGF.out.cell (Kl.cells4 c1).2.2.2) q os
            have r0 := fun q os => cell_grown (block_lt_of_cell (HGF.out.cell (Kl.cells4 c2).1)) (HGF.out.cell (Kl.cells4 c2).1) q os
            have r1 := fun q os => cell_grown (block_lt_of_cell (HGF.out.cell (Kl.cells4 c2).2.1)) (HGF.out.cell (Kl.cells4 c2).2.1) q os
            have r2 := fun q os => cell_grown (block_lt_of_cell (HGF.out.cell (Kl.cells4 c2).2.2.1)) (HGF.out.cell (Kl.cells4 c2).2.2.1) q os
            have r3 := fun q os => cell_grown (block_lt_of_cell (HGF.out.cell (Kl.cells4 c2).2.2.2)) (HGF.out.cell (Kl.cells4 c2).2.2.2) q os
            simp only [hkx] at p3
            simp only [hky] at r3
            have g0 := fun q os => cell_grown (block_lt_of_cell s0) s0 q os
            have g1 := fun q os => cell_grown (block_lt_of_cell s1) s1 q os
            have HQ := hide' hq
            clear c1 c2 ox oy hx hy hkx hky hq hc kx ky X3 Y3 IH hg hst HI CS
            go_wp2_with fail
            go_quiet_grown (first | (go_at_call 87; refine Calls.grown_of (HQ.out _ _)))
            have HG2 : Hid (Kl.Gr W (grow (wr.drewN nq) osq)) := HG.out.trans ⟨nq, osq, rfl⟩
            clear p0 p1 p2 p3 r0 r1 r2 r3 s0 s1 g0 g1 HQ HG HGF
            by_cases hg0 : g = 0
            · have HI2 : Hid (Kl.cmpL (Kl.cts (l.drop (i + 1))) (Kl.cts (m.drop (i + 1))) = r) := by have := HST.out; rw [if_neg (by omega)] at this; exact this.symm
              subst hg0
              clear HST
              go_wp2_with fail
              go_roundw
              case rel => exact ⟨i + 1, by go_num, by omega, by omega, HI2, HG2⟩
              case measure => simp [RowKit.intOf]; omega
            · have b0 : (g != 0) = true := by simpa using hg0
              have HR : Hid (r = g) := by have := HST.out; rw [if_pos hg0] at this; exact this
              clear hg0 HST
              go_wp2_with fail
              go_ret
              rw [HR.out]
              exact ⟨rfl, HGW.out.trans HG2.out⟩
          · have t2 : ¬ (i : Int) < (k2 : Int) := by omega
            have hr : Kl.sgn ((k1 : Int) - k2) = r := by
              rw [← HI.out, Kl.cmpL_more (by rw [K1.out]; exact hlt) (by rw [K2.out]; omega)]
              unfold Kl.sgn
              rw [if_neg (by omega), if_pos (by omega)]
            rw [hr] at CS
            clear hr X3 Y3 IH HI
            go_wp2_with (go_at_call 108; refine (CS.out _).mono ?_; rintro e w' ⟨rfl, rfl⟩)
            go_ret
            exact ⟨rfl, HGF.out⟩
        · have t1 : ¬ (i : Int) < (k1 : Int) := by omega
          have hr : Kl.sgn ((k1 : Int) - k2) = r := by
            rw [← HI.out]
            by_cases hlt2 : i < k2
            · rw [Kl.cmpL_less (by rw [K1.out]; omega) (by rw [K2.out]; exact hlt2)]
              unfold Kl.sgn
              rw [if_pos (by omega)]
            · rw [Kl.cmpL_end (by rw [K1.out]; omega) (by rw [K2.out]; omega)]
              unfold Kl.sgn
              rw [if_neg (by omega), if_neg (by omega)]
          rw [hr] at CS
          clear hr X3 Y3 IH HI
          go_wp2_with (go_at_call 108; refine (CS.out _).mono ?_; rintro e w' ⟨rfl, rfl⟩)
          go_ret
          exact ⟨rfl, HGF.out⟩
theorem klRefCmp : ∀ x y : Kl.Fv, Kl.RcE x y := Kl.Fv.ind fun o v n p c l ih y => klRefCmp1 o v n p c l ih y
set_option maxRecDepth 100000 in
theorem klRefConst (v : Int) (w : World) : Calls Try.prog 50 #[.int .i64 v] w fun e w' => e = .returned (.agg #[.int .i64 0, .int .i64 v, .int .i64 0, .slice none 0 0]) ∧ Below w.heap.size w w' := by
  go_enter Try.func50, Try.ntmps50
  go_wp2
  exact bodyPost_ret (v := .agg #[.int .i64 0, .int .i64 v, .int .i64 0, .slice none 0 0]) (by simp [results, Try.results50, go_sem]) rfl ⟨rfl, (Below.refl _ _).alloc (Nat.le_refl _) _⟩
end Go.Proofs.Ytipnhfnjoaoceaa
