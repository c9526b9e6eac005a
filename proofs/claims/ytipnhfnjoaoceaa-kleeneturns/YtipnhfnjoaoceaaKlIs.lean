/-
  THE WALK over gimletref14.Is (gen_is.py).
-/
import Derived.Test.YtipnhfnjoaoceaaKlSz
import Derived.Test.YtipnhfnjoaoceaaKlChkB
import Derived.BigGuard
import Derived.BigQuiet
namespace Go.Proofs.Ytipnhfnjoaoceaa
open Go.RowKit Go.Lib Go.Sort
namespace Kl
mutual
/-- is it a formula? -/
def isG : Fm → Bool
  | .mk o v n l => if o = 0 then isT v && (n == 0) && (l.length == 0) else if o = 1 then (v == 0) && decide (0 ≤ n) && decide (n < 65536) && (l.length == 0)
    else if o = 2 ∨ o = 3 then (v == 0) && (n == 0) && areG l else if o = 4 then (v == 0) && (n == 0) && (l.length == 1) && areG l else false
def areG : List Fm → Bool
  | [] => true
  | a :: l => isG a && areG l
end
mutual
theorem isF_isG : ∀ (f : Fm) (r : Nat), sz f ≤ r → isF f r = isG f
  | .mk o v n l, r, h => by
    rw [sz] at h
    rw [isF, isG, if_neg (by omega), areF_areG l (r - 1) (by omega)]
theorem areF_areG : ∀ (l : List Fm) (r : Nat), szs l ≤ r → areF l r = areG l
  | [], r, _ => by rw [areF, areG]
  | a :: l, r, h => by
    rw [szs] at h
    rw [areF, areG, isF_isG a r (by omega), areF_areG l r (by omega)]
end
def IsR (x : Fv) : Prop := ∀ w, Ok w x → Calls Try.prog 24 #[.agg x.enc.toArray] w fun e w' => e = .returned (.bool (isG (ct x))) ∧ Gr w w'
theorem areG_step {l : List Fv} {i : Nat} {x : Fv} (hx : l[i]? = some x) : areG (cts (l.drop i)) = (isG (ct x) && areG (cts (l.drop (i + 1)))) := by
  rw [List.drop_eq_getElem_cons (List.getElem?_eq_some_iff.1 hx).1, (List.getElem?_eq_some_iff.1 hx).2]
  simp only [cts]
  rw [areG]
theorem areG_end {l : List Fv} {i : Nat} (h : l.length ≤ i) : areG (cts (l.drop i)) = true := by
  rw [List.drop_eq_nil_of_le h]
  simp [cts, areG]
end Kl
set_option maxRecDepth 100000 in
set_option maxHeartbeats 4000000 in
theorem klRefIs1 (xo xv xn : Int) (xp : Option Addr) (xc : Nat) (xl : List Kl.Fv) (ih : ∀ a ∈ xl, Kl.IsR a) : Kl.IsR (.mk xo xv xn xp xc xl) := by
  intro w hx
  obtain ⟨l1, l2, x3⟩ := hx.row
  obtain ⟨kx, hkx⟩ : ∃ k, xl.length = k := ⟨_, rfl⟩
  obtain ⟨ta, hta⟩ : ∃ t, Kl.areG (Kl.cts xl) = t := ⟨_, rfl⟩
  obtain ⟨z, hz⟩ : ∃ z, Kl.isG (Kl.ct (.mk xo xv xn xp xc xl)) = z := ⟨_, rfl⟩
  have hz' := hz
  simp only [Kl.ct] at hz'
  rw [Kl.isG, Kl.cts_len, hkx, hta] at hz'
  rw [hz]
  simp only [Kl.Fv.enc, hkx]
  rw [hkx] at l1 x3
  have HR : Hid (Kl.areG (Kl.cts (xl.drop 0)) = ta) := hta
  have X3 := hide' x3
  have K1 := hide' hkx
  have IH := hide' ih
  clear x3 hkx hx ih hz hta
  by_cases e0 : xo = 0
  · subst e0
    rw [if_pos rfl] at hz'
    by_cases g1 : 0 ≤ xv
    · by_cases g2 : xv ≤ 2
      · by_cases g3 : xn = 0
        · subst g3
          by_cases g4 : kx = 0
          · subst g4
            have HZ : Hid (true = z) := by show _ = z; refine Eq.trans ?_ hz'; clear hz'; first | rfl | (simp; done) | (simp; omega) | (simp [Kl.isT]; omega) | (simp [*]; done)
            clear hz' X3 IH HR 
            go_enter Try.func24, Try.ntmps24
            go_wp2_with fail
            go_region
            all_goals go_wp2_with fail
            all_goals go_ret
            all_goals exact ⟨Kl.ret_bool HZ.out, ((Kl.Gr.refl w).alloc _).drew⟩
          · have fg4 : ((kx : Int) == 0) = false := by simp; omega
            have ng4 : ((kx : Int) != 0) = true := by simp; omega
            have HZ : Hid (false = z) := by show _ = z; refine Eq.trans ?_ hz'; clear hz'; first | rfl | (simp; done) | (simp; omega) | (simp [Kl.isT]; omega) | (simp [*]; done)
            clear hz' X3 IH HR g4
            go_enter Try.func24, Try.ntmps24
            go_wp2_with fail
            go_region
            all_goals go_wp2_with fail
            all_goals go_ret
            all_goals exact ⟨Kl.ret_bool HZ.out, ((Kl.Gr.refl w).alloc _).drew⟩
        · have fg3 : ((xn : Int) == 0) = false := by simp; omega
          have ng3 : ((xn : Int) != 0) = true := by simp; omega
          have HZ : Hid (false = z) := by show _ = z; refine Eq.trans ?_ hz'; clear hz'; first | rfl | (simp; done) | (simp; omega) | (simp [Kl.isT]; omega) | (simp [*]; done)
          clear hz' X3 IH HR g3
          go_enter Try.func24, Try.ntmps24
          go_wp2_with fail
          go_region
          all_goals go_wp2_with fail
          all_goals go_ret
          all_goals exact ⟨Kl.ret_bool HZ.out, ((Kl.Gr.refl w).alloc _).drew⟩
      · have fg2 : 2 < xv := by omega
        have HZ : Hid (false = z) := by show _ = z; refine Eq.trans ?_ hz'; clear hz'; first | rfl | (simp; done) | (simp; omega) | (simp [Kl.isT]; omega) | (simp [*]; done)
        clear hz' X3 IH HR g2
        go_enter Try.func24, Try.ntmps24
        go_wp2_with fail
        go_region
        all_goals go_wp2_with fail
        all_goals go_ret
        all_goals exact ⟨Kl.ret_bool HZ.out, ((Kl.Gr.refl w).alloc _).drew⟩
    · have fg1 : xv < 0 := by omega
      have HZ : Hid (false = z) := by show _ = z; refine Eq.trans ?_ hz'; clear hz'; first | rfl | (simp; done) | (simp; omega) | (simp [Kl.isT]; omega) | (simp [*]; done)
      clear hz' X3 IH HR g1
      go_enter Try.func24, Try.ntmps24
      go_wp2_with fail
      go_region
      all_goals go_wp2_with fail
      all_goals go_ret
      all_goals exact ⟨Kl.ret_bool HZ.out, ((Kl.Gr.refl w).alloc _).drew⟩
  rw [if_neg e0] at hz'
  have b0 : (xo == 0) = false := by simpa using e0
  by_cases e1 : xo = 1
  · subst e1
    rw [if_pos rfl] at hz'
    clear e0 b0
    by_cases g1 : xv = 0
    · subst g1
      by_cases g2 : 0 ≤ xn
      · by_cases g3 : xn < 65536
        · by_cases g4 : kx = 0
          · subst g4
            have HZ : Hid (true = z) := by show _ = z; refine Eq.trans ?_ hz'; clear hz'; first | rfl | (simp; done) | (simp; omega) | (simp [Kl.isT]; omega) | (simp [*]; done)
            clear hz' X3 IH HR 
            go_enter Try.func24, Try.ntmps24
            go_wp2_with fail
            go_region
            all_goals go_wp2_with fail
            all_goals go_ret
            all_goals exact ⟨Kl.ret_bool HZ.out, ((Kl.Gr.refl w).alloc _).drew⟩
          · have fg4 : ((kx : Int) == 0) = false := by simp; omega
            have ng4 : ((kx : Int) != 0) = true := by simp; omega
            have HZ : Hid (false = z) := by show _ = z; refine Eq.trans ?_ hz'; clear hz'; first | rfl | (simp; done) | (simp; omega) | (simp [Kl.isT]; omega) | (simp [*]; done)
            clear hz' X3 IH HR g4
            go_enter Try.func24, Try.ntmps24
            go_wp2_with fail
            go_region
            all_goals go_wp2_with fail
            all_goals go_ret
            all_goals exact ⟨Kl.ret_bool HZ.out, ((Kl.Gr.refl w).alloc _).drew⟩
        · have fg3 : 65536 ≤ xn := by omega
          have HZ : Hid (false = z) := by show _ = z; refine Eq.trans ?_ hz'; clear hz'; first | rfl | (simp; done) | (simp; omega) | (simp [Kl.isT]; omega) | (simp [*]; done)
          clear hz' X3 IH HR g3
          go_enter Try.func24, Try.ntmps24
          go_wp2_with fail
          go_region
          all_goals go_wp2_with fail
          all_goals go_ret
          all_goals exact ⟨Kl.ret_bool HZ.out, ((Kl.Gr.refl w).alloc _).drew⟩
      · have fg2 : xn < 0 := by omega
        have HZ : Hid (false = z) := by show _ = z; refine Eq.trans ?_ hz'; clear hz'; first | rfl | (simp; done) | (simp; omega) | (simp [Kl.isT]; omega) | (simp [*]; done)
        clear hz' X3 IH HR g2
        go_enter Try.func24, Try.ntmps24
        go_wp2_with fail
        go_region
        all_goals go_wp2_with fail
        all_goals go_ret
        all_goals exact ⟨Kl.ret_bool HZ.out, ((Kl.Gr.refl w).alloc _).drew⟩
    · have fg1 : ((xv : Int) == 0) = false := by simp; omega
      have ng1 : ((xv : Int) != 0) = true := by simp; omega
      have HZ : Hid (false = z) := by show _ = z; refine Eq.trans ?_ hz'; clear hz'; first | rfl | (simp; done) | (simp; omega) | (simp [Kl.isT]; omega) | (simp [*]; done)
      clear hz' X3 IH HR g1
      go_enter Try.func24, Try.ntmps24
      go_wp2_with fail
      go_region
      all_goals go_wp2_with fail
      all_goals go_ret
      all_goals exact ⟨Kl.ret_bool HZ.out, ((Kl.Gr.refl w).alloc _).drew⟩
  rw [if_neg e1] at hz'
  have b1 : (xo == 1) = false := by simpa using e1
  by_cases e2 : xo = 2
  · subst e2
    rw [if_pos (.inl rfl)] at hz'
    clear e0 b0 e1 b1
    by_cases g1 : xv = 0
    · subst g1
      by_cases g2 : xn = 0
      · subst g2
        obtain rfl : ta = z := by refine Eq.trans ?_ hz'; simp
        clear hz'
        go_enter Try.func24, Try.ntmps24
        go_wp2_with fail
        go_region
        go_wp2_with fail
        go_loopw [75] (fun u wr => ∃ i : Nat, u = .int .i64 i ∧ i ≤ kx ∧ Hid (Kl.areG (Kl.cts (xl.drop i)) = ta) ∧ Hid (Kl.Gr w wr)) (fun u _ => kx - (RowKit.intOf u).toNat)
        case atStart => exact ⟨0, rfl, Nat.zero_le _, HR, ((Kl.Gr.refl _).alloc _).drew⟩
        case round =>
          clear HR
          obtain ⟨i, rfl, hi1, HI, HG⟩ := hrel
          by_cases hlt : i < kx
          · have t1 : (i : Int) < (kx : Int) := by omega
            obtain ⟨b, o1, rfl, kx⟩ := X3.out (by omega)
            obtain ⟨x, hx⟩ := Kl.some_of (l := xl) (i := i) (by rw [K1.out]; exact hlt)
            obtain ⟨rx, ox⟩ := kx i x hx
            have HST := hide' (Kl.areG_step hx)
            have HC := hide' (IH.out x (List.mem_of_getElem? hx))
            have HOX := hide' ox
            obtain ⟨g, hg⟩ : ∃ g, Kl.isG (Kl.ct x) = g := ⟨_, rfl⟩
            unfold Kl.IsR at HC
            rw [hg] at HC HST
            obtain ⟨yo, yv, yn, yp, yc, yl⟩ := x
            obtain ⟨a0, a1, a2, a3⟩ := Kl.cells4 rx
            have q0 := HG.out.cell a0
            have q1 := HG.out.cell a1
            have q2 := HG.out.cell a2
            have q3 := HG.out.cell a3
            obtain ⟨ky, hky⟩ : ∃ k, yl.length = k := ⟨_, rfl⟩
            simp only [Kl.Fv.enc, hky] at HC q3
            clear hx rx ox kx X3 hg a0 a1 a2 a3 hky IH
            cases g with
            | true =>
              go_wp2_with (go_at_call 24; refine (HC.out _ ((HG.out.alloc _).ok HOX.out)).mono ?_; rintro e w' ⟨rfl, HGr⟩)
              go_roundw
              case rel => exact ⟨i + 1, by go_num, by omega, by have := HST.out; rw [Bool.true_and] at this; exact this.symm.trans HI.out, (HG.out.alloc _).trans HGr⟩
              case measure => simp [RowKit.intOf]; omega
            | false =>
              have hz : ta = false := by have := HST.out; rw [Bool.false_and] at this; exact HI.out.symm.trans this
              subst hz
              go_wp2_with (go_at_call 24; refine (HC.out _ ((HG.out.alloc _).ok HOX.out)).mono ?_; rintro e w' ⟨rfl, HGr⟩)
              go_ret
              exact ⟨rfl, (HG.out.alloc _).trans HGr⟩
          · have t1 : ¬ (i : Int) < (kx : Int) := by omega
            have hz : ta = true := HI.out.symm.trans (Kl.areG_end (by rw [K1.out]; omega))
            subst hz
            clear X3 IH HI
            go_wp2_with fail
            go_ret
            exact ⟨rfl, HG.out⟩
      · have fg2 : ((xn : Int) == 0) = false := by simp; omega
        have ng2 : ((xn : Int) != 0) = true := by simp; omega
        have HZ : Hid (false = z) := by show _ = z; refine Eq.trans ?_ hz'; clear hz'; first | rfl | (simp; done) | (simp; omega) | (simp [Kl.isT]; omega) | (simp [*]; done)
        clear hz' X3 IH HR g2
        go_enter Try.func24, Try.ntmps24
        go_wp2_with fail
        go_region
        all_goals go_wp2_with fail
        all_goals go_ret
        all_goals exact ⟨Kl.ret_bool HZ.out, ((Kl.Gr.refl w).alloc _).drew⟩
    · have fg1 : ((xv : Int) == 0) = false := by simp; omega
      have ng1 : ((xv : Int) != 0) = true := by simp; omega
      have HZ : Hid (false = z) := by show _ = z; refine Eq.trans ?_ hz'; clear hz'; first | rfl | (simp; done) | (simp; omega) | (simp [Kl.isT]; omega) | (simp [*]; done)
      clear hz' X3 IH HR g1
      go_enter Try.func24, Try.ntmps24
      go_wp2_with fail
      go_region
      all_goals go_wp2_with fail
      all_goals go_ret
      all_goals exact ⟨Kl.ret_bool HZ.out, ((Kl.Gr.refl w).alloc _).drew⟩
  have b2 : (xo == 2) = false := by simpa using e2
  by_cases e3 : xo = 3
  · subst e3
    rw [if_pos (.inr rfl)] at hz'
    clear e0 b0 e1 b1 e2 b2
    by_cases g1 : xv = 0
    · subst g1
      by_cases g2 : xn = 0
      · subst g2
        obtain rfl : ta = z := by refine Eq.trans ?_ hz'; simp
        clear hz'
        go_enter Try.func24, Try.ntmps24
        go_wp2_with fail
        go_region
        go_wp2_with fail
        go_loopw [75] (fun u wr => ∃ i : Nat, u = .int .i64 i ∧ i ≤ kx ∧ Hid (Kl.areG (Kl.cts (xl.drop i)) = ta) ∧ Hid (Kl.Gr w wr)) (fun u _ => kx - (RowKit.intOf u).toNat)
        case atStart => exact ⟨0, rfl, Nat.zero_le _, HR, ((Kl.Gr.refl _).alloc _).drew⟩
        case round =>
          clear HR
          obtain ⟨i, rfl, hi1, HI, HG⟩ := hrel
          by_cases hlt : i < kx
          · have t1 : (i : Int) < (kx : Int) := by omega
            obtain ⟨b, o1, rfl, kx⟩ := X3.out (by omega)
            obtain ⟨x, hx⟩ := Kl.some_of (l := xl) (i := i) (by rw [K1.out]; exact hlt)
            obtain ⟨rx, ox⟩ := kx i x hx
            have HST := hide' (Kl.areG_step hx)
            have HC := hide' (IH.out x (List.mem_of_getElem? hx))
            have HOX := hide' ox
            obtain ⟨g, hg⟩ : ∃ g, Kl.isG (Kl.ct x) = g := ⟨_, rfl⟩
            unfold Kl.IsR at HC
            rw [hg] at HC HST
            obtain ⟨yo, yv, yn, yp, yc, yl⟩ := x
            obtain ⟨a0, a1, a2, a3⟩ := Kl.cells4 rx
            have q0 := HG.out.cell a0
            have q1 := HG.out.cell a1
            have q2 := HG.out.cell a2
            have q3 := HG.out.cell a3
            obtain ⟨ky, hky⟩ : ∃ k, yl.length = k := ⟨_, rfl⟩
            simp only [Kl.Fv.enc, hky] at HC q3
            clear hx rx ox kx X3 hg a0 a1 a2 a3 hky IH
            cases g with
            | true =>
              go_wp2_with (go_at_call 24; refine (HC.out _ ((HG.out.alloc _).ok HOX.out)).mono ?_; rintro e w' ⟨rfl, HGr⟩)
              go_roundw
              case rel => exact ⟨i + 1, by go_num, by omega, by have := HST.out; rw [Bool.true_and] at this; exact this.symm.trans HI.out, (HG.out.alloc _).trans HGr⟩
              case measure => simp [RowKit.intOf]; omega
            | false =>
              have hz : ta = false := by have := HST.out; rw [Bool.false_and] at this; exact HI.out.symm.trans this
              subst hz
              go_wp2_with (go_at_call 24; refine (HC.out _ ((HG.out.alloc _).ok HOX.out)).mono ?_; rintro e w' ⟨rfl, HGr⟩)
              go_ret
              exact ⟨rfl, (HG.out.alloc _).trans HGr⟩
          · have t1 : ¬ (i : Int) < (kx : Int) := by omega
            have hz : ta = true := HI.out.symm.trans (Kl.areG_end (by rw [K1.out]; omega))
            subst hz
            clear X3 IH HI
            go_wp2_with fail
            go_ret
            exact ⟨rfl, HG.out⟩
      · have fg2 : ((xn : Int) == 0) = false := by simp; omega
        have ng2 : ((xn : Int) != 0) = true := by simp; omega
        have HZ : Hid (false = z) := by show _ = z; refine Eq.trans ?_ hz'; clear hz'; first | rfl | (simp; done) | (simp; omega) | (simp [Kl.isT]; omega) | (simp [*]; done)
        clear hz' X3 IH HR g2
        go_enter Try.func24, Try.ntmps24
        go_wp2_with fail
        go_region
        all_goals go_wp2_with fail
        all_goals go_ret
        all_goals exact ⟨Kl.ret_bool HZ.out, ((Kl.Gr.refl w).alloc _).drew⟩
    · have fg1 : ((xv : Int) == 0) = false := by simp; omega
      have ng1 : ((xv : Int) != 0) = true := by simp; omega
      have HZ : Hid (false = z) := by show _ = z; refine Eq.trans ?_ hz'; clear hz'; first | rfl | (simp; done) | (simp; omega) | (simp [Kl.isT]; omega) | (simp [*]; done)
      clear hz' X3 IH HR g1
      go_enter Try.func24, Try.ntmps24
      go_wp2_with fail
      go_region
      all_goals go_wp2_with fail
      all_goals go_ret
      all_goals exact ⟨Kl.ret_bool HZ.out, ((Kl.Gr.refl w).alloc _).drew⟩
  rw [if_neg (by omega)] at hz'
  have b3 : (xo == 3) = false := by simpa using e3
  by_cases e4 : xo = 4
  · subst e4
    rw [if_pos rfl] at hz'
    clear e0 b0 e1 b1 e2 b2 e3 b3
    by_cases g1 : xv = 0
    · subst g1
      by_cases g2 : xn = 0
      · subst g2
        by_cases g3 : kx = 1
        · have fg3 : ((kx : Int) != 1) = false := by simp; omega
          have fh3 : (kx == 1) = true := by simp; omega
          rw [fh3] at hz'
          clear g3 fh3
          obtain rfl : ta = z := by refine Eq.trans ?_ hz'; simp
          clear hz'
          go_enter Try.func24, Try.ntmps24
          go_wp2_with fail
          go_region
          go_wp2_with fail
          go_loopw [75] (fun u wr => ∃ i : Nat, u = .int .i64 i ∧ i ≤ kx ∧ Hid (Kl.areG (Kl.cts (xl.drop i)) = ta) ∧ Hid (Kl.Gr w wr)) (fun u _ => kx - (RowKit.intOf u).toNat)
          case atStart => exact ⟨0, rfl, Nat.zero_le _, HR, ((Kl.Gr.refl _).alloc _).drew⟩
          case round =>
            clear HR
            obtain ⟨i, rfl, hi1, HI, HG⟩ := hrel
            by_cases hlt : i < kx
            · have t1 : (i : Int) < (kx : Int) := by omega
              obtain ⟨b, o1, rfl, kx⟩ := X3.out (by omega)
              obtain ⟨x, hx⟩ := Kl.some_of (l := xl) (i := i) (by rw [K1.out]; exact hlt)
              obtain ⟨rx, ox⟩ := kx i x hx
              have HST := hide' (Kl.areG_step hx)
              have HC := hide' (IH.out x (List.mem_of_getElem? hx))
              have HOX := hide' ox
              obtain ⟨g, hg⟩ : ∃ g, Kl.isG (Kl.ct x) = g := ⟨_, rfl⟩
              unfold Kl.IsR at HC
              rw [hg] at HC HST
              obtain ⟨yo, yv, yn, yp, yc, yl⟩ := x
              obtain ⟨a0, a1, a2, a3⟩ := Kl.cells4 rx
              have q0 := HG.out.cell a0
              have q1 := HG.out.cell a1
              have q2 := HG.out.cell a2
              have q3 := HG.out.cell a3
              obtain ⟨ky, hky⟩ : ∃ k, yl.length = k := ⟨_, rfl⟩
              simp only [Kl.Fv.enc, hky] at HC q3
              clear hx rx ox kx X3 hg a0 a1 a2 a3 hky IH
              cases g with
              | true =>
                go_wp2_with (go_at_call 24; refine (HC.out _ ((HG.out.alloc _).ok HOX.out)).mono ?_; rintro e w' ⟨rfl, HGr⟩)
                go_roundw
                case rel => exact ⟨i + 1, by go_num, by omega, by have := HST.out; rw [Bool.true_and] at this; exact this.symm.trans HI.out, (HG.out.alloc _).trans HGr⟩
                case measure => simp [RowKit.intOf]; omega
              | false =>
                have hz : ta = false := by have := HST.out; rw [Bool.false_and] at this; exact HI.out.symm.trans this
                subst hz
                go_wp2_with (go_at_call 24; refine (HC.out _ ((HG.out.alloc _).ok HOX.out)).mono ?_; rintro e w' ⟨rfl, HGr⟩)
                go_ret
                exact ⟨rfl, (HG.out.alloc _).trans HGr⟩
            · have t1 : ¬ (i : Int) < (kx : Int) := by omega
              have hz : ta = true := HI.out.symm.trans (Kl.areG_end (by rw [K1.out]; omega))
              subst hz
              clear X3 IH HI
              go_wp2_with fail
              go_ret
              exact ⟨rfl, HG.out⟩
        · have fg3 : ((kx : Int) != 1) = true := by simp; omega
          have HZ : Hid (false = z) := by show _ = z; refine Eq.trans ?_ hz'; clear hz'; first | rfl | (simp; done) | (simp; omega) | (simp [Kl.isT]; omega) | (simp [*]; done)
          clear hz' X3 IH HR g3
          go_enter Try.func24, Try.ntmps24
          go_wp2_with fail
          go_region
          all_goals go_wp2_with fail
          all_goals go_ret
          all_goals exact ⟨Kl.ret_bool HZ.out, ((Kl.Gr.refl w).alloc _).drew⟩
      · have fg2 : ((xn : Int) == 0) = false := by simp; omega
        have ng2 : ((xn : Int) != 0) = true := by simp; omega
        have HZ : Hid (false = z) := by show _ = z; refine Eq.trans ?_ hz'; clear hz'; first | rfl | (simp; done) | (simp; omega) | (simp [Kl.isT]; omega) | (simp [*]; done)
        clear hz' X3 IH HR g2
        go_enter Try.func24, Try.ntmps24
        go_wp2_with fail
        go_region
        all_goals go_wp2_with fail
        all_goals go_ret
        all_goals exact ⟨Kl.ret_bool HZ.out, ((Kl.Gr.refl w).alloc _).drew⟩
    · have fg1 : ((xv : Int) == 0) = false := by simp; omega
      have ng1 : ((xv : Int) != 0) = true := by simp; omega
      have HZ : Hid (false = z) := by show _ = z; refine Eq.trans ?_ hz'; clear hz'; first | rfl | (simp; done) | (simp; omega) | (simp [Kl.isT]; omega) | (simp [*]; done)
      clear hz' X3 IH HR g1
      go_enter Try.func24, Try.ntmps24
      go_wp2_with fail
      go_region
      all_goals go_wp2_with fail
      all_goals go_ret
      all_goals exact ⟨Kl.ret_bool HZ.out, ((Kl.Gr.refl w).alloc _).drew⟩
  rw [if_neg e4] at hz'
  have b4 : (xo == 4) = false := by simpa using e4
  have HZ : Hid (false = z) := by show _ = z; refine Eq.trans ?_ hz'; clear hz'; first | rfl | (simp; done) | (simp; omega) | (simp [Kl.isT]; omega) | (simp [*]; done)
  clear hz' X3 IH HR e0 e1 e2 e3 e4
  go_enter Try.func24, Try.ntmps24
  go_wp2_with fail
  go_region
  all_goals go_wp2_with fail
  all_goals go_ret
  all_goals exact ⟨Kl.ret_bool HZ.out, ((Kl.Gr.refl w).alloc _).drew⟩
theorem klRefIs : ∀ x : Kl.Fv, Kl.IsR x := Kl.Fv.ind fun o v n p c l ih => klRefIs1 o v n p c l ih
end Go.Proofs.Ytipnhfnjoaoceaa
