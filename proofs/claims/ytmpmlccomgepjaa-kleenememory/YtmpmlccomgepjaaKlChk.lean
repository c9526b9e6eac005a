/-
  WALKS over kleene's isFormula, areFormulas, Check, checkWith.
-/
import Derived.Test.YtmpmlccomgepjaaKlLeaf
import Derived.BigGuard
namespace Go.Proofs.Ytmpmlccomgepjaa
open Go.RowKit Go.Lib Go.Sort
namespace Kl
mutual
/-- is it a formula, nested so deep at most? -/
def isF : Fm → Nat → Bool
  | .mk o v n l, r => if r = 0 then false else if o = 0 then isT v && (n == 0) && (l.length == 0) else if o = 1 then (v == 0) && decide (0 ≤ n) && decide (n < 65536) && (l.length == 0)
    else if o = 2 ∨ o = 3 then (v == 0) && (n == 0) && areF l (r - 1) else if o = 4 then (v == 0) && (n == 0) && (l.length == 1) && areF l (r - 1) else false
def areF : List Fm → Nat → Bool
  | [], _ => true
  | a :: l, r => isF a r && areF l r
end
theorem cts_len : ∀ l : List Fv, (cts l).length = l.length
  | [] => rfl
  | a :: l => by simp [cts, cts_len l]
def IsOf (x : Fv) : Prop := ∀ (r : Nat) w, r ≤ 131072 → Ok w x → Calls Try.prog 35 #[.agg x.enc.toArray, .int .i64 r] w fun e w' => e = .returned (.bool (isF (ct x) r)) ∧ Gr w w'
theorem areF_step {l : List Fv} {i r : Nat} {x : Fv} (hx : l[i]? = some x) : areF (cts (l.drop i)) r = (isF (ct x) r && areF (cts (l.drop (i + 1))) r) := by
  rw [List.drop_eq_getElem_cons (List.getElem?_eq_some_iff.1 hx).1, (List.getElem?_eq_some_iff.1 hx).2]
  simp only [cts]
  rw [areF]
theorem areF_end {l : List Fv} {i r : Nat} (h : l.length ≤ i) : areF (cts (l.drop i)) r = true := by
  rw [List.drop_eq_nil_of_le h]
  simp [cts, areF]
theorem ret_bool {a b : Bool} (h : a = b) : Ending.returned (.bool a) = .returned (.bool b) := by rw [h]
end Kl
set_option maxRecDepth 100000 in
set_option maxHeartbeats 2000000 in
theorem klAreFormulas (o v n : Int) (p : Option Addr) (c : Nat) (l : List Kl.Fv) (r : Nat) (w : World) (hr : r ≤ 131072) (hx : Kl.Ok w (.mk o v n p c l)) (ih : ∀ a ∈ l, Kl.IsOf a) :
    Calls Try.prog 47 #[.slice p l.length c, .int .i64 r] w fun e w' => e = .returned (.bool (Kl.areF (Kl.cts l) r)) ∧ Kl.Gr w w' := by
  obtain ⟨x1, x2, x3⟩ := hx.row
  obtain ⟨k1, hk1⟩ : ∃ k, l.length = k := ⟨_, rfl⟩
  obtain ⟨z, hz⟩ : ∃ z, Kl.areF (Kl.cts l) r = z := ⟨_, rfl⟩
  rw [hk1] at x1 x3
  rw [hk1, hz]
  have HR : Hid (Kl.areF (Kl.cts (l.drop 0)) r = z) := hz
  have X3 := hide' x3
  have K1 := hide' hk1
  have IH := hide' ih
  clear x3 hk1 hx ih hz
  go_enter Try.func47, Try.ntmps47
  go_wp2_with fail
  go_loopw [9] (fun u wr => ∃ i : Nat, u = .int .i64 i ∧ i ≤ k1 ∧ Hid (Kl.areF (Kl.cts (l.drop i)) r = z) ∧ Hid (Kl.Gr w wr)) (fun u _ => k1 - (RowKit.intOf u).toNat)
  case atStart => exact ⟨0, rfl, Nat.zero_le _, HR, Kl.Gr.refl _⟩
  case round =>
    clear HR
    obtain ⟨i, rfl, hi1, HI, HG⟩ := hrel
    by_cases hlt : i < k1
    · have t1 : (i : Int) < (k1 : Int) := by omega
      obtain ⟨b, o1, rfl, kx⟩ := X3.out (by omega)
      obtain ⟨x, hx⟩ := Kl.some_of (l := l) (i := i) (by rw [K1.out]; exact hlt)
      obtain ⟨rx, ox⟩ := kx i x hx
      have HST := hide' (Kl.areF_step (r := r) hx)
      have HC := hide' (IH.out x (List.mem_of_getElem? hx))
      have HOX := hide' ox
      obtain ⟨g, hg⟩ : ∃ g, Kl.isF (Kl.ct x) r = g := ⟨_, rfl⟩
      unfold Kl.IsOf at HC
      have HC2 := hide' (fun w' h => HC.out r w' hr h)
      rw [hg] at HC2 HST
      obtain ⟨xo, xv, xn, xp, xc, xl⟩ := x
      obtain ⟨a0, a1, a2, a3⟩ := Kl.cells4 rx
      have q0 := HG.out.cell a0
      have q1 := HG.out.cell a1
      have q2 := HG.out.cell a2
      have q3 := HG.out.cell a3
      obtain ⟨kx', hkx⟩ : ∃ k, xl.length = k := ⟨_, rfl⟩
      simp only [Kl.Fv.enc, hkx] at HC2 q3
      clear hx rx ox kx X3 hg a0 a1 a2 a3 hkx IH HC
      cases g with
      | true =>
        go_wp2_with (go_at_call 35; refine (HC2.out _ ((HG.out.alloc _).ok HOX.out)).mono ?_; rintro e w' ⟨rfl, HGr⟩)
        go_roundw
        case rel => exact ⟨i + 1, by go_num, by omega, by have := HST.out; rw [Bool.true_and] at this; exact this.symm.trans HI.out, (HG.out.alloc _).trans HGr⟩
        case measure => simp [RowKit.intOf]; omega
      | false =>
        have hz : z = false := by have := HST.out; rw [Bool.false_and] at this; exact HI.out.symm.trans this
        subst hz
        go_wp2_with (go_at_call 35; refine (HC2.out _ ((HG.out.alloc _).ok HOX.out)).mono ?_; rintro e w' ⟨rfl, HGr⟩)
        go_ret
        exact ⟨rfl, (HG.out.alloc _).trans HGr⟩
    · have t1 : ¬ (i : Int) < (k1 : Int) := by omega
      have hz : z = true := HI.out.symm.trans (Kl.areF_end (by rw [K1.out]; omega))
      subst hz
      clear X3 IH HI
      go_wp2_with fail
      go_ret
      exact ⟨rfl, HG.out⟩
set_option maxRecDepth 100000 in
set_option maxHeartbeats 4000000 in
theorem klIsFormula1 (xo xv xn : Int) (xp : Option Addr) (xc : Nat) (xl : List Kl.Fv) (ih : ∀ a ∈ xl, Kl.IsOf a) : Kl.IsOf (.mk xo xv xn xp xc xl) := by
  intro r w hr hx
  have cT := fun w' => klIsTruth xv w'
  have x12 := hx.row
  have cA := fun (hr0 : r ≠ 0) w' (g : Kl.Gr w w') => klAreFormulas xo xv xn xp xc xl (r - 1) w' (by omega) (g.ok hx) ih
  obtain ⟨kx, hkx⟩ : ∃ k, xl.length = k := ⟨_, rfl⟩
  obtain ⟨tv, htv⟩ : ∃ t, Kl.isT xv = t := ⟨_, rfl⟩
  obtain ⟨ta, hta⟩ : ∃ t, Kl.areF (Kl.cts xl) (r - 1) = t := ⟨_, rfl⟩
  obtain ⟨z, hz⟩ : ∃ z, Kl.isF (Kl.ct (.mk xo xv xn xp xc xl)) r = z := ⟨_, rfl⟩
  have hz' := hz
  simp only [Kl.ct] at hz'
  rw [Kl.isF, Kl.cts_len, hkx, htv, hta] at hz'
  rw [hz]
  simp only [htv, hta, hkx] at cT cA
  simp only [Kl.Fv.enc, hkx]
  have l1 := x12.1
  have l2 := x12.2.1
  clear x12
  rw [hkx] at l1
  have CT := hide' cT
  have CA := hide' cA
  clear cT cA hz hkx htv hta hx ih
  by_cases hr0 : r = 0
  · rw [if_pos hr0] at hz'
    subst hz' hr0
    clear CA CT
    go_enter Try.func35, Try.ntmps35
    go_wp2_with fail
    go_ret
    exact ⟨rfl, (Kl.Gr.refl w).alloc _⟩
  · rw [if_neg hr0] at hz'
    have CA2 := hide' (CA.out hr0)
    have rb : ((r : Int) == 0) = false := by simp; omega
    have rw1 : ((r - 1 : Nat) : Int) = (r : Int) - 1 := by omega
    rw [rw1] at CA2
    clear CA rw1
    by_cases e0 : xo = 0
    · subst e0
      rw [if_pos rfl] at hz'
      cases tv with
      | false =>
        have HZ : Hid (false = z) := by show _ = z; refine Eq.trans ?_ hz'; clear hz'; first | rfl | (simp; done) | (simp; omega) | (simp [*]; done)
        clear hz' 
        go_enter Try.func35, Try.ntmps35
        go_wp2_with (first | (go_at_call 38; refine (CT.out _).mono ?_; rintro e w' ⟨rfl, rfl⟩) | (go_at_call 47; refine (CA2.out _ ((Kl.Gr.refl w).alloc _)).mono ?_; rintro e w' ⟨rfl, HGr⟩))
        go_ret
        exact ⟨Kl.ret_bool HZ.out, (Kl.Gr.refl w).alloc _⟩
      | true =>
        by_cases e1 : xn = 0
        · subst e1
          by_cases e2 : kx = 0
          · subst e2
            have HZ : Hid (true = z) := by show _ = z; refine Eq.trans ?_ hz'; clear hz'; first | rfl | (simp; done) | (simp; omega) | (simp [*]; done)
            clear hz' 
            go_enter Try.func35, Try.ntmps35
            go_wp2_with (first | (go_at_call 38; refine (CT.out _).mono ?_; rintro e w' ⟨rfl, rfl⟩) | (go_at_call 47; refine (CA2.out _ ((Kl.Gr.refl w).alloc _)).mono ?_; rintro e w' ⟨rfl, HGr⟩))
            go_ret
            exact ⟨Kl.ret_bool HZ.out, (Kl.Gr.refl w).alloc _⟩
          · have f2 : ((kx : Int) == 0) = false := by simp; omega
            have HZ : Hid (false = z) := by show _ = z; refine Eq.trans ?_ hz'; clear hz'; first | rfl | (simp; done) | (simp; omega) | (simp [*]; done)
            clear hz' e2
            go_enter Try.func35, Try.ntmps35
            go_wp2_with (first | (go_at_call 38; refine (CT.out _).mono ?_; rintro e w' ⟨rfl, rfl⟩) | (go_at_call 47; refine (CA2.out _ ((Kl.Gr.refl w).alloc _)).mono ?_; rintro e w' ⟨rfl, HGr⟩))
            go_ret
            exact ⟨Kl.ret_bool HZ.out, (Kl.Gr.refl w).alloc _⟩
        · have f1 : (xn == 0) = false := by simpa using e1
          have HZ : Hid (false = z) := by show _ = z; refine Eq.trans ?_ hz'; clear hz'; first | rfl | (simp; done) | (simp; omega) | (simp [*]; done)
          clear hz' e1
          go_enter Try.func35, Try.ntmps35
          go_wp2_with (first | (go_at_call 38; refine (CT.out _).mono ?_; rintro e w' ⟨rfl, rfl⟩) | (go_at_call 47; refine (CA2.out _ ((Kl.Gr.refl w).alloc _)).mono ?_; rintro e w' ⟨rfl, HGr⟩))
          go_ret
          exact ⟨Kl.ret_bool HZ.out, (Kl.Gr.refl w).alloc _⟩
    rw [if_neg e0] at hz'
    have b0 : (xo == 0) = false := by simpa using e0
    by_cases e1 : xo = 1
    · subst e1
      rw [if_pos rfl] at hz'
      clear e0 b0
      by_cases e2 : xv = 0
      · subst e2
        by_cases e3 : 0 ≤ xn
        · by_cases e4 : xn < 65536
          · by_cases e5 : kx = 0
            · subst e5
              have HZ : Hid (true = z) := by show _ = z; refine Eq.trans ?_ hz'; clear hz'; first | rfl | (simp; done) | (simp; omega) | (simp [*]; done)
              clear hz' 
              go_enter Try.func35, Try.ntmps35
              go_wp2_with (first | (go_at_call 38; refine (CT.out _).mono ?_; rintro e w' ⟨rfl, rfl⟩) | (go_at_call 47; refine (CA2.out _ ((Kl.Gr.refl w).alloc _)).mono ?_; rintro e w' ⟨rfl, HGr⟩))
              go_ret
              exact ⟨Kl.ret_bool HZ.out, (Kl.Gr.refl w).alloc _⟩
            · have f2 : ((kx : Int) == 0) = false := by simp; omega
              have HZ : Hid (false = z) := by show _ = z; refine Eq.trans ?_ hz'; clear hz'; first | rfl | (simp; done) | (simp; omega) | (simp [*]; done)
              clear hz' e5
              go_enter Try.func35, Try.ntmps35
              go_wp2_with (first | (go_at_call 38; refine (CT.out _).mono ?_; rintro e w' ⟨rfl, rfl⟩) | (go_at_call 47; refine (CA2.out _ ((Kl.Gr.refl w).alloc _)).mono ?_; rintro e w' ⟨rfl, HGr⟩))
              go_ret
              exact ⟨Kl.ret_bool HZ.out, (Kl.Gr.refl w).alloc _⟩
          · have f4 : decide (xn < 65536) = false := by simpa using e4
            have HZ : Hid (false = z) := by show _ = z; refine Eq.trans ?_ hz'; clear hz'; first | rfl | (simp; done) | (simp; omega) | (simp [*]; done)
            have f5 : 65536 ≤ xn := by omega
            clear hz' e4 f4
            go_enter Try.func35, Try.ntmps35
            go_wp2_with (first | (go_at_call 38; refine (CT.out _).mono ?_; rintro e w' ⟨rfl, rfl⟩) | (go_at_call 47; refine (CA2.out _ ((Kl.Gr.refl w).alloc _)).mono ?_; rintro e w' ⟨rfl, HGr⟩))
            go_ret
            exact ⟨Kl.ret_bool HZ.out, (Kl.Gr.refl w).alloc _⟩
        · have f4 : decide (0 ≤ xn) = false := by simpa using e3
          have HZ : Hid (false = z) := by show _ = z; refine Eq.trans ?_ hz'; clear hz'; first | rfl | (simp; done) | (simp; omega) | (simp [*]; done)
          have f5 : xn < 0 := by omega
          clear hz' e3 f4
          go_enter Try.func35, Try.ntmps35
          go_wp2_with (first | (go_at_call 38; refine (CT.out _).mono ?_; rintro e w' ⟨rfl, rfl⟩) | (go_at_call 47; refine (CA2.out _ ((Kl.Gr.refl w).alloc _)).mono ?_; rintro e w' ⟨rfl, HGr⟩))
          go_ret
          exact ⟨Kl.ret_bool HZ.out, (Kl.Gr.refl w).alloc _⟩
      · have f1 : (xv == 0) = false := by simpa using e2
        have HZ : Hid (false = z) := by show _ = z; refine Eq.trans ?_ hz'; clear hz'; first | rfl | (simp; done) | (simp; omega) | (simp [*]; done)
        clear hz' e2
        go_enter Try.func35, Try.ntmps35
        go_wp2_with (first | (go_at_call 38; refine (CT.out _).mono ?_; rintro e w' ⟨rfl, rfl⟩) | (go_at_call 47; refine (CA2.out _ ((Kl.Gr.refl w).alloc _)).mono ?_; rintro e w' ⟨rfl, HGr⟩))
        go_ret
        exact ⟨Kl.ret_bool HZ.out, (Kl.Gr.refl w).alloc _⟩
    rw [if_neg e1] at hz'
    have b1 : (xo == 1) = false := by simpa using e1
    clear e0 e1
    by_cases e2 : xo = 2
    · subst e2
      rw [if_pos (by simp)] at hz'
      clear b0 b1
      by_cases e2 : xv = 0
      · subst e2
        by_cases e3 : xn = 0
        · subst e3
          have HZ : Hid (ta = z) := by show _ = z; refine Eq.trans ?_ hz'; clear hz'; first | rfl | (simp; done) | (simp; omega) | (simp [*]; done)
          clear hz' 
          go_enter Try.func35, Try.ntmps35
          go_wp2_with (first | (go_at_call 38; refine (CT.out _).mono ?_; rintro e w' ⟨rfl, rfl⟩) | (go_at_call 47; refine (CA2.out _ ((Kl.Gr.refl w).alloc _)).mono ?_; rintro e w' ⟨rfl, HGr⟩))
          go_ret
          exact ⟨Kl.ret_bool HZ.out, ((Kl.Gr.refl w).alloc _).trans HGr⟩
        · have f1 : (xn == 0) = false := by simpa using e3
          have HZ : Hid (false = z) := by show _ = z; refine Eq.trans ?_ hz'; clear hz'; first | rfl | (simp; done) | (simp; omega) | (simp [*]; done)
          clear hz' e3
          go_enter Try.func35, Try.ntmps35
          go_wp2_with (first | (go_at_call 38; refine (CT.out _).mono ?_; rintro e w' ⟨rfl, rfl⟩) | (go_at_call 47; refine (CA2.out _ ((Kl.Gr.refl w).alloc _)).mono ?_; rintro e w' ⟨rfl, HGr⟩))
          go_ret
          exact ⟨Kl.ret_bool HZ.out, (Kl.Gr.refl w).alloc _⟩
      · have f1 : (xv == 0) = false := by simpa using e2
        have HZ : Hid (false = z) := by show _ = z; refine Eq.trans ?_ hz'; clear hz'; first | rfl | (simp; done) | (simp; omega) | (simp [*]; done)
        clear hz' e2
        go_enter Try.func35, Try.ntmps35
        go_wp2_with (first | (go_at_call 38; refine (CT.out _).mono ?_; rintro e w' ⟨rfl, rfl⟩) | (go_at_call 47; refine (CA2.out _ ((Kl.Gr.refl w).alloc _)).mono ?_; rintro e w' ⟨rfl, HGr⟩))
        go_ret
        exact ⟨Kl.ret_bool HZ.out, (Kl.Gr.refl w).alloc _⟩
    have b2 : (xo == 2) = false := by simpa using e2
    have d2 : xo ≠ 2 := e2
    clear e2
    by_cases e2 : xo = 3
    · subst e2
      rw [if_pos (by simp)] at hz'
      clear b0 b1 b2
      by_cases e2 : xv = 0
      · subst e2
        by_cases e3 : xn = 0
        · subst e3
          have HZ : Hid (ta = z) := by show _ = z; refine Eq.trans ?_ hz'; clear hz'; first | rfl | (simp; done) | (simp; omega) | (simp [*]; done)
          clear hz' 
          go_enter Try.func35, Try.ntmps35
          go_wp2_with (first | (go_at_call 38; refine (CT.out _).mono ?_; rintro e w' ⟨rfl, rfl⟩) | (go_at_call 47; refine (CA2.out _ ((Kl.Gr.refl w).alloc _)).mono ?_; rintro e w' ⟨rfl, HGr⟩))
          go_ret
          exact ⟨Kl.ret_bool HZ.out, ((Kl.Gr.refl w).alloc _).trans HGr⟩
        · have f1 : (xn == 0) = false := by simpa using e3
          have HZ : Hid (false = z) := by show _ = z; refine Eq.trans ?_ hz'; clear hz'; first | rfl | (simp; done) | (simp; omega) | (simp [*]; done)
          clear hz' e3
          go_enter Try.func35, Try.ntmps35
          go_wp2_with (first | (go_at_call 38; refine (CT.out _).mono ?_; rintro e w' ⟨rfl, rfl⟩) | (go_at_call 47; refine (CA2.out _ ((Kl.Gr.refl w).alloc _)).mono ?_; rintro e w' ⟨rfl, HGr⟩))
          go_ret
          exact ⟨Kl.ret_bool HZ.out, (Kl.Gr.refl w).alloc _⟩
      · have f1 : (xv == 0) = false := by simpa using e2
        have HZ : Hid (false = z) := by show _ = z; refine Eq.trans ?_ hz'; clear hz'; first | rfl | (simp; done) | (simp; omega) | (simp [*]; done)
        clear hz' e2
        go_enter Try.func35, Try.ntmps35
        go_wp2_with (first | (go_at_call 38; refine (CT.out _).mono ?_; rintro e w' ⟨rfl, rfl⟩) | (go_at_call 47; refine (CA2.out _ ((Kl.Gr.refl w).alloc _)).mono ?_; rintro e w' ⟨rfl, HGr⟩))
        go_ret
        exact ⟨Kl.ret_bool HZ.out, (Kl.Gr.refl w).alloc _⟩
    have b3 : (xo == 3) = false := by simpa using e2
    have d3 : xo ≠ 3 := e2
    clear e2
    rw [if_neg (by simp [d2, d3])] at hz'
    clear d2 d3
    by_cases e2 : xo = 4
    · subst e2
      rw [if_pos rfl] at hz'
      clear b0 b1 b2 b3
      by_cases e2 : xv = 0
      · subst e2
        by_cases e3 : xn = 0
        · subst e3
          by_cases e4 : kx = 1
          · subst e4
            have HZ : Hid (ta = z) := by show _ = z; refine Eq.trans ?_ hz'; clear hz'; first | rfl | (simp; done) | (simp; omega) | (simp [*]; done)
            clear hz' 
            go_enter Try.func35, Try.ntmps35
            go_wp2_with (first | (go_at_call 38; refine (CT.out _).mono ?_; rintro e w' ⟨rfl, rfl⟩) | (go_at_call 47; refine (CA2.out _ ((Kl.Gr.refl w).alloc _)).mono ?_; rintro e w' ⟨rfl, HGr⟩))
            go_ret
            exact ⟨Kl.ret_bool HZ.out, ((Kl.Gr.refl w).alloc _).trans HGr⟩
          · have f2 : ((kx : Int) == 1) = false := by simp; omega
            have HZ : Hid (false = z) := by show _ = z; refine Eq.trans ?_ hz'; clear hz'; first | rfl | (simp; done) | (simp; omega) | (simp [*]; done)
            clear hz' e4
            go_enter Try.func35, Try.ntmps35
            go_wp2_with (first | (go_at_call 38; refine (CT.out _).mono ?_; rintro e w' ⟨rfl, rfl⟩) | (go_at_call 47; refine (CA2.out _ ((Kl.Gr.refl w).alloc _)).mono ?_; rintro e w' ⟨rfl, HGr⟩))
            go_ret
            exact ⟨Kl.ret_bool HZ.out, (Kl.Gr.refl w).alloc _⟩
        · have f1 : (xn == 0) = false := by simpa using e3
          have HZ : Hid (false = z) := by show _ = z; refine Eq.trans ?_ hz'; clear hz'; first | rfl | (simp; done) | (simp; omega) | (simp [*]; done)
          clear hz' e3
          go_enter Try.func35, Try.ntmps35
          go_wp2_with (first | (go_at_call 38; refine (CT.out _).mono ?_; rintro e w' ⟨rfl, rfl⟩) | (go_at_call 47; refine (CA2.out _ ((Kl.Gr.refl w).alloc _)).mono ?_; rintro e w' ⟨rfl, HGr⟩))
          go_ret
          exact ⟨Kl.ret_bool HZ.out, (Kl.Gr.refl w).alloc _⟩
      · have f1 : (xv == 0) = false := by simpa using e2
        have HZ : Hid (false = z) := by show _ = z; refine Eq.trans ?_ hz'; clear hz'; first | rfl | (simp; done) | (simp; omega) | (simp [*]; done)
        clear hz' e2
        go_enter Try.func35, Try.ntmps35
        go_wp2_with (first | (go_at_call 38; refine (CT.out _).mono ?_; rintro e w' ⟨rfl, rfl⟩) | (go_at_call 47; refine (CA2.out _ ((Kl.Gr.refl w).alloc _)).mono ?_; rintro e w' ⟨rfl, HGr⟩))
        go_ret
        exact ⟨Kl.ret_bool HZ.out, (Kl.Gr.refl w).alloc _⟩
    rw [if_neg e2] at hz'
    have b4 : (xo == 4) = false := by simpa using e2
    clear e2
    have HZ : Hid (false = z) := by show _ = z; refine Eq.trans ?_ hz'; clear hz'; first | rfl | (simp; done) | (simp; omega) | (simp [*]; done)
    clear hz' 
    go_enter Try.func35, Try.ntmps35
    go_wp2_with (first | (go_at_call 38; refine (CT.out _).mono ?_; rintro e w' ⟨rfl, rfl⟩) | (go_at_call 47; refine (CA2.out _ ((Kl.Gr.refl w).alloc _)).mono ?_; rintro e w' ⟨rfl, HGr⟩))
    go_ret
    exact ⟨Kl.ret_bool HZ.out, (Kl.Gr.refl w).alloc _⟩
theorem klIsFormula : ∀ x : Kl.Fv, Kl.IsOf x := Kl.Fv.ind fun o v n p c l ih => klIsFormula1 o v n p c l ih
end Go.Proofs.Ytmpmlccomgepjaa
