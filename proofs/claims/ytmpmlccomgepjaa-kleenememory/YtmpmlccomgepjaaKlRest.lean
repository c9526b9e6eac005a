/-
  WALKS over gimletref14.rest and Great.
-/
import Derived.Test.YtmpmlccomgepjaaKlSz
namespace Go.Proofs.Ytmpmlccomgepjaa
open Go.RowKit Go.Lib Go.Sort
namespace Kl
/-- what is left of m behind s -/
def lef (m : Int) (s : Nat) : Int := if m < 0 then -1 else if (s : Int) ≤ m then m - s else -1
def RsE (x : Fv) : Prop := ∀ (m : Int) w, 0 ≤ m → m ≤ 65536 → Ok w x → Calls Try.prog 13 #[.agg x.enc.toArray, .int .i64 m] w fun e w' => e = .returned (.int .i64 (lef m (sz (ct x)))) ∧ Gr w w'
theorem lef_step {m : Int} {s t : Nat} (h : 0 ≤ m) : lef m (s + t) = lef (lef m s) t := by
  unfold lef
  split <;> split <;> (try split) <;> (try split) <;> omega
theorem lef_neg {m : Int} {s : Nat} (h : m < 0) : lef m s = -1 := by unfold lef; rw [if_pos h]
theorem lef_zero {m : Int} (h : -1 ≤ m) : lef m 0 = m := by unfold lef; split <;> (try split) <;> omega
theorem lef_ge (m : Int) (s : Nat) : -1 ≤ lef m s := by unfold lef; split <;> (try split) <;> omega
theorem lef_le {m : Int} (s : Nat) (h : -1 ≤ m) : lef m s ≤ m := by unfold lef; split <;> (try split) <;> omega
theorem lef_one {m : Int} (h : 0 ≤ m) (s : Nat) : lef m (1 + s) = lef (m - 1) s := by unfold lef; split <;> (try split) <;> (try split) <;> (try split) <;> omega
end Kl
set_option maxRecDepth 100000 in
set_option maxHeartbeats 2000000 in
theorem klRest1 (o v n : Int) (p : Option Addr) (c : Nat) (l : List Kl.Fv) (ih : ∀ a ∈ l, Kl.RsE a) : Kl.RsE (.mk o v n p c l) := by
  intro m w hm0 hm1 hx
  obtain ⟨x1, x2, x3⟩ := hx.row
  obtain ⟨z, hz⟩ : ∃ z, Kl.lef m (Kl.sz (Kl.ct (.mk o v n p c l))) = z := ⟨_, rfl⟩
  rw [hz]
  have HR : Hid (Kl.lef (m - 1) (Kl.szs (Kl.cts (l.drop 0))) = z) := by rw [← hz, Kl.sz_mk, Kl.lef_one hm0]; exact rfl
  obtain ⟨k1, hk1⟩ : ∃ k, l.length = k := ⟨_, rfl⟩
  simp only [Kl.Fv.enc]
  rw [hk1] at x1 x3 ⊢
  obtain ⟨W, hWd⟩ : ∃ W, w.alloc (.cells #[.int .i64 o, .int .i64 v, .int .i64 n, .slice p k1 c] 26) = W := ⟨_, rfl⟩
  have HGW : Hid (Kl.Gr w W) := by rw [← hWd]; exact (Kl.Gr.refl _).alloc _
  have HJ : Hid (W.cell? ⟨w.heap.size, 3, none⟩ = some (.slice p k1 c)) := by show W.cell? _ = _; rw [← hWd]; simp
  have X3 := hide' x3
  have K1 := hide' hk1
  have IH := hide' ih
  have HWd := hide' hWd
  clear x3 hk1 hx ih hz hWd
  go_enter Try.func13, Try.ntmps13
  go_wp2_with fail
  rw [HWd.out]
  go_loopw [1, 5] (fun a u wr => ∃ (i : Nat) (q : Int), u = .int .i64 i ∧ a = .int .i64 q ∧ i ≤ k1 ∧ -1 ≤ q ∧ q ≤ 65536 ∧ Hid (Kl.lef q (Kl.szs (Kl.cts (l.drop i))) = z) ∧ Hid (Kl.Gr W wr)) (fun _ u _ => k1 - (RowKit.intOf u).toNat)
  case atStart => exact ⟨0, m - 1, rfl, by go_num, Nat.zero_le _, by omega, by omega, HR, Kl.Gr.refl _⟩
  case round =>
    clear HR
    obtain ⟨i, q, rfl, rfl, hi1, hq0, hq1, HI, HG⟩ := hrel
    have j0 := HG.out.cell HJ.out
    by_cases hlt : i < k1
    · have t1 : (i : Int) < (k1 : Int) := by omega
      by_cases hq : q < 0
      · have t2 : ¬ (0 ≤ q) := by omega
        obtain rfl : z = -1 := by rw [← HI.out, Kl.lef_neg hq]
        obtain rfl : q = -1 := by omega
        clear X3 IH HI
        go_wp2_with fail
        go_ret
        exact ⟨rfl, HGW.out.trans HG.out⟩
      · have t2 : 0 ≤ q := by omega
        obtain ⟨b, o1, rfl, kx⟩ := X3.out (by omega)
        obtain ⟨x, hx⟩ := Kl.some_of (l := l) (i := i) (by rw [K1.out]; exact hlt)
        obtain ⟨rx, ox⟩ := kx i x hx
        have HST := hide' (Kl.szs_step hx)
        have HC := hide' (IH.out x (List.mem_of_getElem? hx))
        have HOX := hide' (HGW.out.ok ox)
        obtain ⟨g, hg⟩ : ∃ g, Kl.lef q (Kl.sz (Kl.ct x)) = g := ⟨_, rfl⟩
        unfold Kl.RsE at HC
        have HC2 := hide' (fun w' h => HC.out q w' t2 hq1 h)
        rw [hg] at HC2
        have hg0 : -1 ≤ g := by rw [← hg]; exact Kl.lef_ge _ _
        have hg1 : g ≤ 65536 := by rw [← hg]; have := Kl.lef_le (Kl.sz (Kl.ct x)) hq0; omega
        have HN : Hid (Kl.lef g (Kl.szs (Kl.cts (l.drop (i + 1)))) = z) := by
          show _ = z
          rw [← HI.out, HST.out, Kl.lef_step t2, hg]
        obtain ⟨xo, xv, xn, xp, xc, xl⟩ := x
        obtain ⟨a0, a1, a2, a3⟩ := Kl.cells4 rx
        have q0 := HG.out.cell (HGW.out.cell a0)
        have q1 := HG.out.cell (HGW.out.cell a1)
        have q2 := HG.out.cell (HGW.out.cell a2)
        have q3 := HG.out.cell (HGW.out.cell a3)
        obtain ⟨kx', hkx⟩ : ∃ k, xl.length = k := ⟨_, rfl⟩
        simp only [Kl.Fv.enc, hkx] at HC2 q3
        clear hx rx ox kx X3 hg a0 a1 a2 a3 hkx IH HC HI HST
        go_wp2_with (go_at_call 13; refine (HC2.out _ (HG.out.ok HOX.out)).mono ?_; rintro e w' ⟨rfl, HGr⟩)
        go_roundw
        case rel => exact ⟨i + 1, g, by go_num, rfl, by omega, hg0, hg1, HN, HG.out.trans HGr⟩
        case measure => simp [RowKit.intOf]; omega
    · have t1 : ¬ (i : Int) < (k1 : Int) := by omega
      have hz : z = q := by rw [← HI.out, Kl.szs_end (by rw [K1.out]; omega), Kl.lef_zero hq0]
      subst hz
      clear X3 IH HI
      go_wp2_with fail
      go_ret
      exact ⟨rfl, HGW.out.trans HG.out⟩
theorem klRest : ∀ x : Kl.Fv, Kl.RsE x := Kl.Fv.ind fun o v n p c l ih => klRest1 o v n p c l ih
set_option maxRecDepth 100000 in
theorem klGreat (x : Kl.Fv) (w : World) (hx : Kl.Ok w x) : Calls Try.prog 4 #[.agg x.enc.toArray] w fun e w' => e = .returned (.bool (decide (65536 < Kl.sz (Kl.ct x)))) ∧ Kl.Gr w w' := by
  have HC := hide' (fun w' h => klRest x 65536 w' (by omega) (by omega) h)
  have HX := hide' hx
  obtain ⟨z, hz⟩ : ∃ z, Kl.lef 65536 (Kl.sz (Kl.ct x)) = z := ⟨_, rfl⟩
  rw [hz] at HC
  have hd : decide (65536 < Kl.sz (Kl.ct x)) = decide (z < 0) := by
    rw [← hz]; unfold Kl.lef; congr 1; split <;> (try split) <;> simp <;> omega
  rw [hd]
  obtain ⟨o, v, n, p, c, l⟩ := x
  obtain ⟨k1, hk1⟩ : ∃ k, l.length = k := ⟨_, rfl⟩
  simp only [Kl.Fv.enc, hk1] at HC ⊢
  clear hx hd hz hk1
  go_enter Try.func4, Try.ntmps4
  go_wp2_with (go_at_call 13; refine (HC.out _ (((Kl.Gr.refl w).alloc _).ok HX.out)).mono ?_; rintro e w' ⟨rfl, HGr⟩)
  go_ret
  exact ⟨rfl, ((Kl.Gr.refl w).alloc _).trans HGr⟩
end Go.Proofs.Ytmpmlccomgepjaa
