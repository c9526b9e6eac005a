/-
  WALKS over kleene.size, Size, gimletref14.Size, rest, Great (gen_sz.py).
-/
import Derived.Test.YtipnhfnjoaoceaaKlSprM
namespace Go.Proofs.Ytipnhfnjoaoceaa
open Go.RowKit Go.Lib Go.Sort
namespace Kl
theorem szs_step {l : List Fv} {i : Nat} {x : Fv} (hx : l[i]? = some x) : szs (cts (l.drop i)) = sz (ct x) + szs (cts (l.drop (i + 1))) := by
  rw [List.drop_eq_getElem_cons (List.getElem?_eq_some_iff.1 hx).1, (List.getElem?_eq_some_iff.1 hx).2]
  simp only [cts]
  rw [szs]
theorem szs_end {l : List Fv} {i : Nat} (h : l.length ≤ i) : szs (cts (l.drop i)) = 0 := by
  rw [List.drop_eq_nil_of_le h]
  simp [cts, szs]
theorem sz_mk (o v n : Int) (p : Option Addr) (c : Nat) (l : List Fv) : sz (ct (.mk o v n p c l)) = 1 + szs (cts l) := by rw [ct, sz]
end Kl

def Kl.SzK (x : Kl.Fv) : Prop := ∀ w, Kl.sz (Kl.ct x) ≤ 1048576 → Kl.Ok w x → Calls Try.prog 42 #[.agg x.enc.toArray] w fun e w' => e = .returned (.int .i64 (Kl.sz (Kl.ct x))) ∧ Kl.Gr w w'
set_option maxRecDepth 100000 in
set_option maxHeartbeats 2000000 in
theorem klSize1_1 (o v n : Int) (p : Option Addr) (c : Nat) (l : List Kl.Fv) (ih : ∀ a ∈ l, Kl.SzK a) : Kl.SzK (.mk o v n p c l) := by
  intro w hs hx
  obtain ⟨x1, x2, x3⟩ := hx.row
  obtain ⟨S, hS⟩ : ∃ S, Kl.sz (Kl.ct (.mk o v n p c l)) = S := ⟨_, rfl⟩
  rw [hS] at hs ⊢
  have HR : Hid (1 + Kl.szs (Kl.cts (l.drop 0)) = S) := by rw [← hS, Kl.sz_mk]; exact rfl
  obtain ⟨k1, hk1⟩ : ∃ k, l.length = k := ⟨_, rfl⟩
  simp only [Kl.Fv.enc]
  rw [hk1] at x1 x3 ⊢
  have X3 := hide' x3
  have K1 := hide' hk1
  have IH := hide' ih
  clear x3 hk1 hx ih hS
  go_enter Try.func42, Try.ntmps42
  go_wp2_with fail
  go_loopw [3, 9] (fun a u wr => ∃ i s : Nat, u = .int .i64 i ∧ a = .int .i64 s ∧ i ≤ k1 ∧ Hid (s + Kl.szs (Kl.cts (l.drop i)) = S) ∧ Hid (Kl.Gr w wr)) (fun _ u _ => k1 - (RowKit.intOf u).toNat)
  case atStart => exact ⟨0, 1, rfl, rfl, Nat.zero_le _, HR, (Kl.Gr.refl _).alloc _⟩
  case round =>
    clear HR
    obtain ⟨i, s, rfl, rfl, hi1, HI, HG⟩ := hrel
    by_cases hlt : i < k1
    · have t1 : (i : Int) < (k1 : Int) := by omega
      obtain ⟨b, o1, rfl, kx⟩ := X3.out (by omega)
      obtain ⟨x, hx⟩ := Kl.some_of (l := l) (i := i) (by rw [K1.out]; exact hlt)
      obtain ⟨rx, ox⟩ := kx i x hx
      have HST := hide' (Kl.szs_step hx)
      have HC := hide' (IH.out x (List.mem_of_getElem? hx))
      have HOX := hide' ox
      obtain ⟨g, hg⟩ : ∃ g, Kl.sz (Kl.ct x) = g := ⟨_, rfl⟩
      unfold Kl.SzK at HC
      have hle : s + g ≤ 1048576 := by have := HI.out; rw [HST.out, hg] at this; omega
      have HC2 := hide' (fun w' h => HC.out w' (by rw [hg]; omega) h)
      rw [hg] at HC2 HST
      obtain ⟨xo, xv, xn, xp, xc, xl⟩ := x
      obtain ⟨a0, a1, a2, a3⟩ := Kl.cells4 rx
      have q0 := HG.out.cell a0
      have q1 := HG.out.cell a1
      have q2 := HG.out.cell a2
      have q3 := HG.out.cell a3
      obtain ⟨kx', hkx⟩ : ∃ k, xl.length = k := ⟨_, rfl⟩
      simp only [Kl.Fv.enc, hkx] at HC2 q3
      clear hx rx ox kx X3 hg a0 a1 a2 a3 hkx IH HC
      go_wp2_with (go_at_call 42; refine (HC2.out _ ((HG.out.alloc _).ok HOX.out)).mono ?_; rintro e w' ⟨rfl, HGr⟩)
      go_roundw
      case rel => exact ⟨i + 1, s + g, by go_num, by go_num, by omega, by have := HI.out; rw [HST.out] at this; show s + g + _ = S; omega, (HG.out.alloc _).trans HGr⟩
      case measure => simp [RowKit.intOf]; omega
    · have t1 : ¬ (i : Int) < (k1 : Int) := by omega
      have hz : s = S := by have := HI.out; rw [Kl.szs_end (by rw [K1.out]; omega)] at this; omega
      subst hz
      clear X3 IH HI
      go_wp2_with fail
      go_ret
      exact ⟨rfl, HG.out⟩
theorem klSize1_ : ∀ x : Kl.Fv, Kl.SzK x := Kl.Fv.ind fun o v n p c l ih => klSize1_1 o v n p c l ih

def Kl.SzR (x : Kl.Fv) : Prop := ∀ w, Kl.sz (Kl.ct x) ≤ 1048576 → Kl.Ok w x → Calls Try.prog 26 #[.agg x.enc.toArray] w fun e w' => e = .returned (.int .i64 (Kl.sz (Kl.ct x))) ∧ Kl.Gr w w'
set_option maxRecDepth 100000 in
set_option maxHeartbeats 2000000 in
theorem klRefSize1 (o v n : Int) (p : Option Addr) (c : Nat) (l : List Kl.Fv) (ih : ∀ a ∈ l, Kl.SzR a) : Kl.SzR (.mk o v n p c l) := by
  intro w hs hx
  obtain ⟨x1, x2, x3⟩ := hx.row
  obtain ⟨S, hS⟩ : ∃ S, Kl.sz (Kl.ct (.mk o v n p c l)) = S := ⟨_, rfl⟩
  rw [hS] at hs ⊢
  have HR : Hid (1 + Kl.szs (Kl.cts (l.drop 0)) = S) := by rw [← hS, Kl.sz_mk]; exact rfl
  obtain ⟨k1, hk1⟩ : ∃ k, l.length = k := ⟨_, rfl⟩
  simp only [Kl.Fv.enc]
  rw [hk1] at x1 x3 ⊢
  have X3 := hide' x3
  have K1 := hide' hk1
  have IH := hide' ih
  clear x3 hk1 hx ih hS
  go_enter Try.func26, Try.ntmps26
  go_wp2_with fail
  go_loopw [3, 9] (fun a u wr => ∃ i s : Nat, u = .int .i64 i ∧ a = .int .i64 s ∧ i ≤ k1 ∧ Hid (s + Kl.szs (Kl.cts (l.drop i)) = S) ∧ Hid (Kl.Gr w wr)) (fun _ u _ => k1 - (RowKit.intOf u).toNat)
  case atStart => exact ⟨0, 1, rfl, rfl, Nat.zero_le _, HR, (Kl.Gr.refl _).alloc _⟩
  case round =>
    clear HR
    obtain ⟨i, s, rfl, rfl, hi1, HI, HG⟩ := hrel
    by_cases hlt : i < k1
    · have t1 : (i : Int) < (k1 : Int) := by omega
      obtain ⟨b, o1, rfl, kx⟩ := X3.out (by omega)
      obtain ⟨x, hx⟩ := Kl.some_of (l := l) (i := i) (by rw [K1.out]; exact hlt)
      obtain ⟨rx, ox⟩ := kx i x hx
      have HST := hide' (Kl.szs_step hx)
      have HC := hide' (IH.out x (List.mem_of_getElem? hx))
      have HOX := hide' ox
      obtain ⟨g, hg⟩ : ∃ g, Kl.sz (Kl.ct x) = g := ⟨_, rfl⟩
      unfold Kl.SzR at HC
      have hle : s + g ≤ 1048576 := by have := HI.out; rw [HST.out, hg] at this; omega
      have HC2 := hide' (fun w' h => HC.out w' (by rw [hg]; omega) h)
      rw [hg] at HC2 HST
      obtain ⟨xo, xv, xn, xp, xc, xl⟩ := x
      obtain ⟨a0, a1, a2, a3⟩ := Kl.cells4 rx
      have q0 := HG.out.cell a0
      have q1 := HG.out.cell a1
      have q2 := HG.out.cell a2
      have q3 := HG.out.cell a3
      obtain ⟨kx', hkx⟩ : ∃ k, xl.length = k := ⟨_, rfl⟩
      simp only [Kl.Fv.enc, hkx] at HC2 q3
      clear hx rx ox kx X3 hg a0 a1 a2 a3 hkx IH HC
      go_wp2_with (go_at_call 26; refine (HC2.out _ ((HG.out.alloc _).ok HOX.out)).mono ?_; rintro e w' ⟨rfl, HGr⟩)
      go_roundw
      case rel => exact ⟨i + 1, s + g, by go_num, by go_num, by omega, by have := HI.out; rw [HST.out] at this; show s + g + _ = S; omega, (HG.out.alloc _).trans HGr⟩
      case measure => simp [RowKit.intOf]; omega
    · have t1 : ¬ (i : Int) < (k1 : Int) := by omega
      have hz : s = S := by have := HI.out; rw [Kl.szs_end (by rw [K1.out]; omega)] at this; omega
      subst hz
      clear X3 IH HI
      go_wp2_with fail
      go_ret
      exact ⟨rfl, HG.out⟩
theorem klRefSize : ∀ x : Kl.Fv, Kl.SzR x := Kl.Fv.ind fun o v n p c l ih => klRefSize1 o v n p c l ih
end Go.Proofs.Ytipnhfnjoaoceaa
