/-
  THE WALK over gimletlaw14.same, of formulas that say the same.
-/
import Derived.Test.YtmpmlccomgepjaaKlChkB
import Derived.Test.YtmpmlccomgepjaaKlCpt
import Derived.BigGuard
namespace Go.Proofs.Ytmpmlccomgepjaa
open Go.RowKit Go.Lib Go.Sort
namespace Kl
def SamE (x : Fv) : Prop := ∀ (y : Fv) w, ct x = ct y → Ok w x → Ok w y → Calls Try.prog 9 #[.agg x.enc.toArray, .agg y.enc.toArray] w fun e w' => e = .returned (.bool true) ∧ Gr w w'
theorem cts_get {l m : List Fv} (h : cts l = cts m) {i : Nat} {x : Fv} (hx : l[i]? = some x) : ∃ y, m[i]? = some y ∧ ct x = ct y := by
  have h1 : (cts l)[i]? = some (ct x) := by rw [cts_map, List.getElem?_map, hx]; rfl
  rw [h, cts_map, List.getElem?_map] at h1
  cases e : m[i]? with
  | none => rw [e] at h1; cases h1
  | some y => rw [e] at h1; simp at h1; exact ⟨y, rfl, h1.symm⟩
end Kl
set_option maxRecDepth 100000 in
set_option maxHeartbeats 4000000 in
theorem klSame1 (o v n : Int) (p : Option Addr) (c : Nat) (l : List Kl.Fv) (ih : ∀ a ∈ l, Kl.SamE a) : Kl.SamE (.mk o v n p c l) := by
  intro y w he hx hy
  have mixed : Try.prog.follows Departure.mixedOrders = true := by kernel_rfl
  obtain ⟨o', v', n', p', c', l'⟩ := y
  rw [Kl.ct, Kl.ct] at he
  injection he with e1 e2 e3 e4
  subst e1 e2 e3
  have hlen : l'.length = l.length := by have := congrArg List.length e4; rw [Kl.cts_len, Kl.cts_len] at this; exact this.symm
  obtain ⟨x1, x2, x3⟩ := hx.row
  obtain ⟨y1, y2, y3⟩ := hy.row
  obtain ⟨k1, hk1⟩ : ∃ k, l.length = k := ⟨_, rfl⟩
  rw [hlen] at y1 y3
  simp only [Kl.Fv.enc]
  rw [hlen]
  rw [hk1] at x1 x3 y1 y3 ⊢
  obtain ⟨W, hWd⟩ : ∃ W, (w.alloc (.cells #[.int .i64 o, .int .i64 v, .int .i64 n, .slice p k1 c] 26)).alloc (.cells #[.int .i64 o, .int .i64 v, .int .i64 n, .slice p' k1 c'] 26) = W := ⟨_, rfl⟩
  have HGW : Hid (Kl.Gr w W) := by rw [← hWd]; exact ((Kl.Gr.refl _).alloc _).alloc _
  have HJ : Hid (W.cell? ⟨w.heap.size, 3, none⟩ = some (.slice p k1 c)) := by show W.cell? _ = _; rw [← hWd]; simp
  have HJ2 : Hid (W.cell? ⟨w.heap.size + 1, 3, none⟩ = some (.slice p' k1 c')) := by show W.cell? _ = _; rw [← hWd]; simp
  have X3 := hide' x3
  have Y3 := hide' y3
  have K1 := hide' hk1
  have IH := hide' ih
  have HE := hide' e4
  have HWd := hide' hWd
  clear x3 y3 hk1 hx hy ih e4 hWd hlen
  go_enter Try.func9, Try.ntmps9
  go_wp2_with fail
  rw [HWd.out]
  go_loopw [37] (fun u wr => ∃ i : Nat, u = .int .i64 i ∧ i ≤ k1 ∧ Hid (Kl.Gr W wr)) (fun u _ => k1 - (RowKit.intOf u).toNat)
  case atStart => exact ⟨0, rfl, Nat.zero_le _, Kl.Gr.refl _⟩
  case round =>
    obtain ⟨i, rfl, hi1, HG⟩ := hrel
    by_cases hlt : i < k1
    · have t1 : (i : Int) < (k1 : Int) := by omega
      obtain ⟨b, o1, rfl, kx⟩ := X3.out (by omega)
      obtain ⟨b', o2, rfl, ky⟩ := Y3.out (by omega)
      obtain ⟨x, hx⟩ := Kl.some_of (l := l) (i := i) (by rw [K1.out]; exact hlt)
      obtain ⟨y, hy, hxy⟩ := Kl.cts_get HE.out hx
      obtain ⟨c1, ox⟩ := kx i x hx
      obtain ⟨c2, oy⟩ := ky i y hy
      have HGF : Hid (Kl.Gr w wr) := HGW.out.trans HG.out
      have hc := IH.out x (List.mem_of_getElem? hx)
      unfold Kl.SamE at hc
      have hq := fun q os => hc y (grow (wr.drewN q) os) hxy ((HGF.out.ok ox).grown q os) ((HGF.out.ok oy).grown q os)
      obtain ⟨xo, xv, xn, xp, xc, xl⟩ := x
      obtain ⟨yo, yv, yn, yp, yc, yl⟩ := y
      obtain ⟨kx', hkx⟩ : ∃ k, xl.length = k := ⟨_, rfl⟩
      obtain ⟨ky', hky⟩ : ∃ k, yl.length = k := ⟨_, rfl⟩
      simp only [Kl.Fv.enc, hkx, hky] at hq
      have p0 := fun q os => cell_grown (block_lt_of_cell (HGF.out.cell (Kl.cells4 c1).1)) (HGF.out.cell (Kl.cells4 c1).1) q os
      have p1 := fun q os => cell_grown (block_lt_of_cell (HGF.out.cell (Kl.cells4 c1).2.1)) (HGF.out.cell (Kl.cells4 c1).2.1) q os
      have p2 := fun q os => cell_grown (block_lt_of_cell (HGF.out.cell (Kl.cells4 c1).2.2.1)) (HGF.out.cell (Kl.cells4 c1).2.2.1) q os
      have p3 := fun q os => cell_grown (block_lt_of_cell (HGF.out.cell (Kl.cells4 c1).2.2.2)) (HGF.out.cell (Kl.cells4 c1).2.2.2) q os
      have r0 := fun q os => cell_grown (block_lt_of_cell (HGF.out.cell (Kl.cells4 c2).1)) (HGF.out.cell (Kl.cells4 c2).1) q os
      have r1 := fun q os => cell_grown (block_lt_of_cell (HGF.out.cell (Kl.cells4 c2).2.1)) (HGF.out.cell (Kl.cells4 c2).2.1) q os
      have r2 := fun q os => cell_grown (block_lt_of_cell (HGF.out.cell (Kl.cells4 c2).2.2.1)) (HGF.out.cell (Kl.cells4 c2).2.2.1) q os
      have r3 := fun q os => cell_grown (block_lt_of_cell (HGF.out.cell (Kl.cells4 c2).2.2.2)) (HGF.out.cell (Kl.cells4 c2).2.2.2) q os
      have s0 := fun q os => cell_grown (block_lt_of_cell (HG.out.cell HJ.out)) (HG.out.cell HJ.out) q os
      have s1 := fun q os => cell_grown (block_lt_of_cell (HG.out.cell HJ2.out)) (HG.out.cell HJ2.out) q os
      simp only [hkx] at p3
      simp only [hky] at r3
      have HQ := hide' hq
      clear c1 c2 ox oy hx hy hxy hkx hky hq hc kx ky X3 Y3 IH
      go_wp2_with fail
      go_quiet_grown (first | (go_at_call 9; refine Calls.grown_of (HQ.out _ _)))
      have HG2 : Hid (Kl.Gr W (grow (wr.drewN nq) osq)) := HG.out.trans ⟨nq, osq, rfl⟩
      clear p0 p1 p2 p3 r0 r1 r2 r3 s0 s1 HQ
      go_wp2_with fail
      go_roundw
      case rel => exact ⟨i + 1, by go_num, by omega, HG2⟩
      case measure => simp [RowKit.intOf]; omega
    · have t1 : ¬ (i : Int) < (k1 : Int) := by omega
      clear X3 Y3 IH
      go_wp2_with fail
      go_ret
      exact ⟨rfl, HGW.out.trans HG.out⟩
theorem klSame : ∀ x : Kl.Fv, Kl.SamE x := Kl.Fv.ind fun o v n p c l ih => klSame1 o v n p c l ih
end Go.Proofs.Ytmpmlccomgepjaa
