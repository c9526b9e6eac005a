/-
  THE WALK over kleene.Eval.
-/
import Derived.Test.YtipnhfnjoaoceaaKlEval
import Derived.Test.YtipnhfnjoaoceaaKlFix
namespace Go.Proofs.Ytipnhfnjoaoceaa
open Go.RowKit Go.Lib Go.Sort
namespace Kl
/-- is it asked well? -/
def okE (vs : List Int) (f : Fm) : Bool := goodL vs && isG f
end Kl
set_option maxRecDepth 100000 in
set_option maxHeartbeats 1000000 in
theorem klEval (x : Kl.Fv) (vv : Value) (vs : List Int) (w : World) (hx : Kl.Ok w x) (hv : Kl.Ts w vv vs) (hs : Kl.sz (Kl.ct x) ≤ 131072) : Calls Try.prog 27 #[.agg x.enc.toArray, vv] w fun e w' => e = .returned (.tuple #[.int .i64 (if Kl.okE vs (Kl.ct x) then Kl.ev vs (Kl.ct x) else 0), .int .i64 (Kl.erO (Kl.okE vs (Kl.ct x)))]) ∧ Below w.heap.size w w' := by
  have CC := hide' (fun w' (g : Below w.heap.size w w') => klCheckWith x vv vs w' (hx.below g) (hv.below g))
  have CW := hide' (fun (hG : Kl.isG (Kl.ct x) = true) w' (g : Below w.heap.size w w') => klWorth vv vs x (by obtain ⟨p, c, e, _⟩ := hv; exact ⟨p, _, c, e⟩) w' hG (by omega) (hx.below g) (hv.below g))
  rw [Kl.isF_isG _ _ hs] at CC
  have HG : Hid (Kl.okE vs (Kl.ct x) = true → Kl.isG (Kl.ct x) = true) := fun h => by unfold Kl.okE at h; simp at h; exact h.2
  have hok : (Kl.goodL vs && Kl.isG (Kl.ct x)) = Kl.okE vs (Kl.ct x) := rfl
  rw [hok] at CC
  obtain ⟨t, ht⟩ : ∃ t, Kl.okE vs (Kl.ct x) = t := ⟨_, rfl⟩
  obtain ⟨s, hS⟩ : ∃ s, Kl.ev vs (Kl.ct x) = s := ⟨_, rfl⟩
  simp only [ht, hS] at CC CW HG ⊢
  obtain ⟨pv, cv, rfl, _⟩ := hv
  obtain ⟨nv, hnv⟩ : ∃ n, vs.length = n := ⟨_, rfl⟩
  obtain ⟨xo, xv, xn, xp, xc, xl⟩ := x
  obtain ⟨kx, hkx⟩ : ∃ k, xl.length = k := ⟨_, rfl⟩
  simp only [Kl.Fv.enc, hkx, hnv] at CC CW ⊢
  obtain ⟨W, hWd⟩ : ∃ W, w.alloc (.cells #[.int .i64 xo, .int .i64 xv, .int .i64 xn, .slice xp kx xc] 37) = W := ⟨_, rfl⟩
  have HGW : Hid (Below w.heap.size w W) := by rw [← hWd]; exact (Below.refl _ _).alloc (Nat.le_refl _) _
  have HB0 : Hid (W.cell? ⟨w.heap.size, 0, none⟩ = some (.int .i64 xo) ∧ W.cell? ⟨w.heap.size, 1, none⟩ = some (.int .i64 xv) ∧ W.cell? ⟨w.heap.size, 2, none⟩ = some (.int .i64 xn) ∧ W.cell? ⟨w.heap.size, 3, none⟩ = some (.slice xp kx xc)) := by rw [← hWd]; refine ⟨?_, ?_, ?_, ?_⟩ <;> simp
  obtain ⟨g0, g1, g2, g3⟩ := HB0.out
  have HWd := hide' hWd
  clear hx hs ht hS hkx hWd HB0 hok hnv
  go_enter Try.func27, Try.ntmps27
  go_wp2_with fail
  rw [HWd.out]
  refine (CC.out W HGW.out).mono ?_
  rintro e w1 ⟨rfl, HG1⟩
  have q0 := HG1.cell g0
  have q1 := HG1.cell g1
  have q2 := HG1.cell g2
  have q3 := HG1.cell g3
  have HB1 := hide' (HGW.out.trans (HG1.below.mono HGW.out.size))
  clear HG1 g0 g1 g2 g3 CC
  cases t with
  | false =>
    simp only [Kl.erO]
    go_wp2_with fail
    refine bodyPost_ret (v := .tuple #[.int .i64 0, .int .i64 6]) (by simp [results, Try.results27, go_sem]) rfl ?_
    exact ⟨rfl, HB1.out⟩
  | true =>
    have CW2 := hide' (CW.out (HG.out (by first | rfl | trivial)))
    clear CW HG
    simp only [Kl.erO]
    go_wp2_with fail
    refine (CW2.out _ HB1.out).mono ?_
    rintro e w2 ⟨rfl, hb2⟩
    have HB2 := hide' (HB1.out.trans (hb2.mono HB1.out.size))
    clear hb2 q0 q1 q2 q3
    go_wp2_with fail
    refine bodyPost_ret (v := .tuple #[.int .i64 s, .int .i64 0]) (by simp [results, Try.results27, go_sem]) rfl ?_
    exact ⟨rfl, HB2.out⟩
end Go.Proofs.Ytipnhfnjoaoceaa
