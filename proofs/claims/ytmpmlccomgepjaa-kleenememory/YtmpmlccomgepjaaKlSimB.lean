/-
  THE WALK over kleene.Simplify, asked badly: the zero formula and ErrShape.
-/
import Derived.Test.YtmpmlccomgepjaaKlEvalO
namespace Go.Proofs.Ytmpmlccomgepjaa
open Go.RowKit Go.Lib Go.Sort
set_option maxRecDepth 100000 in
set_option maxHeartbeats 1000000 in
theorem klSimplifyBad (x : Kl.Fv) (vv : Value) (vs : List Int) (w : World) (hx : Kl.Ok w x) (hv : Kl.Ts w vv vs) (hs : Kl.sz (Kl.ct x) ≤ 131072) (hbad : Kl.okE vs (Kl.ct x) = false) :
    Calls Try.prog 8 #[.agg x.enc.toArray, vv] w fun e w' => e = .returned (.tuple #[.agg #[.int .i64 0, .int .i64 0, .int .i64 0, .slice none 0 0], .int .i64 6]) ∧ Below w.heap.size w w' := by
  have CC := hide' (fun w' (g : Below w.heap.size w w') => klCheckWith x vv vs w' (hx.below g) (hv.below g))
  rw [Kl.isF_isG _ _ hs] at CC
  have hok : (Kl.goodL vs && Kl.isG (Kl.ct x)) = false := hbad
  rw [hok] at CC
  simp only [Kl.erO] at CC
  obtain ⟨pv, cv, rfl, _⟩ := hv
  obtain ⟨nv, hnv⟩ : ∃ n, vs.length = n := ⟨_, rfl⟩
  obtain ⟨xo, xv, xn, xp, xc, xl⟩ := x
  obtain ⟨kx, hkx⟩ : ∃ k, xl.length = k := ⟨_, rfl⟩
  simp only [Kl.Fv.enc, hkx, hnv] at CC ⊢
  obtain ⟨W, hWd⟩ : ∃ W, (w.alloc (.cells #[.int .i64 xo, .int .i64 xv, .int .i64 xn, .slice xp kx xc] 26)).alloc (.cells #[.int .i64 0, .int .i64 0, .int .i64 0, .slice none 0 0] 26) = W := ⟨_, rfl⟩
  have HBW : Hid (Below w.heap.size w W) := by rw [← hWd]; exact ((Below.refl _ _).alloc (Nat.le_refl _) _).alloc (by simp) _
  have HZ : Hid (W.heap.size = w.heap.size + 2) := by show W.heap.size = _; rw [← hWd]; simp
  have HD : Hid (W.cell? ⟨w.heap.size + 1, 0, none⟩ = some (.int .i64 0) ∧ W.cell? ⟨w.heap.size + 1, 1, none⟩ = some (.int .i64 0) ∧ W.cell? ⟨w.heap.size + 1, 2, none⟩ = some (.int .i64 0) ∧ W.cell? ⟨w.heap.size + 1, 3, none⟩ = some (.slice none 0 0)) := by rw [← hWd]; refine ⟨?_, ?_, ?_, ?_⟩ <;> simp
  have HF : Hid (∀ o, W.frozen? ⟨w.heap.size + 1, o, none⟩ = false) := fun o => by rw [← hWd]; simp
  have HWd := hide' hWd
  clear hx hs hkx hWd hok hnv hbad
  go_enter Try.func8, Try.ntmps8
  go_wp2_with fail
  rw [HWd.out]
  refine (CC.out W HBW.out).mono ?_
  rintro e w1 ⟨rfl, HG1⟩
  obtain ⟨g0, g1, g2, g3⟩ := HD.out
  have d0 := HG1.cell g0
  have d1 := HG1.cell g1
  have d2 := HG1.cell g2
  have d3 := HG1.cell g3
  have hlt : w.heap.size + 1 < W.heap.size := by rw [HZ.out]; omega
  have d4 : ∀ o, w1.frozen? ⟨w.heap.size + 1, o, none⟩ = false := fun o => (HG1.below.frozen (p := ⟨w.heap.size + 1, o, none⟩) hlt).trans (HF.out o)
  have hzw : w.heap.size + 1 < w1.heap.size := Nat.lt_of_lt_of_le hlt HG1.below.size
  have HB1 := hide' (HBW.out.trans (HG1.below.mono HBW.out.size))
  clear HG1 g0 g1 g2 g3 CC hlt
  go_wp2_with fail
  refine bodyPost_ret (v := .tuple #[.agg #[.int .i64 0, .int .i64 0, .int .i64 0, .slice none 0 0], .int .i64 6]) (by simp [results, Try.results8, go_sem, d0, d1, d2, d3]) rfl ?_
  refine ⟨rfl, Below.setCell (Below.setCell (Below.setCell (Below.setCell HB1.out ?_ _) ?_ _) ?_ _) ?_ _⟩
  all_goals exact Nat.le_succ _
end Go.Proofs.Ytmpmlccomgepjaa
