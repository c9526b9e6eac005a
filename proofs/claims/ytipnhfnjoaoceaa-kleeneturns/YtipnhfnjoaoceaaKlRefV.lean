/-
  THE WALK over gimletref14.Vars.
-/
import Derived.Test.YtipnhfnjoaoceaaKlVars
namespace Go.Proofs.Ytipnhfnjoaoceaa
open Go.RowKit Go.Lib Go.Sort
namespace Kl
theorem owns_gr {w w' : World} {base n k : Nat} {e : TypeId} {v : Value} {xs : List Value} (h : w.ownsRow base e k v n xs) (hg : Gr w w') : w'.ownsRow base e k v n xs := by
  refine ⟨h.1, ?_⟩
  rcases h.2 with h0 | ⟨g, cap, cur, h1, h2, h3, h4⟩
  · exact .inl h0
  · refine .inr ⟨g, cap, cur, h1, h2, ?_, h4⟩
    have hlt : g < w.heap.size := (Array.getElem?_eq_some_iff.1 h3).1
    rw [hg.below.block g hlt]
    exact h3
end Kl
set_option maxRecDepth 100000 in
set_option maxHeartbeats 2000000 in
theorem klRefVars (x : Kl.Fv) (w : World) (hx : Kl.Ok w x) (hG : Kl.isG (Kl.ct x) = true) : Calls Try.prog 25 #[.agg x.enc.toArray] w fun r w' => ∃ v, r = .returned v ∧ Hid (Kl.Ts w' v (Kl.vr (Kl.ct x) (Kl.gre (Kl.ct x) + 1).toNat)) ∧ Hid (Below w.heap.size w w') := by
  obtain ⟨i0, hi, hz0, hz1, hz2⟩ := info_parts Kl.inInfo
  have CG := hide' (fun w' (g : Below w.heap.size w w') => klGreatest x w' (hx.below g))
  have CH := hide' (fun (q : Int) w' (g : Below w.heap.size w w') => klHolds q x w' (hx.below g))
  obtain ⟨r1, r2⟩ := Kl.gre_rng _ hG
  obtain ⟨f, hf⟩ : ∃ f, Kl.ct x = f := ⟨_, rfl⟩
  simp only [hf] at CG CH r1 r2 ⊢
  obtain ⟨g, hg⟩ : ∃ g, Kl.gre f = g := ⟨_, rfl⟩
  simp only [hg] at CG r1 r2 ⊢
  obtain ⟨N, hN⟩ : ∃ N, (g + 1).toNat = N := ⟨_, rfl⟩
  have hNg : (N : Int) = g + 1 := by omega
  rw [hN]
  obtain ⟨xo, xv, xn, xp, xc, xl⟩ := x
  obtain ⟨kx, hkx⟩ : ∃ k, xl.length = k := ⟨_, rfl⟩
  simp only [Kl.Fv.enc, hkx] at CG CH ⊢
  obtain ⟨W, hWd⟩ : ∃ W, w.alloc (.cells #[.int .i64 xo, .int .i64 xv, .int .i64 xn, .slice xp kx xc] 37) = W := ⟨_, rfl⟩
  have HBW : Hid (Below w.heap.size w W) := by rw [← hWd]; exact (Below.refl _ _).alloc (Nat.le_refl _) _
  have HZ : Hid (W.heap.size = w.heap.size + 1) := by show W.heap.size = _; rw [← hWd]; simp
  have HB0 : Hid (W.cell? ⟨w.heap.size, 0, none⟩ = some (.int .i64 xo) ∧ W.cell? ⟨w.heap.size, 1, none⟩ = some (.int .i64 xv) ∧ W.cell? ⟨w.heap.size, 2, none⟩ = some (.int .i64 xn) ∧ W.cell? ⟨w.heap.size, 3, none⟩ = some (.slice xp kx xc)) := by rw [← hWd]; refine ⟨?_, ?_, ?_, ?_⟩ <;> simp
  have HWd := hide' hWd
  have HF := hide' hf
  clear hx hG hf hg hN hkx hWd
  go_enter Try.func25, Try.ntmps25
  go_wp2_with fail
  rw [HWd.out]
  go_loopw [3, 4] (fun a u wr => ∃ (i : Nat), u = .int .i64 i ∧ i ≤ N ∧ Hid (wr.ownsRow W.heap.size 3 1 a (Kl.vr f i).length (Kl.ic (Kl.vr f i))) ∧ Hid (Below W.heap.size W wr)) (fun _ u _ => N - (RowKit.intOf u).toNat)
  case atStart => exact ⟨0, rfl, Nat.zero_le _, World.ownsRow_nil W _ _ _, Below.refl _ _⟩
  case round =>
    obtain ⟨i, rfl, hi1, HO, HB⟩ := hrel
    obtain ⟨g0, g1, g2, g3⟩ := HB0.out
    have hw0 : w.heap.size < W.heap.size := by rw [HZ.out]; omega
    have q0 := (HB.out.cell (p := ⟨w.heap.size, 0, none⟩) hw0).trans g0
    have q1 := (HB.out.cell (p := ⟨w.heap.size, 1, none⟩) hw0).trans g1
    have q2 := (HB.out.cell (p := ⟨w.heap.size, 2, none⟩) hw0).trans g2
    have q3 := (HB.out.cell (p := ⟨w.heap.size, 3, none⟩) hw0).trans g3
    have HBF : Hid (Below w.heap.size w wr) := HBW.out.trans (HB.out.mono (by omega))
    clear g0 g1 g2 g3 hw0
    go_wp2_with fail
    refine (CG.out wr HBF.out).mono ?_
    rintro e w1 ⟨rfl, HG1⟩
    have p0 := HG1.cell q0
    have p1 := HG1.cell q1
    have p2 := HG1.cell q2
    have p3 := HG1.cell q3
    have HG1' := hide' HG1
    clear q0 q1 q2 q3 HG1
    by_cases hlt : i < N
    · have t1 : (i : Int) ≤ g := by omega
      have HBF1 : Hid (Below w.heap.size w w1) := HBF.out.trans (HG1'.out.below.mono HBF.out.size)
      have CH2 := hide' (CH.out i w1 HBF1.out)
      obtain ⟨h, hh⟩ : ∃ h, Kl.hol i f = h := ⟨_, rfl⟩
      have HS := hide' (Kl.vr_succ f i)
      rw [hh] at CH2 HS
      have HB1 : Hid (Below W.heap.size W w1) := HB.out.trans (HG1'.out.below.mono HB.out.size)
      have HO1 : Hid (w1.ownsRow W.heap.size 3 1 _ (Kl.vr f i).length (Kl.ic (Kl.vr f i))) := Kl.owns_gr HO.out HG1'.out
      clear hh
      go_wp2_with fail
      refine CH2.out.mono ?_
      rintro e w2 ⟨rfl, HG2⟩
      have HB2 : Hid (Below W.heap.size W w2) := HB1.out.trans (HG2.below.mono HB1.out.size)
      have HO2 : Hid (w2.ownsRow W.heap.size 3 1 _ (Kl.vr f i).length (Kl.ic (Kl.vr f i))) := Kl.owns_gr HO1.out HG2
      clear HG2 CH2 HO HO1 p0 p1 p2 p3
      cases h with
      | false =>
        have HE : Hid (Kl.vr f (i + 1) = Kl.vr f i) := by show _ = _; rw [HS.out]; simp
        go_wp2_with fail
        go_roundw
        case rel => exact ⟨i + 1, by go_num, by omega, by rw [HE.out]; exact HO2, HB2⟩
        case measure => simp [RowKit.intOf]; omega
      | true =>
        have HE : Hid (Kl.vr f (i + 1) = Kl.vr f i ++ [(i : Int)]) := by show _ = _; rw [HS.out]; simp
        obtain ⟨kv, hkv⟩ : ∃ k, (Kl.vr f i).length = k := ⟨_, rfl⟩
        have hkb : kv ≤ i := by rw [← hkv]; exact Kl.vr_len f i
        have HKV := hide' hkv
        have hbs := HB2.out.size
        clear hkv
        go_wp2_with (at_builtin; refine wpList_append_own _ rfl _ _ 28 rfl W.heap.size 3 i0 (.int .i64 0) 1 8 Try.underlying28 hi hz0 hz1 hz2 rfl (by decide) _ (Kl.vr f i).length (Kl.ic (Kl.vr f i)) rfl (HO2.out.alloc _) ⟨w2.heap.size, 0, none⟩ 1 1 [.int .i64 i] rfl rfl ?d1 ?d2 ?d3 ?d4 ?d5 ?_)
        case d1 => exact Kl.new_one w2 i _
        case d2 => intro u hu; simp at hu; subst hu; rfl
        case d3 => rw [HKV.out]; unfold maxLen; omega
        case d4 => rw [HKV.out]; omega
        case d5 => simp; omega
        intro v' w3 hown' hg3 _
        have HB3 := hide' ((HB2.out.alloc HB2.out.size (.cells #[.int .i64 i] 3)).grown hg3 (by simp; omega) (fun j hj => (HO2.out.lt j hj).1))
        have HO3 : Hid (w3.ownsRow W.heap.size 3 1 v' (Kl.vr f (i + 1)).length (Kl.ic (Kl.vr f (i + 1)))) := by
          rw [HE.out, Kl.ic_app, List.length_append]
          exact hown'
        clear hown' hg3 HO2
        go_wp2_with fail
        go_roundw
        case rel => exact ⟨i + 1, by go_num, by omega, HO3, HB3⟩
        case measure => simp [RowKit.intOf]; omega
    · have t1 : ¬ (i : Int) ≤ g := by omega
      obtain rfl : i = N := by omega
      have HO1 : Hid (w1.ownsRow W.heap.size 3 1 _ (Kl.vr f i).length (Kl.ic (Kl.vr f i))) := Kl.owns_gr HO.out HG1'.out
      have HT := hide' (Kl.owns_Ts HO1.out)
      clear HO HO1
      go_wp2_with fail
      go_ret
      exact ⟨_, rfl, HT, HBF.out.trans (HG1'.out.below.mono HBF.out.size)⟩
end Go.Proofs.Ytipnhfnjoaoceaa
