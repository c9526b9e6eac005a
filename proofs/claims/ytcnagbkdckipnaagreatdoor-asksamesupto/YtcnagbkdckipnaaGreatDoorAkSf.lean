import Derived.Test.YtcnagbkdckipnaaGreatDoorAkJn
import Derived.Test.YtcnagbkdckipnaaGreatDoorAkLeM
/-
  THE WALK over the parser's within, where the part is a closure (gen_akwic.py writes this text).
-/
namespace Go.Proofs.YtcnagbkdckipnaaGreatDoor
open Go.RowKit Go.Lib
set_option maxRecDepth 100000 in
set_option maxHeartbeats 4000000 in
theorem akWithinC (W : World) (P : Nat) (qv wv : Value) (n : Nat) (ws : Nat → Ak.Wo) (en : Ak.Wo) (at_ op mo : Nat) (h0 : Ak.Ps W P qv wv n ws at_ op mo) (hat : at_ < n) (hg : Ak.GU P qv wv n ws en) (F : FuncId) (first : Array Value) (eg : ∀ w, (callFunc F first).run Tryz.prog w = .ok (.enter F first) w) (last : ByteArray) (inner : Option Ak.RX)
    (hn : op = mo → inner = none)
    (hf : op < mo → ∃ f, inner = some f ∧ ∀ W1 a, Ak.Pb P W W1 → Ak.Ps W1 P qv wv n ws a (op + 1) mo → Calls Tryz.prog F first W1 (Ak.PrE P qv wv n ws en (op + 1) mo W1 (Ak.XV W1.heap.size) (f a))) :
    Calls Tryz.prog 100 #[.pointer (some ⟨P, 0, none⟩), .string last, .func (.func F) #[] first] W (Ak.PrE P qv wv n ws en op mo W (Ak.XV W.heap.size) (Ak.withinR n ws inner last at_)) := by
  obtain ⟨W1, hW1⟩ : ∃ X, X = W.alloc (.cells Ak.exZ 121) := ⟨_, rfl⟩
  have hb : Below W.heap.size W W1 := by rw [hW1]; exact (Below.refl _ _).alloc (Nat.le_refl _) _
  have hs : W1.heap.size = W.heap.size + 1 := by rw [hW1]; simp
  have hnew : W1.heap[W.heap.size]? = some (.cells Ak.exZ 121 (0, 0)) := by rw [hW1]; exact Ak.heap_new _ _
  have h := h0.below hb
  have H0 := hide' h0
  have HW1 := hide' hW1
  have HB := hide' hb
  have hPl : P < W.heap.size := h0.c.lt
  obtain ⟨N, hN⟩ : ∃ N, W.heap.size = N := ⟨_, rfl⟩
  rw [hN] at hnew
  have HN := hide' hnew
  have HG := hide' hg
  obtain ⟨_, c1, c2, c3, c4, c5⟩ := h.c.cells
  have f2 := c5 2
  have f3 := c5 3
  have H := hide' h
  have hmo := h.mom
  have hnn := h.nn
  clear hW1 hb hnew hg h0
  by_cases he : op = mo
  · subst he
    obtain rfl := hn rfl
    show Calls _ _ _ _ (Ak.PrE P qv wv n ws en op op W (Ak.XV N) (.bad at_ 102))
    clear h hf hn
    go_enter Tryz.func100, Tryz.ntmps100
    go_wp2_with fail
    change Code.wp _ _ _ _ (W.alloc (.cells Ak.exZ 121))
    rw [← HW1.out]
    go_quiet (fail)
    go_wp2_with fail
    refine (HG.out _ at_ op op 102 (H.out.below (below_drewN (Below.refl _ _) nq))).mono ?_
    rintro e w2 hv
    obtain ⟨d, rfl, h1, h2, h3⟩ := hv
    have HV := hide' (Ak.PrE.of_bad (qv := qv) (wv := wv) (op := op) (mo := op) (V := Ak.XV N) (Ak.GvE.pre ⟨d, rfl, h1, h2, h3⟩ (((Ak.Pb.of_below (b := P) HB.out)).drewN nq)))
    clear h1 h2 h3
    go_wp2_with fail
    exact ⟨rfl, HV.out⟩
  · have hlt : op < mo := Nat.lt_of_le_of_ne h.opm he
    obtain ⟨f, rfl, hf2⟩ := hf hlt
    have t2 : ((op : Int) == (mo : Int)) = false := by simp; omega
    have tw : IntKind.i64.wrap ((at_ : Int) + 1) = ((at_ + 1 : Nat) : Int) := by rw [IntKind.wrap_i64]; omega
    have tv : IntKind.i64.wrap ((op : Int) + 1) = ((op + 1 : Nat) : Int) := by rw [IntKind.wrap_i64]; omega
    have tu : IntKind.i64.wrap (op : Int) = (op : Int) := by rw [IntKind.wrap_i64]; omega
    have HF := hide' hf2
    clear h hf hf2 hn he
    go_enter Tryz.func100, Tryz.ntmps100
    go_wp2_with fail
    change Code.wp _ _ _ _ (W.alloc (.cells Ak.exZ 121))
    rw [← HW1.out]
    go_quiet (fail)
    obtain ⟨W2, hW2⟩ : ∃ X, X = W1.drewN nq := ⟨_, rfl⟩
    rw [← hW2]
    have h2 : Ak.Ps W2 P qv wv n ws at_ op mo := by rw [hW2]; exact H.out.below (below_drewN (Below.refl _ _) _)
    have q2 : Ak.Pb P W W2 := by rw [hW2]; exact (Ak.Pb.of_below (b := P) HB.out).drewN _
    have s2 : W2.heap.size = N + 1 := by rw [hW2]; show W1.heap.size = _; omega
    have hn2 : W2.heap[N]? = some (.cells Ak.exZ 121 (0, 0)) := by rw [hW2]; exact HN.out
    clear hW2
    obtain ⟨_, d1, d2, d3, d4, d5⟩ := h2.c.cells
    have g2 := d5 2
    have g3 := d5 3
    clear c1 c2 c3 c4 c5 f2 f3
    have HN2 := hide' hn2
    have h3 := (h2.go (Ak.Pb.set W2 P 2 (.int .i64 ((at_ + 1 : Nat) : Int))) (h2.c.set2 (at_ + 1)) hat h2.opm)
    have h4 := (h3.go (op' := op + 1) (Ak.Pb.set _ P 3 (.int .i64 ((op + 1 : Nat) : Int))) (h3.c.set3 (op + 1)) hat hlt)
    have q4 := (q2.setCell 2 (.int .i64 ((at_ + 1 : Nat) : Int))).setCell 3 (.int .i64 ((op + 1 : Nat) : Int))
    have hn4 := (Below.heap_setCell (W2.setCell ⟨P, 2, none⟩ (.int .i64 ((at_ + 1 : Nat) : Int))) ⟨P, 3, none⟩ (.int .i64 ((op + 1 : Nat) : Int)) N (by show N ≠ P; omega)).trans ((Below.heap_setCell W2 ⟨P, 2, none⟩ (.int .i64 ((at_ + 1 : Nat) : Int)) N (by show N ≠ P; omega)).trans hn2)
    go_wp2_with fail
    change Calls _ _ _ ((W2.setCell ⟨P, 2, none⟩ (.int .i64 ((at_ + 1 : Nat) : Int))).setCell ⟨P, 3, none⟩ (.int .i64 ((op + 1 : Nat) : Int))) _
    have s4 : ((W2.setCell ⟨P, 2, none⟩ (.int .i64 ((at_ + 1 : Nat) : Int))).setCell ⟨P, 3, none⟩ (.int .i64 ((op + 1 : Nat) : Int))).heap.size = N + 1 := by simp [s2]
    generalize (W2.setCell ⟨P, 2, none⟩ (.int .i64 ((at_ + 1 : Nat) : Int))).setCell ⟨P, 3, none⟩ (.int .i64 ((op + 1 : Nat) : Int)) = W4 at h4 q4 hn4 s4 ⊢
    have C := HF.out W4 (at_ + 1) q4 h4
    clear h2 h3 q2 hn2 d1 d2 d3 d4 d5 g2 g3 s2 HN2 h4
    have HN4 := hide' hn4
    have HQ4 := hide' q4
    clear hn4 q4
    obtain ⟨R, hR⟩ : ∃ R, f (at_ + 1) = R := ⟨_, rfl⟩
    rw [hR] at C
    have HR := hide' hR
    clear hR HF
    cases R with
    | bad a why =>
      refine C.mono ?_
      rintro e w5 hv
      obtain ⟨d, rfl, h1, h2, h3⟩ := hv
      have HV := hide' (Ak.PrE.of_bad (qv := qv) (wv := wv) (op := op) (mo := mo) (V := Ak.XV N) (Ak.GvE.pre ⟨d, rfl, h1, h2, h3⟩ HQ4.out))
      clear h1 h2 h3 C
      go_wp2_with fail
      refine ⟨rfl, ?_⟩
      rw [show Ak.withinR n ws (some f) last at_ = .bad a why by unfold Ak.withinR; dsimp only; rw [HR.out]; rfl]
      exact HV.out
    | ok x a =>
      obtain ⟨R2, hR2⟩ : ∃ R, Ak.needR n ws a last = R := ⟨_, rfl⟩
      have HR2 := hide' hR2
      clear hR2
      refine C.mono ?_
      rintro e w5 ⟨v, rfl, hx, hb5, hp5⟩
      obtain ⟨xo, xp, xl, xc, sp, sl, sc, xa, xm, xt, xn, rfl⟩ := hx.cells
      have HX := hide' hx
      have HB5 := hide' (HQ4.out.trans hb5)
      have HN5 := hide' ((hb5.block N (by omega) (by omega)).trans HN4.out)
      have hs5 := hb5.size
      have hba : Below w5.heap.size w5 (w5.alloc (.cells #[.int .i64 xo, .slice xp xl xc, .slice sp sl sc, .string xa, .int .i64 xm, .string xt, .int .i64 xn] 121)) := (Below.refl _ _).alloc (Nat.le_refl _) _
      have CN := hide' (akNeed (w5.alloc (.cells #[.int .i64 xo, .slice xp xl xc, .slice sp sl sc, .string xa, .int .i64 xm, .string xt, .int .i64 xn] 121)) P qv wv n ws en a (op + 1) mo (hp5.below hba) HG.out last)
      rw [HR2.out] at CN
      have HBA := hide' hba
      clear hx hb5 hp5 hba C
      go_wp2_with fail
      refine CN.out.mono ?_
      clear CN
      cases R2 with
      | bad a2 why =>
        rintro e w6 hv
        obtain ⟨d, rfl, h1, h2, h3⟩ := hv
        have HV := hide' (Ak.PrE.of_bad (qv := qv) (wv := wv) (op := op) (mo := mo) (V := Ak.XV N) (Ak.GvE.pre ⟨d, rfl, h1, h2, h3⟩ (HB5.out.trans (.of_below HBA.out))))
        clear h1 h2 h3
        go_wp2_with fail
        refine ⟨rfl, ?_⟩
        rw [show Ak.withinR n ws (some f) last at_ = .bad a2 why by unfold Ak.withinR; dsimp only; rw [HR.out]; dsimp only [Ak.Res.bind]; rw [HR2.out]]
        exact HV.out
      | ok x2 a2 =>
        rintro e w6 ⟨v, rfl, rfl, hb6, hp6⟩
        obtain ⟨M, hM⟩ : ∃ M, w5.heap.size = M := ⟨_, rfl⟩
        have hPM : P ≠ M := by omega
        have hPN : P ≠ N := by omega
        have sA : (w5.alloc (.cells #[.int .i64 xo, .slice xp xl xc, .slice sp sl sc, .string xa, .int .i64 xm, .string xt, .int .i64 xn] 121)).heap.size = M + 1 := by simp [hM]
        have hm6 : w6.heap[M]? = some (.cells #[.int .i64 xo, .slice xp xl xc, .slice sp sl sc, .string xa, .int .i64 xm, .string xt, .int .i64 xn] 121 (0, 0)) := (hb6.block M (by rw [sA]; omega) (Ne.symm hPM)).trans (by rw [← hM]; exact Ak.heap_new _ _)
        have hn6 : w6.heap[N]? = some (.cells Ak.exZ 121 (0, 0)) := (hb6.block N (by rw [sA]; omega) (Ne.symm hPN)).trans ((HBA.out.block N (by omega)).trans HN5.out)
        have hm7 : (w6.setCell ⟨P, 3, none⟩ (.int .i64 (op : Int))).heap[M]? = some (.cells #[.int .i64 xo, .slice xp xl xc, .slice sp sl sc, .string xa, .int .i64 xm, .string xt, .int .i64 xn] 121 (0, 0)) := (Below.heap_setCell w6 ⟨P, 3, none⟩ _ M (Ne.symm hPM)).trans hm6
        have hn7 : (w6.setCell ⟨P, 3, none⟩ (.int .i64 (op : Int))).heap[N]? = some (.cells Ak.exZ 121 (0, 0)) := (Below.heap_setCell w6 ⟨P, 3, none⟩ _ N (Ne.symm hPN)).trans hn6
        obtain ⟨_, e1, e2, e3, e4, e5⟩ := hp6.c.cells
        have g3 := e5 3
        unfold Ak.exZ at hn7
        have m0 : (w6.setCell ⟨P, 3, none⟩ (.int .i64 (op : Int))).cell? ⟨M, 0, none⟩ = some (.int .i64 xo) := by rw [Lib.cell_of_heap hm7]; rfl
        have m1 : (w6.setCell ⟨P, 3, none⟩ (.int .i64 (op : Int))).cell? ⟨M, 1, none⟩ = some (.slice xp xl xc) := by rw [Lib.cell_of_heap hm7]; rfl
        have m2 : (w6.setCell ⟨P, 3, none⟩ (.int .i64 (op : Int))).cell? ⟨M, 2, none⟩ = some (.slice sp sl sc) := by rw [Lib.cell_of_heap hm7]; rfl
        have m3 : (w6.setCell ⟨P, 3, none⟩ (.int .i64 (op : Int))).cell? ⟨M, 3, none⟩ = some (.string xa) := by rw [Lib.cell_of_heap hm7]; rfl
        have m4 : (w6.setCell ⟨P, 3, none⟩ (.int .i64 (op : Int))).cell? ⟨M, 4, none⟩ = some (.int .i64 xm) := by rw [Lib.cell_of_heap hm7]; rfl
        have m5 : (w6.setCell ⟨P, 3, none⟩ (.int .i64 (op : Int))).cell? ⟨M, 5, none⟩ = some (.string xt) := by rw [Lib.cell_of_heap hm7]; rfl
        have m6 : (w6.setCell ⟨P, 3, none⟩ (.int .i64 (op : Int))).cell? ⟨M, 6, none⟩ = some (.int .i64 xn) := by rw [Lib.cell_of_heap hm7]; rfl
        have z0 : (w6.setCell ⟨P, 3, none⟩ (.int .i64 (op : Int))).cell? ⟨N, 0, none⟩ = some (.int .i64 0) := by rw [Lib.cell_of_heap hn7]; rfl
        have zf0 : (w6.setCell ⟨P, 3, none⟩ (.int .i64 (op : Int))).frozen? ⟨N, 0, none⟩ = false := Lib.frozen_of_heap hn7 0
        have z1 : (w6.setCell ⟨P, 3, none⟩ (.int .i64 (op : Int))).cell? ⟨N, 1, none⟩ = some (.slice none 0 0) := by rw [Lib.cell_of_heap hn7]; rfl
        have zf1 : (w6.setCell ⟨P, 3, none⟩ (.int .i64 (op : Int))).frozen? ⟨N, 1, none⟩ = false := Lib.frozen_of_heap hn7 1
        have z2 : (w6.setCell ⟨P, 3, none⟩ (.int .i64 (op : Int))).cell? ⟨N, 2, none⟩ = some (.slice none 0 0) := by rw [Lib.cell_of_heap hn7]; rfl
        have zf2 : (w6.setCell ⟨P, 3, none⟩ (.int .i64 (op : Int))).frozen? ⟨N, 2, none⟩ = false := Lib.frozen_of_heap hn7 2
        have z3 : (w6.setCell ⟨P, 3, none⟩ (.int .i64 (op : Int))).cell? ⟨N, 3, none⟩ = some (.string ⟨#[]⟩) := by rw [Lib.cell_of_heap hn7]; rfl
        have zf3 : (w6.setCell ⟨P, 3, none⟩ (.int .i64 (op : Int))).frozen? ⟨N, 3, none⟩ = false := Lib.frozen_of_heap hn7 3
        have z4 : (w6.setCell ⟨P, 3, none⟩ (.int .i64 (op : Int))).cell? ⟨N, 4, none⟩ = some (.int .i64 0) := by rw [Lib.cell_of_heap hn7]; rfl
        have zf4 : (w6.setCell ⟨P, 3, none⟩ (.int .i64 (op : Int))).frozen? ⟨N, 4, none⟩ = false := Lib.frozen_of_heap hn7 4
        have z5 : (w6.setCell ⟨P, 3, none⟩ (.int .i64 (op : Int))).cell? ⟨N, 5, none⟩ = some (.string ⟨#[]⟩) := by rw [Lib.cell_of_heap hn7]; rfl
        have zf5 : (w6.setCell ⟨P, 3, none⟩ (.int .i64 (op : Int))).frozen? ⟨N, 5, none⟩ = false := Lib.frozen_of_heap hn7 5
        have z6 : (w6.setCell ⟨P, 3, none⟩ (.int .i64 (op : Int))).cell? ⟨N, 6, none⟩ = some (.int .i64 0) := by rw [Lib.cell_of_heap hn7]; rfl
        have zf6 : (w6.setCell ⟨P, 3, none⟩ (.int .i64 (op : Int))).frozen? ⟨N, 6, none⟩ = false := Lib.frozen_of_heap hn7 6
        have HM7 := hide' hm7
        have HN7 := hide' hn7
        have HB6 := hide' hb6
        have HP6 := hide' hp6
        clear hb6 hp6 hm6 hn6 hm7 hn7 e5 e1 e2 e4
        go_wp2_with fail
        have hWN : W.heap.size ≤ N := by omega
        obtain ⟨f1, f2, f3⟩ := Ak.far7e (((HB5.out.trans (.of_below HBA.out)).trans HB6.out).setCell 3 (.int .i64 (op : Int))) hWN (HP6.out.c.set3 op) hPN (.int .i64 xo) (.slice xp xl xc) (.slice sp sl sc) (.string xa) (.int .i64 xm) (.string xt) (.int .i64 xn)
        have l7 := Ak.load7e HN7.out (.int .i64 xo) (.slice xp xl xc) (.slice sp sl sc) (.string xa) (.int .i64 xm) (.string xt) (.int .i64 xn)
        revert f1 f2 f3 l7
        generalize World.setCell _ ⟨N, 6, none⟩ (.int .i64 xn) = WF
        intro f1 f2 f3 l7
        refine bodyPost_ret (Ak.results_cell Tryz.results100 _ ⟨N, 0, none⟩ rfl _ _ l7) rfl ?_
        rw [show Ak.withinR n ws (some f) last at_ = .ok x a2 by unfold Ak.withinR; dsimp only; rw [HR.out]; dsimp only [Ak.Res.bind]; rw [HR2.out]]
        refine Ak.PrE.of_ok ?_ f1 (H0.out.go f1 f2 HP6.out.atn (Nat.le_of_lt hlt))
        obtain ⟨xv, g1, g2, g3, g4⟩ := HX.out
        refine ⟨xv, g1, g2, g3.imp xv fun a v ha e => ?_, fun b hb => Nat.le_trans (by omega) (g4 b hb)⟩
        have k1 := g4 _ ha
        have k2 := block_lt_of_cell e
        have k3 : a.block ≠ P := by omega
        have k4 : a.block ≠ N := by omega
        have c1 : (w5.alloc (.cells #[.int .i64 xo, .slice xp xl xc, .slice sp sl sc, .string xa, .int .i64 xm, .string xt, .int .i64 xn] 121)).cell? a = some v := (HBA.out.cell (p := a) k2).trans e
        have c2 := HB6.out.cell c1 k3
        exact (World.cell?_of_block ((f3 a.block k4).trans (Below.heap_setCell w6 ⟨P, 3, none⟩ _ a.block k3))).trans c2
end Go.Proofs.YtcnagbkdckipnaaGreatDoor
/-
  THE WALK over the parser's search and its closure (gen_akse.py writes this text).
-/
namespace Go.Proofs.YtcnagbkdckipnaaGreatDoor
open Go.RowKit Go.Lib Go.Sort
set_option maxRecDepth 100000 in
set_option maxHeartbeats 8000000 in
theorem akSearchIn (W : World) (P : Nat) (qv wv : Value) (n : Nat) (ws : Nat → Ak.Wo) (en : Ak.Wo) (at_ op mo : Nat) (h0 : Ak.Ps W P qv wv n ws at_ op mo) (hg : Ak.GU P qv wv n ws en) (Ap Ac c : Nat) (hAp : W.cell? ⟨Ap, 0, none⟩ = some (.pointer (some ⟨P, 0, none⟩))) (hAc : W.cell? ⟨Ac, 0, none⟩ = some (.int .i64 (c : Nat))) (so : Ak.RX)
    (hw : ∀ W1, Ak.Pb P W W1 → Ak.Ps W1 P qv wv n ws at_ op mo → Calls Tryz.prog 147 #[.pointer (some ⟨P, 0, none⟩)] W1 (Ak.PrE P qv wv n ws en op mo W1 (Ak.XV W1.heap.size) (so at_))) :
    Calls Tryz.prog 160 #[.pointer (some ⟨Ap, 0, none⟩), .pointer (some ⟨Ac, 0, none⟩)] W (Ak.PrE P qv wv n ws en op mo W (Ak.XV W.heap.size) (Ak.argsR n ws so c at_)) := by
  obtain ⟨W1, hW1⟩ : ∃ X, X = W.alloc (.cells Ak.exZ 121) := ⟨_, rfl⟩
  have hb : Below W.heap.size W W1 := by rw [hW1]; exact (Below.refl _ _).alloc (Nat.le_refl _) _
  have hs : W1.heap.size = W.heap.size + 1 := by rw [hW1]; simp
  have hnew : W1.heap[W.heap.size]? = some (.cells Ak.exZ 121 (0, 0)) := by rw [hW1]; exact Ak.heap_new _ _
  have hApl := block_lt_of_cell hAp
  have hAcl := block_lt_of_cell hAc
  have hApP : Ap ≠ P := by
    rintro rfl
    obtain ⟨p, l, c, rfl, _⟩ := h0.q
    rw [h0.c.cells.1] at hAp
    cases hAp
  have hAcP : Ac ≠ P := by
    rintro rfl
    obtain ⟨p, l, c, rfl, _⟩ := h0.q
    rw [h0.c.cells.1] at hAc
    cases hAc
  dsimp only at hApl hAcl
  have HAp := hide' (fun (w : World) (q : Ak.Pb P W w) => q.cell hAp hApP)
  have HAc := hide' (fun (w : World) (q : Ak.Pb P W w) => q.cell hAc hAcP)
  have ap1 := (Ak.Pb.of_below (b := P) hb).cell hAp hApP
  have C := hw W1 (.of_below hb) (h0.below hb)
  have CN := hide' (fun (w : World) (a : Nat) (hp : Ak.Ps w P qv wv n ws a op mo) => akNeed w P qv wv n ws en a op mo hp hg ⟨#[44]⟩)
  have CT := hide' (fun (w : World) (a : Nat) (hp : Ak.Ps w P qv wv n ws a op mo) => akTake w P qv wv n ws en a op mo hp hg 1)
  have H0 := hide' h0
  have HW1 := hide' hW1
  have HB := hide' hb
  have hPl : P < W.heap.size := h0.c.lt
  obtain ⟨N, hN⟩ : ∃ N, W.heap.size = N := ⟨_, rfl⟩
  rw [hN] at hnew
  have HN := hide' hnew
  have hPN : P ≠ N := by omega
  obtain ⟨J, hJ⟩ : ∃ J, Ak.argsR n ws so c at_ = J := ⟨_, rfl⟩
  rw [hJ]
  unfold Ak.argsR at hJ
  obtain ⟨R, hR⟩ : ∃ R, so at_ = R := ⟨_, rfl⟩
  rw [hR] at hJ C
  have HC := hide' C
  rw [hW1] at ap1
  unfold Ak.exZ at ap1
  clear hW1 hb hnew h0 hw hR C hg hAp hAc
  cases R with
  | bad a why =>
    obtain rfl : J = .bad a why := hJ.symm
    clear hJ
    go_enter Tryz.func160, Tryz.ntmps160
    go_wp2_with fail
    change Calls _ _ _ (W.alloc (.cells Ak.exZ 121)) _
    rw [← HW1.out]
    refine HC.out.mono ?_
    rintro e w5 hv
    obtain ⟨d, rfl, h1, h2, h3⟩ := hv
    have HV := hide' (Ak.PrE.of_bad (qv := qv) (wv := wv) (op := op) (mo := mo) (V := Ak.XV N) (Ak.GvE.pre ⟨d, rfl, h1, h2, h3⟩ (.of_below HB.out)))
    clear h1 h2 h3 HC
    go_wp2_with fail
    exact ⟨rfl, HV.out⟩
  | ok x a =>
    dsimp only [Ak.Res.bind] at hJ
    obtain ⟨K, hK⟩ : ∃ K, Ak.needR n ws a ⟨#[44]⟩ = K := ⟨_, rfl⟩
    rw [hK] at hJ
    have HK := hide' hK
    clear hK
    cases K with
    | bad a2 why =>
      obtain rfl : J = .bad a2 why := hJ.symm
      clear hJ
      go_enter Tryz.func160, Tryz.ntmps160
      go_wp2_with fail
      change Calls _ _ _ (W.alloc (.cells Ak.exZ 121)) _
      rw [← HW1.out]
      refine HC.out.mono ?_
      rintro e w5 ⟨v, rfl, hx, hb5, hp5⟩
      obtain ⟨xo, xp, xl, xc, sp, sl, sc, xa, xm, xt, xn, rfl, hxk⟩ := Ak.cmpX hx
      have HX := hide' hxk
      have hs5 := hb5.size
      obtain ⟨M, hM⟩ : ∃ M, w5.heap.size = M := ⟨_, rfl⟩
      have hbk : Below w5.heap.size w5 (w5.alloc (.cells #[.int .i64 xo, .slice xp xl xc, .slice sp sl sc, .string xa, .int .i64 xm, .string xt, .int .i64 xn] 121)) := (Below.refl _ _).alloc (Nat.le_refl _) _
      have HB6 := hide' (((Ak.Pb.of_below (b := P) HB.out).trans hb5).trans (.of_below (b := P) hbk))
      have HP6 := hide' (hp5.below hbk)
      have HN6 := hide' ((hbk.block N (by omega)).trans ((hb5.block N (by omega) (by omega)).trans HN.out))
      have HM6 := hide' (hM ▸ Ak.heap_new w5 (.cells #[.int .i64 xo, .slice xp xl xc, .slice sp sl sc, .string xa, .int .i64 xm, .string xt, .int .i64 xn] 121))
      have HK6 := hide' (fun (k : Nat) (hk : k < M) => hbk.block k (by omega))
      have hPM : P ≠ M := by have := hp5.c.lt; omega
      have hNM : N ≠ M := by omega
      have s6 : (w5.alloc (.cells #[.int .i64 xo, .slice xp xl xc, .slice sp sl sc, .string xa, .int .i64 xm, .string xt, .int .i64 xn] 121)).heap.size = M + 1 := by simp [hM]
      have ap6 := HAp.out _ HB6.out
      clear hx hxk hb5 hp5 hbk HC
      go_wp2_with fail
      refine (HK.out ▸ CN.out _ a HP6.out).mono ?_
      rintro e w7 hv
      obtain ⟨d, rfl, h1, h2, h3⟩ := hv
      have HV := hide' (Ak.PrE.of_bad (qv := qv) (wv := wv) (op := op) (mo := mo) (V := Ak.XV N) (Ak.GvE.pre ⟨d, rfl, h1, h2, h3⟩ HB6.out))
      clear h1 h2 h3
      go_wp2_with fail
      exact ⟨rfl, HV.out⟩
    | ok x2 a2 =>
      dsimp only [Ak.Res.bind] at hJ
      obtain ⟨T, hT⟩ : ∃ T, Ak.takeR n ws a2 1 = T := ⟨_, rfl⟩
      rw [hT] at hJ
      have HT := hide' hT
      clear hT
      cases T with
      | bad a4 why =>
        obtain rfl : J = .bad a4 why := hJ.symm
        clear hJ
        go_enter Tryz.func160, Tryz.ntmps160
        go_wp2_with fail
        change Calls _ _ _ (W.alloc (.cells Ak.exZ 121)) _
        rw [← HW1.out]
        refine HC.out.mono ?_
        rintro e w5 ⟨v, rfl, hx, hb5, hp5⟩
        obtain ⟨xo, xp, xl, xc, sp, sl, sc, xa, xm, xt, xn, rfl, hxk⟩ := Ak.cmpX hx
        have HX := hide' hxk
        have hs5 := hb5.size
        obtain ⟨M, hM⟩ : ∃ M, w5.heap.size = M := ⟨_, rfl⟩
        have hbk : Below w5.heap.size w5 (w5.alloc (.cells #[.int .i64 xo, .slice xp xl xc, .slice sp sl sc, .string xa, .int .i64 xm, .string xt, .int .i64 xn] 121)) := (Below.refl _ _).alloc (Nat.le_refl _) _
        have HB6 := hide' (((Ak.Pb.of_below (b := P) HB.out).trans hb5).trans (.of_below (b := P) hbk))
        have HP6 := hide' (hp5.below hbk)
        have HN6 := hide' ((hbk.block N (by omega)).trans ((hb5.block N (by omega) (by omega)).trans HN.out))
        have HM6 := hide' (hM ▸ Ak.heap_new w5 (.cells #[.int .i64 xo, .slice xp xl xc, .slice sp sl sc, .string xa, .int .i64 xm, .string xt, .int .i64 xn] 121))
        have HK6 := hide' (fun (k : Nat) (hk : k < M) => hbk.block k (by omega))
        have hPM : P ≠ M := by have := hp5.c.lt; omega
        have hNM : N ≠ M := by omega
        have s6 : (w5.alloc (.cells #[.int .i64 xo, .slice xp xl xc, .slice sp sl sc, .string xa, .int .i64 xm, .string xt, .int .i64 xn] 121)).heap.size = M + 1 := by simp [hM]
        have ap6 := HAp.out _ HB6.out
        clear hx hxk hb5 hp5 hbk HC
        go_wp2_with fail
        refine (HK.out ▸ CN.out _ a HP6.out).mono ?_
        rintro e w7 ⟨v, rfl, rfl, hb7, hp7⟩
        have HB7 := hide' ((HB6.out.trans hb7).drew)
        have HP7 := hide' (hp7.below (Below.refl _ w7).drew)
        have HN7 := hide' (show w7.drew.heap[N]? = _ from (hb7.block N (by omega) (by omega)).trans HN6.out)
        have HM7 := hide' (show w7.drew.heap[M]? = _ from (hb7.block M (by omega) (by omega)).trans HM6.out)
        have HK7 := hide' (fun (k : Nat) (hk : k < M) (hn : k ≠ P) => show w7.drew.heap[k]? = _ from (hb7.block k (by omega) hn).trans (HK6.out k hk))
        have hs7 : _ ≤ w7.drew.heap.size := hb7.size
        have ap7 := HAp.out _ HB7.out
        have ac7 := HAc.out _ HB7.out
        have mf4 : w7.drew.frozen? ⟨M, 4, none⟩ = false := Lib.frozen_of_heap HM7.out 4
        clear hb7 hp7
        go_wp2_with fail
        go_region_dies
        all_goals
          refine (HT.out ▸ CT.out _ _ HP7.out).mono ?_
          rintro e w9 hv
          obtain ⟨d, rfl, h1, h2, h3⟩ := hv
          have HV := hide' (Ak.PrE.of_bad (qv := qv) (wv := wv) (op := op) (mo := mo) (V := Ak.XV W.heap.size) (Ak.GvE.pre ⟨d, rfl, h1, h2, h3⟩ HB7.out))
          clear h1 h2 h3
          refine ⟨rfl, ?_⟩
          exact HV.out
      | ok wo a4 =>
        obtain rfl : J = .ok (Ak.cmpT c wo.tx x) a4 := hJ.symm
        clear hJ
        go_enter Tryz.func160, Tryz.ntmps160
        go_wp2_with fail
        change Calls _ _ _ (W.alloc (.cells Ak.exZ 121)) _
        rw [← HW1.out]
        refine HC.out.mono ?_
        rintro e w5 ⟨v, rfl, hx, hb5, hp5⟩
        obtain ⟨xo, xp, xl, xc, sp, sl, sc, xa, xm, xt, xn, rfl, hxk⟩ := Ak.cmpX hx
        have HX := hide' hxk
        have hs5 := hb5.size
        obtain ⟨M, hM⟩ : ∃ M, w5.heap.size = M := ⟨_, rfl⟩
        have hbk : Below w5.heap.size w5 (w5.alloc (.cells #[.int .i64 xo, .slice xp xl xc, .slice sp sl sc, .string xa, .int .i64 xm, .string xt, .int .i64 xn] 121)) := (Below.refl _ _).alloc (Nat.le_refl _) _
        have HB6 := hide' (((Ak.Pb.of_below (b := P) HB.out).trans hb5).trans (.of_below (b := P) hbk))
        have HP6 := hide' (hp5.below hbk)
        have HN6 := hide' ((hbk.block N (by omega)).trans ((hb5.block N (by omega) (by omega)).trans HN.out))
        have HM6 := hide' (hM ▸ Ak.heap_new w5 (.cells #[.int .i64 xo, .slice xp xl xc, .slice sp sl sc, .string xa, .int .i64 xm, .string xt, .int .i64 xn] 121))
        have HK6 := hide' (fun (k : Nat) (hk : k < M) => hbk.block k (by omega))
        have hPM : P ≠ M := by have := hp5.c.lt; omega
        have hNM : N ≠ M := by omega
        have s6 : (w5.alloc (.cells #[.int .i64 xo, .slice xp xl xc, .slice sp sl sc, .string xa, .int .i64 xm, .string xt, .int .i64 xn] 121)).heap.size = M + 1 := by simp [hM]
        have ap6 := HAp.out _ HB6.out
        clear hx hxk hb5 hp5 hbk HC
        go_wp2_with fail
        refine (HK.out ▸ CN.out _ a HP6.out).mono ?_
        rintro e w7 ⟨v, rfl, rfl, hb7, hp7⟩
        have HB7 := hide' ((HB6.out.trans hb7).drew)
        have HP7 := hide' (hp7.below (Below.refl _ w7).drew)
        have HN7 := hide' (show w7.drew.heap[N]? = _ from (hb7.block N (by omega) (by omega)).trans HN6.out)
        have HM7 := hide' (show w7.drew.heap[M]? = _ from (hb7.block M (by omega) (by omega)).trans HM6.out)
        have HK7 := hide' (fun (k : Nat) (hk : k < M) (hn : k ≠ P) => show w7.drew.heap[k]? = _ from (hb7.block k (by omega) hn).trans (HK6.out k hk))
        have hs7 : _ ≤ w7.drew.heap.size := hb7.size
        have ap7 := HAp.out _ HB7.out
        have ac7 := HAc.out _ HB7.out
        have mf4 : w7.drew.frozen? ⟨M, 4, none⟩ = false := Lib.frozen_of_heap HM7.out 4
        clear hb7 hp7
        go_wp2_with fail
        obtain ⟨wk, wt, wn, q0, q1, q2, q3⟩ := wo
        have hwt := fun w : World => Ak.woText w wk wt wn q0 q1 q2 q3
        go_region_law (first
          | (rw [if_pos (by simp [Region.wanted])]; go_simp; refine (HT.out ▸ CT.out _ _ HP7.out).mono ?_; rintro e w9 ⟨vv, rfl, rfl, hb9, hp9⟩; unfold Ak.Wo.cs; dsimp only; have ac9 := HAc.out _ (HB7.out.trans hb9); have hm9 := (hb9.block M (by omega) (by omega)).trans HM7.out; have mf4 := Lib.frozen_of_heap hm9 4; have mf5 := Lib.frozen_of_heap hm9 5; have mc4 : w9.cell? ⟨M, 4, none⟩ = some (.int .i64 xm) := (by rw [Lib.cell_of_heap hm9]; rfl); have mc5 : w9.cell? ⟨M, 5, none⟩ = some (.string xt) := (by rw [Lib.cell_of_heap hm9]; rfl); have HM9 := hide' hm9; have HN9 := hide' ((hb9.block N (by omega) (by omega)).trans HN7.out); have HK9 := hide' (fun (k : Nat) (hk : k < M) (hn : k ≠ P) => (hb9.block k (by omega) hn).trans (HK7.out k hk hn)); have HB9 := hide' (HB7.out.trans hb9); have HP9 := hide' hp9; clear hm9 hb9 hp9))
        all_goals
          have hm9 := HM9.out
          have hn9 := HN9.out
          unfold Ak.exZ at hn9
          have m0 : w9.cell? ⟨M, 0, none⟩ = some (.int .i64 xo) := by rw [Lib.cell_of_heap hm9]; rfl
          have mf0 : w9.frozen? ⟨M, 0, none⟩ = false := Lib.frozen_of_heap hm9 0
          have m1 : w9.cell? ⟨M, 1, none⟩ = some (.slice xp xl xc) := by rw [Lib.cell_of_heap hm9]; rfl
          have mf1 : w9.frozen? ⟨M, 1, none⟩ = false := Lib.frozen_of_heap hm9 1
          have m2 : w9.cell? ⟨M, 2, none⟩ = some (.slice sp sl sc) := by rw [Lib.cell_of_heap hm9]; rfl
          have mf2 : w9.frozen? ⟨M, 2, none⟩ = false := Lib.frozen_of_heap hm9 2
          have m3 : w9.cell? ⟨M, 3, none⟩ = some (.string xa) := by rw [Lib.cell_of_heap hm9]; rfl
          have mf3 : w9.frozen? ⟨M, 3, none⟩ = false := Lib.frozen_of_heap hm9 3
          have m4 : w9.cell? ⟨M, 4, none⟩ = some (.int .i64 xm) := by rw [Lib.cell_of_heap hm9]; rfl
          have mf4 : w9.frozen? ⟨M, 4, none⟩ = false := Lib.frozen_of_heap hm9 4
          have m5 : w9.cell? ⟨M, 5, none⟩ = some (.string xt) := by rw [Lib.cell_of_heap hm9]; rfl
          have mf5 : w9.frozen? ⟨M, 5, none⟩ = false := Lib.frozen_of_heap hm9 5
          have m6 : w9.cell? ⟨M, 6, none⟩ = some (.int .i64 xn) := by rw [Lib.cell_of_heap hm9]; rfl
          have mf6 : w9.frozen? ⟨M, 6, none⟩ = false := Lib.frozen_of_heap hm9 6
          have z0 : w9.cell? ⟨N, 0, none⟩ = some (.int .i64 0) := by rw [Lib.cell_of_heap hn9]; rfl
          have zf0 : w9.frozen? ⟨N, 0, none⟩ = false := Lib.frozen_of_heap hn9 0
          have z1 : w9.cell? ⟨N, 1, none⟩ = some (.slice none 0 0) := by rw [Lib.cell_of_heap hn9]; rfl
          have zf1 : w9.frozen? ⟨N, 1, none⟩ = false := Lib.frozen_of_heap hn9 1
          have z2 : w9.cell? ⟨N, 2, none⟩ = some (.slice none 0 0) := by rw [Lib.cell_of_heap hn9]; rfl
          have zf2 : w9.frozen? ⟨N, 2, none⟩ = false := Lib.frozen_of_heap hn9 2
          have z3 : w9.cell? ⟨N, 3, none⟩ = some (.string ⟨#[]⟩) := by rw [Lib.cell_of_heap hn9]; rfl
          have zf3 : w9.frozen? ⟨N, 3, none⟩ = false := Lib.frozen_of_heap hn9 3
          have z4 : w9.cell? ⟨N, 4, none⟩ = some (.int .i64 0) := by rw [Lib.cell_of_heap hn9]; rfl
          have zf4 : w9.frozen? ⟨N, 4, none⟩ = false := Lib.frozen_of_heap hn9 4
          have z5 : w9.cell? ⟨N, 5, none⟩ = some (.string ⟨#[]⟩) := by rw [Lib.cell_of_heap hn9]; rfl
          have zf5 : w9.frozen? ⟨N, 5, none⟩ = false := Lib.frozen_of_heap hn9 5
          have z6 : w9.cell? ⟨N, 6, none⟩ = some (.int .i64 0) := by rw [Lib.cell_of_heap hn9]; rfl
          have zf6 : w9.frozen? ⟨N, 6, none⟩ = false := Lib.frozen_of_heap hn9 6
          have hWM : W.heap.size ≤ M := by omega
          have HZ9 := hide' ((Ak.set_else (w := w9.setCell ⟨M, 4, none⟩ (.int .i64 (c : Nat))) (i := 5) (v := .string wt) hNM).trans ((Ak.set_else (w := w9) (i := 4) (v := .int .i64 (c : Nat)) hNM).trans hn9))
          have HB10 := hide' ((HB9.out.far hWM 4 (.int .i64 (c : Nat))).far hWM 5 (.string wt))
          have HC10 := hide' ((HP9.out.c.far hPM 4 (.int .i64 (c : Nat))).far hPM 5 (.string wt))
          clear hm9 hn9
          go_wp2_with fail
          have hWN : W.heap.size ≤ N := by omega
          obtain ⟨f1, f2, f3⟩ := Ak.far7e HB10.out hWN HC10.out hPN (.int .i64 xo) (.slice xp xl xc) (.slice sp sl sc) (.string xa) (.int .i64 (c : Nat)) (.string wt) (.int .i64 xn)
          have l7 := Ak.load7e HZ9.out (.int .i64 xo) (.slice xp xl xc) (.slice sp sl sc) (.string xa) (.int .i64 (c : Nat)) (.string wt) (.int .i64 xn)
          revert f1 f2 f3 l7
          generalize World.setCell _ ⟨N, 6, none⟩ (.int .i64 xn) = WF
          intro f1 f2 f3 l7
          refine bodyPost_ret (Ak.results_cell Tryz.results160 _ ⟨N, 0, none⟩ rfl _ _ l7) rfl ?_
          refine Ak.PrE.of_ok ?_ f1 (H0.out.go f1 f2 HP9.out.atn HP9.out.opm)
          have hXf := (HX.out WF fun b v hb e => ?_).2.1 c wt
          · exact hXf.mono (by omega)
          · have k2 := block_lt_of_cell e
            exact (World.cell?_of_block ((f3 b.block (by omega)).trans ((Ak.set_else (by omega)).trans ((Ak.set_else (by omega)).trans (HK9.out b.block (by omega) (by omega)))))).trans e
end Go.Proofs.YtcnagbkdckipnaaGreatDoor
/-
  THE WALK over the parser's search (gen_akse.py writes this text).
-/
namespace Go.Proofs.YtcnagbkdckipnaaGreatDoor
open Go.RowKit Go.Lib Go.Sort
set_option maxRecDepth 100000 in
set_option maxHeartbeats 8000000 in
theorem akSearch (W : World) (P : Nat) (qv wv : Value) (n : Nat) (ws : Nat → Ak.Wo) (en : Ak.Wo) (at_ op mo : Nat) (h0 : Ak.Ps W P qv wv n ws at_ op mo) (hg : Ak.GU P qv wv n ws en) (c : Nat) (inner : Option Ak.Lv) (ha : at_ < n) (hn : op = mo → inner = none)
    (hf : op < mo → ∃ l, inner = some l ∧ ∀ W1 a, Ak.Pb P W W1 → Ak.Ps W1 P qv wv n ws a (op + 1) mo → Calls Tryz.prog 147 #[.pointer (some ⟨P, 0, none⟩)] W1 (Ak.PrE P qv wv n ws en (op + 1) mo W1 (Ak.XV W1.heap.size) (l.so a))) :
    Calls Tryz.prog 146 #[.pointer (some ⟨P, 0, none⟩), .int .i64 (c : Nat)] W (Ak.PrE P qv wv n ws en op mo W (Ak.XV W.heap.size) (Ak.withinR n ws (inner.map fun l => Ak.argsR n ws l.so c) ⟨#[41]⟩ at_)) := by
  have hPl : P < W.heap.size := h0.c.lt
  have hb0 : Below W.heap.size W (W.alloc (.cells #[.pointer (some ⟨P, 0, none⟩)] 90)) := (Below.refl _ _).alloc (Nat.le_refl _) _
  have hb1 : Below W.heap.size W ((W.alloc (.cells #[.pointer (some ⟨P, 0, none⟩)] 90)).alloc (.cells #[.int .i64 (c : Nat)] 119)) := hb0.alloc (by simp) _
  obtain ⟨W1, hW1⟩ : ∃ X, X = (((W.alloc (.cells #[.pointer (some ⟨P, 0, none⟩)] 90)).alloc (.cells #[.int .i64 (c : Nat)] 119)).alloc (.cells Ak.exZ 121)) := ⟨_, rfl⟩
  have hb : Below W.heap.size W W1 := by rw [hW1]; exact hb1.alloc (by rw [World.size_alloc, World.size_alloc]; omega) _
  have s0 : (W.alloc (.cells #[.pointer (some ⟨P, 0, none⟩)] 90)).heap.size = W.heap.size + 1 := by simp
  have s1 : ((W.alloc (.cells #[.pointer (some ⟨P, 0, none⟩)] 90)).alloc (.cells #[.int .i64 (c : Nat)] 119)).heap.size = W.heap.size + 2 := by rw [World.size_alloc, s0]
  have hs : W1.heap.size = W.heap.size + 3 := by rw [hW1, World.size_alloc, s1]
  have k0 : ((W.alloc (.cells #[.pointer (some ⟨P, 0, none⟩)] 90)).alloc (.cells #[.int .i64 (c : Nat)] 119)).heap[W.heap.size]? = some (.cells #[.pointer (some ⟨P, 0, none⟩)] 90 (0, 0)) :=
    ((Below.refl (W.alloc (.cells #[.pointer (some ⟨P, 0, none⟩)] 90)).heap.size (W.alloc (.cells #[.pointer (some ⟨P, 0, none⟩)] 90))).alloc (Nat.le_refl _) (.cells #[.int .i64 (c : Nat)] 119) |>.block W.heap.size (by omega)).trans (Ak.heap_new _ _)
  have k1 : ((W.alloc (.cells #[.pointer (some ⟨P, 0, none⟩)] 90)).alloc (.cells #[.int .i64 (c : Nat)] 119)).heap[W.heap.size + 1]? = some (.cells #[.int .i64 (c : Nat)] 119 (0, 0)) := by
    have := Ak.heap_new (W.alloc (.cells #[.pointer (some ⟨P, 0, none⟩)] 90)) (.cells #[.int .i64 (c : Nat)] 119)
    rwa [s0] at this
  have hbz : Below ((W.alloc (.cells #[.pointer (some ⟨P, 0, none⟩)] 90)).alloc (.cells #[.int .i64 (c : Nat)] 119)).heap.size ((W.alloc (.cells #[.pointer (some ⟨P, 0, none⟩)] 90)).alloc (.cells #[.int .i64 (c : Nat)] 119)) W1 := by rw [hW1]; exact (Below.refl _ _).alloc (Nat.le_refl _) _
  have j0 := (hbz.block W.heap.size (by omega)).trans k0
  have j1 := (hbz.block (W.heap.size + 1) (by omega)).trans k1
  have hnew : W1.heap[W.heap.size + 2]? = some (.cells Ak.exZ 121 (0, 0)) := by
    rw [hW1]
    have := Ak.heap_new ((W.alloc (.cells #[.pointer (some ⟨P, 0, none⟩)] 90)).alloc (.cells #[.int .i64 (c : Nat)] 119)) (.cells Ak.exZ 121)
    rwa [s1] at this
  have hAp : W1.cell? ⟨W.heap.size, 0, none⟩ = some (.pointer (some ⟨P, 0, none⟩)) := by rw [Lib.cell_of_heap j0]; rfl
  have hAc : W1.cell? ⟨W.heap.size + 1, 0, none⟩ = some (.int .i64 (c : Nat)) := by rw [Lib.cell_of_heap j1]; rfl
  have C := akWithinC W1 P qv wv n ws en at_ op mo (h0.below hb) ha hg 160 #[.pointer (some ⟨W.heap.size, 0, none⟩), .pointer (some ⟨W.heap.size + 1, 0, none⟩)] (fun w => by rfl) ⟨#[41]⟩ (inner.map fun l => Ak.argsR n ws l.so c) (fun e => by rw [hn e]; rfl) (fun hlt => by
    obtain ⟨l, rfl, h⟩ := hf hlt
    exact ⟨_, rfl, fun W4 a q hp => akSearchIn W4 P qv wv n ws en a (op + 1) mo hp hg W.heap.size (W.heap.size + 1) c (q.cell hAp (show W.heap.size ≠ P by omega)) (q.cell hAc (show W.heap.size + 1 ≠ P by omega)) l.so (fun W5 q5 hp5 => h W5 a ((Ak.Pb.of_below hb).trans (q.trans q5)) hp5)⟩)
  have H0 := hide' h0
  have HW1 := hide' hW1
  have HB := hide' hb
  obtain ⟨R, hR⟩ : ∃ R, Ak.withinR n ws (inner.map fun l => Ak.argsR n ws l.so c) ⟨#[41]⟩ at_ = R := ⟨_, rfl⟩
  rw [hR] at C ⊢
  have HC := hide' C
  have HN := hide' hnew
  rw [hW1] at hAp
  unfold Ak.exZ at hAp
  have hmf : ∀ (fn : Fn) (first cap : Array Value) (w : World), (Instr.makeFunc fn first cap).run Tryz.prog w = .ok (.func fn first cap) w := fun _ _ _ _ => rfl
  clear hb0 hb1 k0 k1 hbz j0 j1 hnew hAc hW1 hb h0 hn hf hR C hg ha s0 s1
  obtain ⟨N, hN⟩ : ∃ N, W.heap.size + 2 = N := ⟨_, rfl⟩
  have hPN : P ≠ N := by omega
  cases R with
  | bad a why =>
    go_enter Tryz.func146, Tryz.ntmps146
    go_wp2_with fail
    change Calls _ _ _ (((W.alloc (.cells #[.pointer (some ⟨P, 0, none⟩)] 90)).alloc (.cells #[.int .i64 (c : Nat)] 119)).alloc (.cells Ak.exZ 121)) _
    rw [← HW1.out]
    refine HC.out.mono ?_
    rintro e w5 hv
    obtain ⟨d, rfl, h1, h2, h3⟩ := hv
    have HV := hide' (Ak.PrE.of_bad (qv := qv) (wv := wv) (op := op) (mo := mo) (V := Ak.XV W.heap.size) (Ak.GvE.pre ⟨d, rfl, h1, h2, h3⟩ (.of_below HB.out)))
    clear h1 h2 h3 HC
    go_wp2_with fail
    exact ⟨rfl, HV.out⟩
  | ok x a =>
    go_enter Tryz.func146, Tryz.ntmps146
    go_wp2_with fail
    change Calls _ _ _ (((W.alloc (.cells #[.pointer (some ⟨P, 0, none⟩)] 90)).alloc (.cells #[.int .i64 (c : Nat)] 119)).alloc (.cells Ak.exZ 121)) _
    rw [← HW1.out]
    refine HC.out.mono ?_
    rintro e w5 ⟨v, rfl, hx, hb5, hp5⟩
    obtain ⟨xo, xp, xl, xc, sp, sl, sc, xa, xm, xt, xn, rfl, hxk⟩ := Ak.cmpX hx
    have HX := hide' hxk
    have hn5 := (hb5.block (W.heap.size + 2) (by omega) (by omega)).trans HN.out
    rw [hN] at hn5
    unfold Ak.exZ at hn5
    have HN5 := hide' hn5
    have HB5 := hide' ((Ak.Pb.of_below (b := P) HB.out).trans hb5)
    have HP5 := hide' hp5
    have z0 : w5.cell? ⟨N, 0, none⟩ = some (.int .i64 0) := by rw [Lib.cell_of_heap hn5]; rfl
    have zf0 : w5.frozen? ⟨N, 0, none⟩ = false := Lib.frozen_of_heap hn5 0
    have z1 : w5.cell? ⟨N, 1, none⟩ = some (.slice none 0 0) := by rw [Lib.cell_of_heap hn5]; rfl
    have zf1 : w5.frozen? ⟨N, 1, none⟩ = false := Lib.frozen_of_heap hn5 1
    have z2 : w5.cell? ⟨N, 2, none⟩ = some (.slice none 0 0) := by rw [Lib.cell_of_heap hn5]; rfl
    have zf2 : w5.frozen? ⟨N, 2, none⟩ = false := Lib.frozen_of_heap hn5 2
    have z3 : w5.cell? ⟨N, 3, none⟩ = some (.string ⟨#[]⟩) := by rw [Lib.cell_of_heap hn5]; rfl
    have zf3 : w5.frozen? ⟨N, 3, none⟩ = false := Lib.frozen_of_heap hn5 3
    have z4 : w5.cell? ⟨N, 4, none⟩ = some (.int .i64 0) := by rw [Lib.cell_of_heap hn5]; rfl
    have zf4 : w5.frozen? ⟨N, 4, none⟩ = false := Lib.frozen_of_heap hn5 4
    have z5 : w5.cell? ⟨N, 5, none⟩ = some (.string ⟨#[]⟩) := by rw [Lib.cell_of_heap hn5]; rfl
    have zf5 : w5.frozen? ⟨N, 5, none⟩ = false := Lib.frozen_of_heap hn5 5
    have z6 : w5.cell? ⟨N, 6, none⟩ = some (.int .i64 0) := by rw [Lib.cell_of_heap hn5]; rfl
    have zf6 : w5.frozen? ⟨N, 6, none⟩ = false := Lib.frozen_of_heap hn5 6
    clear HC hx hb5 hp5 hxk hn5
    try rw [hN]
    go_wp2_with fail
    have hWN : W.heap.size ≤ N := by omega
    obtain ⟨f1, f2, f3⟩ := Ak.far7e HB5.out hWN HP5.out.c hPN (.int .i64 xo) (.slice xp xl xc) (.slice sp sl sc) (.string xa) (.int .i64 xm) (.string xt) (.int .i64 xn)
    have l7 := Ak.load7e HN5.out (.int .i64 xo) (.slice xp xl xc) (.slice sp sl sc) (.string xa) (.int .i64 xm) (.string xt) (.int .i64 xn)
    revert f1 f2 f3 l7
    generalize World.setCell _ ⟨N, 6, none⟩ (.int .i64 xn) = WF
    intro f1 f2 f3 l7
    refine bodyPost_ret (Ak.results_cell Tryz.results146 _ ⟨N, 0, none⟩ rfl _ _ l7) rfl ?_
    refine Ak.PrE.of_ok ?_ f1 (H0.out.go f1 f2 HP5.out.atn HP5.out.opm)
    have hXf := (HX.out WF fun b v hb e => (World.cell?_of_block (f3 b.block (by omega))).trans e).1
    exact hXf.mono (by omega)
end Go.Proofs.YtcnagbkdckipnaaGreatDoor
