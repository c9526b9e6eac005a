import Derived.Test.YtcnagbkdckipnaaGreatDoorAkRd
import Derived.Maps.AppendAt
import Derived.Laws.AppendOwnNone
/-
  THE WALK over the parser's within.
-/
namespace Go.Proofs.YtcnagbkdckipnaaGreatDoor
open Go.RowKit Go.Lib
namespace Ak
def exZ : Array Value := #[.int .i64 0, .slice none 0 0, .slice none 0 0, .string ⟨#[]⟩, .int .i64 0, .string ⟨#[]⟩, .int .i64 0]
theorem exSize : (Tryz.prog.info? 121).map (·.size) = some 7 := by kernel_rfl
theorem load_ex {w : World} {b : Nat} {cur : Array Value} (h : w.heap[b]? = some (.cells cur 121 (0, 0))) (h8 : cur.size = 7) : (loadVar 121 ⟨b, 0, none⟩).run Tryz.prog w = .ok (.agg cur) w := by
  have := run_loadVar_mid (P := Tryz.prog) w b 0 121 cur.toList _ (range_of h) Tryz.underlying121 rfl (by rw [exSize]; simp [h8])
  simpa using this
theorem load7e {w : World} {N : Nat} {a0 a1 a2 a3 a4 a5 a6 : Value} (h : w.heap[N]? = some (.cells #[a0, a1, a2, a3, a4, a5, a6] 121 (0, 0))) (b0 b1 b2 b3 b4 b5 b6 : Value) :
    (loadVar 121 ⟨N, 0, none⟩).run Tryz.prog (((((((w.setCell ⟨N, 0, none⟩ b0).setCell ⟨N, 1, none⟩ b1).setCell ⟨N, 2, none⟩ b2).setCell ⟨N, 3, none⟩ b3).setCell ⟨N, 4, none⟩ b4).setCell ⟨N, 5, none⟩ b5).setCell ⟨N, 6, none⟩ b6) = .ok (.agg #[b0, b1, b2, b3, b4, b5, b6]) (((((((w.setCell ⟨N, 0, none⟩ b0).setCell ⟨N, 1, none⟩ b1).setCell ⟨N, 2, none⟩ b2).setCell ⟨N, 3, none⟩ b3).setCell ⟨N, 4, none⟩ b4).setCell ⟨N, 5, none⟩ b5).setCell ⟨N, 6, none⟩ b6) := by
  have s := set7 h b0 b1 b2 b3 b4 b5 b6
  generalize (((((((w.setCell ⟨N, 0, none⟩ b0).setCell ⟨N, 1, none⟩ b1).setCell ⟨N, 2, none⟩ b2).setCell ⟨N, 3, none⟩ b3).setCell ⟨N, 4, none⟩ b4).setCell ⟨N, 5, none⟩ b5).setCell ⟨N, 6, none⟩ b6) = W at s ⊢
  exact load_ex (w := W) s rfl
theorem far7e {w w0 : World} {P N : Nat} (h : Pb P w0 w) (hN : w0.heap.size ≤ N) {qv wv : Value} {at_ op mo : Nat} (hc : PC w P qv wv at_ op mo) (hP : P ≠ N) (b0 b1 b2 b3 b4 b5 b6 : Value) :
    Pb P w0 (((((((w.setCell ⟨N, 0, none⟩ b0).setCell ⟨N, 1, none⟩ b1).setCell ⟨N, 2, none⟩ b2).setCell ⟨N, 3, none⟩ b3).setCell ⟨N, 4, none⟩ b4).setCell ⟨N, 5, none⟩ b5).setCell ⟨N, 6, none⟩ b6) ∧ PC (((((((w.setCell ⟨N, 0, none⟩ b0).setCell ⟨N, 1, none⟩ b1).setCell ⟨N, 2, none⟩ b2).setCell ⟨N, 3, none⟩ b3).setCell ⟨N, 4, none⟩ b4).setCell ⟨N, 5, none⟩ b5).setCell ⟨N, 6, none⟩ b6) P qv wv at_ op mo ∧ ∀ k, k ≠ N → (((((((w.setCell ⟨N, 0, none⟩ b0).setCell ⟨N, 1, none⟩ b1).setCell ⟨N, 2, none⟩ b2).setCell ⟨N, 3, none⟩ b3).setCell ⟨N, 4, none⟩ b4).setCell ⟨N, 5, none⟩ b5).setCell ⟨N, 6, none⟩ b6).heap[k]? = w.heap[k]? :=
  ⟨((((((h.far hN 0 b0).far hN 1 b1).far hN 2 b2).far hN 3 b3).far hN 4 b4).far hN 5 b5).far hN 6 b6, (PC.far (PC.far (PC.far (PC.far (PC.far (PC.far (PC.far hc hP 0 b0) hP 1 b1) hP 2 b2) hP 3 b3) hP 4 b4) hP 5 b5) hP 6 b6), fun k hk => ((Below.heap_setCell ((((((w.setCell ⟨N, 0, none⟩ b0).setCell ⟨N, 1, none⟩ b1).setCell ⟨N, 2, none⟩ b2).setCell ⟨N, 3, none⟩ b3).setCell ⟨N, 4, none⟩ b4).setCell ⟨N, 5, none⟩ b5) ⟨N, 6, none⟩ b6 k hk).trans ((Below.heap_setCell (((((w.setCell ⟨N, 0, none⟩ b0).setCell ⟨N, 1, none⟩ b1).setCell ⟨N, 2, none⟩ b2).setCell ⟨N, 3, none⟩ b3).setCell ⟨N, 4, none⟩ b4) ⟨N, 5, none⟩ b5 k hk).trans ((Below.heap_setCell ((((w.setCell ⟨N, 0, none⟩ b0).setCell ⟨N, 1, none⟩ b1).setCell ⟨N, 2, none⟩ b2).setCell ⟨N, 3, none⟩ b3) ⟨N, 4, none⟩ b4 k hk).trans ((Below.heap_setCell (((w.setCell ⟨N, 0, none⟩ b0).setCell ⟨N, 1, none⟩ b1).setCell ⟨N, 2, none⟩ b2) ⟨N, 3, none⟩ b3 k hk).trans ((Below.heap_setCell ((w.setCell ⟨N, 0, none⟩ b0).setCell ⟨N, 1, none⟩ b1) ⟨N, 2, none⟩ b2 k hk).trans ((Below.heap_setCell (w.setCell ⟨N, 0, none⟩ b0) ⟨N, 1, none⟩ b1 k hk).trans (Below.heap_setCell w ⟨N, 0, none⟩ b0 k hk)))))))⟩
end Ak
set_option maxRecDepth 100000 in
set_option maxHeartbeats 4000000 in
theorem akWithin (W : World) (P : Nat) (qv wv : Value) (n : Nat) (ws : Nat → Ak.Wo) (en : Ak.Wo) (at_ op mo : Nat) (h0 : Ak.Ps W P qv wv n ws at_ op mo) (hat : at_ < n) (hg : Ak.GU P qv wv n ws en) (F : FuncId) (first : Array Value) (eg : ∀ w, (callFunc F first).run Tryz.prog w = .ok (.enter F first) w) (last : ByteArray) (inner : Option Ak.RX)
    (hn : op = mo → inner = none)
    (hf : op < mo → ∃ f, inner = some f ∧ ∀ W1 a, Ak.Pb P W W1 → Ak.Ps W1 P qv wv n ws a (op + 1) mo → Calls Tryz.prog F first W1 (Ak.PrE P qv wv n ws en (op + 1) mo W1 (Ak.XV W1.heap.size) (f a))) :
    Calls Tryz.prog 100 #[.pointer (some ⟨P, 0, none⟩), .string last, .func (.func F) first #[]] W (Ak.PrE P qv wv n ws en op mo W (Ak.XV W.heap.size) (Ak.withinR n ws inner last at_)) := by
  obtain ⟨W1, hW1⟩ : ∃ X, X = W.alloc (.cells Ak.exZ 121) := ⟨_, rfl⟩
  have hb : Below W.heap.size W W1 := by rw [hW1]; exact (Below.refl _ _).alloc (Nat.le_refl _) _
  have hs : W1.heap.size = W.heap.size + 1 := by rw [hW1]; simp
  have hnew : W1.heap[W.heap.size]? = some (.cells Ak.exZ 121 (0, 0)) := by rw [hW1]; exact Ak.heap_new _ _
  have h := h0.below hb
  have H0 := hide' h0
  have HW1 := hide' hW1
  have HB := hide' hb
  have hPl : P < W.heap.size := h0.c.lt
  obtain ⟨N, hN⟩ : ∃ N, W.heap.size = N := ⟨_, rfl⟩
  rw [hN] at hnew
  have HN := hide' hnew
  have HG := hide' hg
  obtain ⟨_, c1, c2, c3, c4, c5⟩ := h.c.cells
  have f2 := c5 2
  have f3 := c5 3
  have H := hide' h
  have hmo := h.mom
  have hnn := h.nn
  clear hW1 hb hnew hg h0
  by_cases he : op = mo
  · subst he
    obtain rfl := hn rfl
    show Calls _ _ _ _ (Ak.PrE P qv wv n ws en op op W (Ak.XV N) (.bad at_ 102))
    clear h hf hn
    go_enter Tryz.func100, Tryz.ntmps100
    go_wp2_with fail
    change Code.wp _ _ _ _ (W.alloc (.cells Ak.exZ 121))
    rw [← HW1.out]
    go_quiet (fail)
    go_wp2_with fail
    refine (HG.out _ at_ op op 102 (H.out.below (below_drewN (Below.refl _ _) nq))).mono ?_
    rintro e w2 hv
    obtain ⟨d, rfl, h1, h2, h3⟩ := hv
    have HV := hide' (Ak.PrE.of_bad (qv := qv) (wv := wv) (op := op) (mo := op) (V := Ak.XV N) (Ak.GvE.pre ⟨d, rfl, h1, h2, h3⟩ (((Ak.Pb.of_below (b := P) HB.out)).drewN nq)))
    clear h1 h2 h3
    go_wp2_with fail
    exact ⟨rfl, HV.out⟩
  · have hlt : op < mo := Nat.lt_of_le_of_ne h.opm he
    obtain ⟨f, rfl, hf2⟩ := hf hlt
    have t2 : ((op : Int) == (mo : Int)) = false := by simp; omega
    have tw : IntKind.i64.wrap ((at_ : Int) + 1) = ((at_ + 1 : Nat) : Int) := by rw [IntKind.wrap_i64]; omega
    have tv : IntKind.i64.wrap ((op : Int) + 1) = ((op + 1 : Nat) : Int) := by rw [IntKind.wrap_i64]; omega
    have tu : IntKind.i64.wrap (op : Int) = (op : Int) := by rw [IntKind.wrap_i64]; omega
    have HF := hide' hf2
    clear h hf hf2 hn he
    go_enter Tryz.func100, Tryz.ntmps100
    go_wp2_with fail
    change Code.wp _ _ _ _ (W.alloc (.cells Ak.exZ 121))
    rw [← HW1.out]
    go_quiet (fail)
    obtain ⟨W2, hW2⟩ : ∃ X, X = W1.drewN nq := ⟨_, rfl⟩
    rw [← hW2]
    have h2 : Ak.Ps W2 P qv wv n ws at_ op mo := by rw [hW2]; exact H.out.below (below_drewN (Below.refl _ _) _)
    have q2 : Ak.Pb P W W2 := by rw [hW2]; exact (Ak.Pb.of_below (b := P) HB.out).drewN _
    have s2 : W2.heap.size = N + 1 := by rw [hW2]; show W1.heap.size = _; omega
    have hn2 : W2.heap[N]? = some (.cells Ak.exZ 121 (0, 0)) := by rw [hW2]; exact HN.out
    clear hW2
    obtain ⟨_, d1, d2, d3, d4, d5⟩ := h2.c.cells
    have g2 := d5 2
    have g3 := d5 3
    clear c1 c2 c3 c4 c5 f2 f3
    have HN2 := hide' hn2
    have h3 := (h2.go (Ak.Pb.set W2 P 2 (.int .i64 ((at_ + 1 : Nat) : Int))) (h2.c.set2 (at_ + 1)) hat h2.opm)
    have h4 := (h3.go (op' := op + 1) (Ak.Pb.set _ P 3 (.int .i64 ((op + 1 : Nat) : Int))) (h3.c.set3 (op + 1)) hat hlt)
    have q4 := (q2.setCell 2 (.int .i64 ((at_ + 1 : Nat) : Int))).setCell 3 (.int .i64 ((op + 1 : Nat) : Int))
    have hn4 := (Below.heap_setCell (W2.setCell ⟨P, 2, none⟩ (.int .i64 ((at_ + 1 : Nat) : Int))) ⟨P, 3, none⟩ (.int .i64 ((op + 1 : Nat) : Int)) N (by show N ≠ P; omega)).trans ((Below.heap_setCell W2 ⟨P, 2, none⟩ (.int .i64 ((at_ + 1 : Nat) : Int)) N (by show N ≠ P; omega)).trans hn2)
    go_wp2_with fail
    change Calls _ _ _ ((W2.setCell ⟨P, 2, none⟩ (.int .i64 ((at_ + 1 : Nat) : Int))).setCell ⟨P, 3, none⟩ (.int .i64 ((op + 1 : Nat) : Int))) _
    have s4 : ((W2.setCell ⟨P, 2, none⟩ (.int .i64 ((at_ + 1 : Nat) : Int))).setCell ⟨P, 3, none⟩ (.int .i64 ((op + 1 : Nat) : Int))).heap.size = N + 1 := by simp [s2]
    generalize (W2.setCell ⟨P, 2, none⟩ (.int .i64 ((at_ + 1 : Nat) : Int))).setCell ⟨P, 3, none⟩ (.int .i64 ((op + 1 : Nat) : Int)) = W4 at h4 q4 hn4 s4 ⊢
    have C := HF.out W4 (at_ + 1) q4 h4
    clear h2 h3 q2 hn2 d1 d2 d3 d4 d5 g2 g3 s2 HN2 h4
    have HN4 := hide' hn4
    have HQ4 := hide' q4
    clear hn4 q4
    obtain ⟨R, hR⟩ : ∃ R, f (at_ + 1) = R := ⟨_, rfl⟩
    rw [hR] at C
    have HR := hide' hR
    clear hR HF
    cases R with
    | bad a why =>
      refine C.mono ?_
      rintro e w5 hv
      obtain ⟨d, rfl, h1, h2, h3⟩ := hv
      have HV := hide' (Ak.PrE.of_bad (qv := qv) (wv := wv) (op := op) (mo := mo) (V := Ak.XV N) (Ak.GvE.pre ⟨d, rfl, h1, h2, h3⟩ HQ4.out))
      clear h1 h2 h3 C
      go_wp2_with fail
      refine ⟨rfl, ?_⟩
      rw [show Ak.withinR n ws (some f) last at_ = .bad a why by unfold Ak.withinR; dsimp only; rw [HR.out]; rfl]
      exact HV.out
    | ok x a =>
      obtain ⟨R2, hR2⟩ : ∃ R, Ak.needR n ws a last = R := ⟨_, rfl⟩
      have HR2 := hide' hR2
      clear hR2
      refine C.mono ?_
      rintro e w5 ⟨v, rfl, hx, hb5, hp5⟩
      obtain ⟨xo, xp, xl, xc, sp, sl, sc, xa, xm, xt, xn, rfl⟩ := hx.cells
      have HX := hide' hx
      have HB5 := hide' (HQ4.out.trans hb5)
      have HN5 := hide' ((hb5.block N (by omega) (by omega)).trans HN4.out)
      have hs5 := hb5.size
      have hba : Below w5.heap.size w5 (w5.alloc (.cells #[.int .i64 xo, .slice xp xl xc, .slice sp sl sc, .string xa, .int .i64 xm, .string xt, .int .i64 xn] 121)) := (Below.refl _ _).alloc (Nat.le_refl _) _
      have CN := hide' (akNeed (w5.alloc (.cells #[.int .i64 xo, .slice xp xl xc, .slice sp sl sc, .string xa, .int .i64 xm, .string xt, .int .i64 xn] 121)) P qv wv n ws en a (op + 1) mo (hp5.below hba) HG.out last)
      rw [HR2.out] at CN
      have HBA := hide' hba
      clear hx hb5 hp5 hba C
      go_wp2_with fail
      refine CN.out.mono ?_
      clear CN
      cases R2 with
      | bad a2 why =>
        rintro e w6 hv
        obtain ⟨d, rfl, h1, h2, h3⟩ := hv
        have HV := hide' (Ak.PrE.of_bad (qv := qv) (wv := wv) (op := op) (mo := mo) (V := Ak.XV N) (Ak.GvE.pre ⟨d, rfl, h1, h2, h3⟩ (HB5.out.trans (.of_below HBA.out))))
        clear h1 h2 h3
        go_wp2_with fail
        refine ⟨rfl, ?_⟩
        rw [show Ak.withinR n ws (some f) last at_ = .bad a2 why by unfold Ak.withinR; dsimp only; rw [HR.out]; dsimp only [Ak.Res.bind]; rw [HR2.out]]
        exact HV.out
      | ok x2 a2 =>
        rintro e w6 ⟨v, rfl, rfl, hb6, hp6⟩
        obtain ⟨M, hM⟩ : ∃ M, w5.heap.size = M := ⟨_, rfl⟩
        have hPM : P ≠ M := by omega
        have hPN : P ≠ N := by omega
        have sA : (w5.alloc (.cells #[.int .i64 xo, .slice xp xl xc, .slice sp sl sc, .string xa, .int .i64 xm, .string xt, .int .i64 xn] 121)).heap.size = M + 1 := by simp [hM]
        have hm6 : w6.heap[M]? = some (.cells #[.int .i64 xo, .slice xp xl xc, .slice sp sl sc, .string xa, .int .i64 xm, .string xt, .int .i64 xn] 121 (0, 0)) := (hb6.block M (by rw [sA]; omega) (Ne.symm hPM)).trans (by rw [← hM]; exact Ak.heap_new _ _)
        have hn6 : w6.heap[N]? = some (.cells Ak.exZ 121 (0, 0)) := (hb6.block N (by rw [sA]; omega) (Ne.symm hPN)).trans ((HBA.out.block N (by omega)).trans HN5.out)
        have hm7 : (w6.setCell ⟨P, 3, none⟩ (.int .i64 (op : Int))).heap[M]? = some (.cells #[.int .i64 xo, .slice xp xl xc, .slice sp sl sc, .string xa, .int .i64 xm, .string xt, .int .i64 xn] 121 (0, 0)) := (Below.heap_setCell w6 ⟨P, 3, none⟩ _ M (Ne.symm hPM)).trans hm6
        have hn7 : (w6.setCell ⟨P, 3, none⟩ (.int .i64 (op : Int))).heap[N]? = some (.cells Ak.exZ 121 (0, 0)) := (Below.heap_setCell w6 ⟨P, 3, none⟩ _ N (Ne.symm hPN)).trans hn6
        obtain ⟨_, e1, e2, e3, e4, e5⟩ := hp6.c.cells
        have g3 := e5 3
        unfold Ak.exZ at hn7
        have m0 : (w6.setCell ⟨P, 3, none⟩ (.int .i64 (op : Int))).cell? ⟨M, 0, none⟩ = some (.int .i64 xo) := by rw [Lib.cell_of_heap hm7]; rfl
        have m1 : (w6.setCell ⟨P, 3, none⟩ (.int .i64 (op : Int))).cell? ⟨M, 1, none⟩ = some (.slice xp xl xc) := by rw [Lib.cell_of_heap hm7]; rfl
        have m2 : (w6.setCell ⟨P, 3, none⟩ (.int .i64 (op : Int))).cell? ⟨M, 2, none⟩ = some (.slice sp sl sc) := by rw [Lib.cell_of_heap hm7]; rfl
        have m3 : (w6.setCell ⟨P, 3, none⟩ (.int .i64 (op : Int))).cell? ⟨M, 3, none⟩ = some (.string xa) := by rw [Lib.cell_of_heap hm7]; rfl
        have m4 : (w6.setCell ⟨P, 3, none⟩ (.int .i64 (op : Int))).cell? ⟨M, 4, none⟩ = some (.int .i64 xm) := by rw [Lib.cell_of_heap hm7]; rfl
        have m5 : (w6.setCell ⟨P, 3, none⟩ (.int .i64 (op : Int))).cell? ⟨M, 5, none⟩ = some (.string xt) := by rw [Lib.cell_of_heap hm7]; rfl
        have m6 : (w6.setCell ⟨P, 3, none⟩ (.int .i64 (op : Int))).cell? ⟨M, 6, none⟩ = some (.int .i64 xn) := by rw [Lib.cell_of_heap hm7]; rfl
        have z0 : (w6.setCell ⟨P, 3, none⟩ (.int .i64 (op : Int))).cell? ⟨N, 0, none⟩ = some (.int .i64 0) := by rw [Lib.cell_of_heap hn7]; rfl
        have zf0 : (w6.setCell ⟨P, 3, none⟩ (.int .i64 (op : Int))).frozen? ⟨N, 0, none⟩ = false := Lib.frozen_of_heap hn7 0
        have z1 : (w6.setCell ⟨P, 3, none⟩ (.int .i64 (op : Int))).cell? ⟨N, 1, none⟩ = some (.slice none 0 0) := by rw [Lib.cell_of_heap hn7]; rfl
        have zf1 : (w6.setCell ⟨P, 3, none⟩ (.int .i64 (op : Int))).frozen? ⟨N, 1, none⟩ = false := Lib.frozen_of_heap hn7 1
        have z2 : (w6.setCell ⟨P, 3, none⟩ (.int .i64 (op : Int))).cell? ⟨N, 2, none⟩ = some (.slice none 0 0) := by rw [Lib.cell_of_heap hn7]; rfl
        have zf2 : (w6.setCell ⟨P, 3, none⟩ (.int .i64 (op : Int))).frozen? ⟨N, 2, none⟩ = false := Lib.frozen_of_heap hn7 2
        have z3 : (w6.setCell ⟨P, 3, none⟩ (.int .i64 (op : Int))).cell? ⟨N, 3, none⟩ = some (.string ⟨#[]⟩) := by rw [Lib.cell_of_heap hn7]; rfl
        have zf3 : (w6.setCell ⟨P, 3, none⟩ (.int .i64 (op : Int))).frozen? ⟨N, 3, none⟩ = false := Lib.frozen_of_heap hn7 3
        have z4 : (w6.setCell ⟨P, 3, none⟩ (.int .i64 (op : Int))).cell? ⟨N, 4, none⟩ = some (.int .i64 0) := by rw [Lib.cell_of_heap hn7]; rfl
        have zf4 : (w6.setCell ⟨P, 3, none⟩ (.int .i64 (op : Int))).frozen? ⟨N, 4, none⟩ = false := Lib.frozen_of_heap hn7 4
        have z5 : (w6.setCell ⟨P, 3, none⟩ (.int .i64 (op : Int))).cell? ⟨N, 5, none⟩ = some (.string ⟨#[]⟩) := by rw [Lib.cell_of_heap hn7]; rfl
        have zf5 : (w6.setCell ⟨P, 3, none⟩ (.int .i64 (op : Int))).frozen? ⟨N, 5, none⟩ = false := Lib.frozen_of_heap hn7 5
        have z6 : (w6.setCell ⟨P, 3, none⟩ (.int .i64 (op : Int))).cell? ⟨N, 6, none⟩ = some (.int .i64 0) := by rw [Lib.cell_of_heap hn7]; rfl
        have zf6 : (w6.setCell ⟨P, 3, none⟩ (.int .i64 (op : Int))).frozen? ⟨N, 6, none⟩ = false := Lib.frozen_of_heap hn7 6
        have HM7 := hide' hm7
        have HN7 := hide' hn7
        have HB6 := hide' hb6
        have HP6 := hide' hp6
        clear hb6 hp6 hm6 hn6 hm7 hn7 e5 e1 e2 e4
        go_wp2_with fail
        have hWN : W.heap.size ≤ N := by omega
        obtain ⟨f1, f2, f3⟩ := Ak.far7e (((HB5.out.trans (.of_below HBA.out)).trans HB6.out).setCell 3 (.int .i64 (op : Int))) hWN (HP6.out.c.set3 op) hPN (.int .i64 xo) (.slice xp xl xc) (.slice sp sl sc) (.string xa) (.int .i64 xm) (.string xt) (.int .i64 xn)
        have l7 := Ak.load7e HN7.out (.int .i64 xo) (.slice xp xl xc) (.slice sp sl sc) (.string xa) (.int .i64 xm) (.string xt) (.int .i64 xn)
        revert f1 f2 f3 l7
        generalize World.setCell _ ⟨N, 6, none⟩ (.int .i64 xn) = WF
        intro f1 f2 f3 l7
        refine bodyPost_ret (Ak.results_cell Tryz.results100 _ ⟨N, 0, none⟩ rfl _ _ l7) rfl ?_
        rw [show Ak.withinR n ws (some f) last at_ = .ok x a2 by unfold Ak.withinR; dsimp only; rw [HR.out]; dsimp only [Ak.Res.bind]; rw [HR2.out]]
        refine Ak.PrE.of_ok ?_ f1 (H0.out.go f1 f2 HP6.out.atn (Nat.le_of_lt hlt))
        obtain ⟨xv, g1, g2, g3, g4⟩ := HX.out
        refine ⟨xv, g1, g2, g3.imp xv fun a v ha e => ?_, fun b hb => Nat.le_trans (by omega) (g4 b hb)⟩
        have k1 := g4 _ ha
        have k2 := block_lt_of_cell e
        have k3 : a.block ≠ P := by omega
        have k4 : a.block ≠ N := by omega
        have c1 : (w5.alloc (.cells #[.int .i64 xo, .slice xp xl xc, .slice sp sl sc, .string xa, .int .i64 xm, .string xt, .int .i64 xn] 121)).cell? a = some v := (HBA.out.cell (p := a) k2).trans e
        have c2 := HB6.out.cell c1 k3
        exact (World.cell?_of_block ((f3 a.block k4).trans (Below.heap_setCell w6 ⟨P, 3, none⟩ _ a.block k3))).trans c2
end Go.Proofs.YtcnagbkdckipnaaGreatDoor
/-
  APPEND of one expression, of one step, to a row of one's own, or to none (gen_akapp.py writes this text).
-/
namespace Go.Proofs.YtcnagbkdckipnaaGreatDoor
open Go.RowKit Go.Lib Go.Sort
namespace Ak

def flX (l : List Xv) : List Value := l.flatMap Xv.enc
theorem flX_len (l : List Xv) : (flX l).length = l.length * 7 := by
  induction l with
  | nil => rfl
  | cons x l ih => rw [flX, List.flatMap_cons, List.length_append, Xv.len, List.length_cons]; rw [flX] at ih; omega
theorem flX_one (l : List Xv) : ∀ u ∈ flX l, u.oneCell' = true := fun u hu => by
  obtain ⟨x, _, hx⟩ := List.mem_flatMap.1 hu
  obtain ⟨op, p, c, ar, sp, sc, st, aa, cm, tx, nu⟩ := x
  simp [Xv.enc] at hx
  rcases hx with rfl | rfl | rfl | rfl | rfl | rfl | rfl <;> rfl
/-- a row of one's own, or none -/
def OX (w : World) (v : Value) (l : List Xv) : Prop := w.ownsRow 0 121 7 v l.length (flX l)
def zXv : Value := .agg #[.int .i64 0, .slice none 0 0, .slice none 0 0, .string ⟨#[]⟩, .int .i64 0, .string ⟨#[]⟩, .int .i64 0]
theorem partsX : ∃ i0 : TypeInfo, Tryz.prog.info? 121 = some i0 ∧ i0.zero = some zXv ∧ i0.size = 7 ∧ i0.bytes = 104 := info_parts (by kernel_rfl)
theorem OX.nil (w : World) : OX w (.slice none 0 0) [] := World.ownsRow_nil w 0 _ 7
theorem wpList_appX {w : World} {ops : Array Oper} {rest : List Oper} {o : Oper} {a : Act} {Q : Exit → Act → World → Prop} (hgd : o.guard = none) (s x : Operand)
    (ho : o.op = .call { callee := .builtin .append, args := #[s, x], argTypes := #[59, 59] }) (v : Value) (l : List Xv) (y : Xv) (b c : Nat) (hs : a.eval s = v) (hx : a.eval x = .slice (some ⟨b, 0, none⟩) 1 c) (hv : OX w v l) (hu : w.rangeAt b 0 y.enc) (hb : l.length + 1 ≤ 2097152)
    (h : ∀ v' w', OX w' v' (l ++ [y]) → w.grownBy w' v.ownBlock → (v'.ownBlock = v.ownBlock ∨ v'.ownBlock = some w.heap.size) → wpList Tryz.prog ops Q rest (a.put o.dst v') w') : wpList Tryz.prog ops Q (o :: rest) a w := by
  refine wpList_plain hgd fun K hK => ?_
  obtain ⟨i0, hi0, hz0, hz1, hz2⟩ := partsX
  obtain ⟨v', w', hr, h2, h3, _, h5⟩ := run_append_own_at (P := Tryz.prog) w 0 59 o.type 121 i0 zXv 7 104 Tryz.underlying59 hi0 hz0 hz1 hz2 rfl (by decide) v l.length (flX l) hv ⟨b, 0, none⟩ 1 c (flX [y]) (by rw [flX_len]; rfl)
      (fun j x hj => by
        have := hu j x (by simpa [flX] using hj)
        unfold Addr.add
        split
        · rename_i e; subst e; simpa using this
        · simpa using this) (flX_one [y]) (by unfold maxLen; omega) (by omega) (Nat.zero_le _)
  unfold Oper.wp execOp
  simp only [ho, resolve, invoke, builtin, Sem.run_bind, Sem.run_pure, Result.andThen_ok, List.map_toArray, List.map_cons, List.map_nil, hs, hx, hr]
  refine hK _ _ (h v' w' ?_ h3 h5)
  unfold OX
  rw [List.length_append, show flX (l ++ [y]) = flX l ++ flX [y] by simp [flX]]
  exact h2
theorem OX.keep {w w' : World} {v : Value} {l : List Xv} (h : OX w v l) (hk : ∀ b, v.ownBlock = some b → b < w.heap.size → w'.heap[b]? = w.heap[b]?) : OX w' v l := by
  obtain ⟨h1, h2⟩ := h
  refine ⟨h1, ?_⟩
  rcases h2 with e | ⟨g, cap, cur, rfl, hg, hcur, h5⟩
  · exact .inl e
  · exact .inr ⟨g, cap, cur, rfl, hg, (hk g rfl (Array.getElem?_eq_some_iff.1 hcur).1).trans hcur, h5⟩
theorem OX.form {w : World} {v : Value} {l : List Xv} (h : OX w v l) : ∃ p c, v = .slice p l.length c ∧ (∀ b, v.ownBlock = some b → b < w.heap.size) := by
  rcases h.2 with ⟨rfl, e⟩ | ⟨g, cap, cur, rfl, hg, hcur, h5⟩
  · refine ⟨none, 0, ?_, fun b hb => by cases hb⟩
    have e2 : l = [] := by simpa using e
    subst e2
    rfl
  · exact ⟨_, cap, rfl, fun b hb => by cases hb; exact (Array.getElem?_eq_some_iff.1 hcur).1⟩

def flS (l : List Sv) : List Value := l.flatMap Sv.enc
theorem flS_len (l : List Sv) : (flS l).length = l.length * 4 := by
  induction l with
  | nil => rfl
  | cons x l ih => rw [flS, List.flatMap_cons, List.length_append, Sv.len, List.length_cons]; rw [flS] at ih; omega
theorem flS_one (l : List Sv) : ∀ u ∈ flS l, u.oneCell' = true := fun u hu => by
  obtain ⟨x, _, hx⟩ := List.mem_flatMap.1 hu
  obtain ⟨ax, te, nm, p, c, wh⟩ := x
  simp [Sv.enc] at hx
  rcases hx with rfl | rfl | rfl | rfl <;> rfl
/-- a row of one's own, or none -/
def OS (w : World) (v : Value) (l : List Sv) : Prop := w.ownsRow 0 61 4 v l.length (flS l)
def zSv : Value := .agg #[.int .i64 0, .int .i64 0, .string ⟨#[]⟩, .slice none 0 0]
theorem partsS : ∃ i0 : TypeInfo, Tryz.prog.info? 61 = some i0 ∧ i0.zero = some zSv ∧ i0.size = 4 ∧ i0.bytes = 56 := info_parts (by kernel_rfl)
theorem OS.nil (w : World) : OS w (.slice none 0 0) [] := World.ownsRow_nil w 0 _ 4
theorem wpList_appS {w : World} {ops : Array Oper} {rest : List Oper} {o : Oper} {a : Act} {Q : Exit → Act → World → Prop} (hgd : o.guard = none) (s x : Operand)
    (ho : o.op = .call { callee := .builtin .append, args := #[s, x], argTypes := #[23, 23] }) (v : Value) (l : List Sv) (y : Sv) (b c : Nat) (hs : a.eval s = v) (hx : a.eval x = .slice (some ⟨b, 0, none⟩) 1 c) (hv : OS w v l) (hu : w.rangeAt b 0 y.enc) (hb : l.length + 1 ≤ 2097152)
    (h : ∀ v' w', OS w' v' (l ++ [y]) → w.grownBy w' v.ownBlock → (v'.ownBlock = v.ownBlock ∨ v'.ownBlock = some w.heap.size) → wpList Tryz.prog ops Q rest (a.put o.dst v') w') : wpList Tryz.prog ops Q (o :: rest) a w := by
  refine wpList_plain hgd fun K hK => ?_
  obtain ⟨i0, hi0, hz0, hz1, hz2⟩ := partsS
  obtain ⟨v', w', hr, h2, h3, _, h5⟩ := run_append_own_at (P := Tryz.prog) w 0 23 o.type 61 i0 zSv 4 56 Tryz.underlying23 hi0 hz0 hz1 hz2 rfl (by decide) v l.length (flS l) hv ⟨b, 0, none⟩ 1 c (flS [y]) (by rw [flS_len]; rfl)
      (fun j x hj => by
        have := hu j x (by simpa [flS] using hj)
        unfold Addr.add
        split
        · rename_i e; subst e; simpa using this
        · simpa using this) (flS_one [y]) (by unfold maxLen; omega) (by omega) (Nat.zero_le _)
  unfold Oper.wp execOp
  simp only [ho, resolve, invoke, builtin, Sem.run_bind, Sem.run_pure, Result.andThen_ok, List.map_toArray, List.map_cons, List.map_nil, hs, hx, hr]
  refine hK _ _ (h v' w' ?_ h3 h5)
  unfold OS
  rw [List.length_append, show flS (l ++ [y]) = flS l ++ flS [y] by simp [flS]]
  exact h2
theorem OS.keep {w w' : World} {v : Value} {l : List Sv} (h : OS w v l) (hk : ∀ b, v.ownBlock = some b → b < w.heap.size → w'.heap[b]? = w.heap[b]?) : OS w' v l := by
  obtain ⟨h1, h2⟩ := h
  refine ⟨h1, ?_⟩
  rcases h2 with e | ⟨g, cap, cur, rfl, hg, hcur, h5⟩
  · exact .inl e
  · exact .inr ⟨g, cap, cur, rfl, hg, (hk g rfl (Array.getElem?_eq_some_iff.1 hcur).1).trans hcur, h5⟩
theorem OS.form {w : World} {v : Value} {l : List Sv} (h : OS w v l) : ∃ p c, v = .slice p l.length c ∧ (∀ b, v.ownBlock = some b → b < w.heap.size) := by
  rcases h.2 with ⟨rfl, e⟩ | ⟨g, cap, cur, rfl, hg, hcur, h5⟩
  · refine ⟨none, 0, ?_, fun b hb => by cases hb⟩
    have e2 : l = [] := by simpa using e
    subst e2
    rfl
  · exact ⟨_, cap, rfl, fun b hb => by cases hb; exact (Array.getElem?_eq_some_iff.1 hcur).1⟩

/-- a row of one's own with what lies behind it, all in blocks of B or behind it -/
structure LX (B : Nat) (w : World) (v : Value) (l : List Xv) : Prop where
  own : OX w v l
  ok : ∀ x ∈ l, OkX w x
  lo : ∀ x ∈ l, ∀ b ∈ fX x, B ≤ b ∧ v.ownBlock ≠ some b
  own_lo : ∀ b, v.ownBlock = some b → B ≤ b
theorem LX.nil (B : Nat) (w : World) : LX B w (.slice none 0 0) [] := ⟨OX.nil w, by simp, by simp, by simp [Value.ownBlock]⟩
theorem LX.lt {B : Nat} {w : World} {v : Value} {l : List Xv} (h : LX B w v l) : ∀ b, v.ownBlock = some b → b < w.heap.size := by
  obtain ⟨_, _, _, h2⟩ := h.own.form
  exact h2
theorem LX.keepP {B P : Nat} {w w' : World} {v : Value} {l : List Xv} (h : LX B w v l) (hp : Pb P w w') (hB : P < B) : LX B w' v l :=
  ⟨h.own.keep fun b hb hl => hp.block b hl (by have := h.own_lo b hb; omega), fun x hx => (h.ok x hx).imp x fun a v ha e => hp.cell e (by have := (h.lo x hx _ ha).1; omega), h.lo, h.own_lo⟩
theorem LX.app {B : Nat} {w w' : World} {v v' : Value} {l : List Xv} {y : Xv} (h : LX B w v l) (hy : OkX w y) (hd : ∀ b ∈ fX y, B ≤ b ∧ v.ownBlock ≠ some b) (ho : OX w' v' (l ++ [y])) (hg : w.grownBy w' v.ownBlock)
    (hv : v'.ownBlock = v.ownBlock ∨ v'.ownBlock = some w.heap.size) (hB : B ≤ w.heap.size) : LX B w' v' (l ++ [y]) := by
  have key : ∀ x, OkX w x → (∀ b ∈ fX x, B ≤ b ∧ v.ownBlock ≠ some b) → OkX w' x ∧ ∀ b ∈ fX x, B ≤ b ∧ v'.ownBlock ≠ some b := fun x hx hx2 => by
    refine ⟨hx.imp x fun a u ha e => (World.cell?_of_block (hg.block a.block (block_lt_of_cell e) (fun e2 => (hx2 _ ha).2 e2.symm))).trans e, fun b hb => ⟨(hx2 b hb).1, ?_⟩⟩
    rcases hv with e | e
    · rw [e]; exact (hx2 b hb).2
    · rw [e]
      intro e2
      have := Option.some.inj e2
      have := hx.lt x b hb
      omega
  refine ⟨ho, fun x hx => ?_, fun x hx => ?_, fun b hb => ?_⟩
  · rcases List.mem_append.1 hx with hx | hx
    · exact (key x (h.ok x hx) (h.lo x hx)).1
    · rw [List.mem_singleton.1 hx]; exact (key y hy hd).1
  · rcases List.mem_append.1 hx with hx | hx
    · exact (key x (h.ok x hx) (h.lo x hx)).2
    · rw [List.mem_singleton.1 hx]; exact (key y hy hd).2
  · rcases hv with e | e
    · exact h.own_lo b (by rw [← e]; exact hb)
    · rw [e] at hb
      cases hb
      exact hB
theorem flX_get : ∀ (l : List Xv) (i j : Nat) (x : Xv) (u : Value), l[i]? = some x → x.enc[j]? = some u → (flX l)[i * 7 + j]? = some u
  | [], _, _, _, _, h, _ => by simp at h
  | a :: l, 0, j, x, u, h, hu => by
    simp at h
    subst h
    have hj := (List.getElem?_eq_some_iff.1 hu).1
    rw [flX, List.flatMap_cons, List.getElem?_append_left (by omega), Nat.zero_mul, Nat.zero_add]
    exact hu
  | a :: l, i + 1, j, x, u, h, hu => by
    have ih := flX_get l i j x u (by simpa using h) hu
    rw [flX, List.flatMap_cons, List.getElem?_append_right (by rw [Xv.len]; omega), Xv.len, show (i + 1) * 7 + j - 7 = i * 7 + j by omega]
    exact ih
theorem LX.row {B : Nat} {w : World} {p : Option Addr} {n c : Nat} {l : List Xv} (h : LX B w (.slice p n c) l) : n = l.length ∧ RowX w p c l ∧ (∀ b ∈ pb p l.length, B ≤ b) ∧ ∀ x ∈ l, ∀ b ∈ fX x, B ≤ b := by
  have hlo : ∀ x ∈ l, ∀ b ∈ fX x, B ≤ b := fun x hx b hb => (h.lo x hx b hb).1
  rcases h.own.2 with ⟨e, e0⟩ | ⟨g, cap, cur, e, hg, hcur, h3, h4, h5, h6⟩
  · have e2 : l = [] := by simpa using e0
    subst e2
    cases e
    exact ⟨rfl, RowX.nil w, fun b hb => by simp [pb] at hb, hlo⟩
  · cases e
    refine ⟨rfl, ⟨h3, by unfold maxLen at h4; omega, fun _ => ⟨g, 0, rfl, fun i x hx => ⟨fun j u hj => ?_, h.ok x (List.mem_of_getElem? hx)⟩⟩⟩, fun b hb => ?_, hlo⟩
    · have := h.own.cells (g := g) rfl _ _ (flX_get l i j x u hx hj)
      rw [Nat.zero_add]
      unfold Addr.add at this
      split at this
      · rename_i e; rw [e]; exact this
      · simpa using this
    · obtain ⟨_, a, e, e2⟩ := pb_of hb
      cases e
      rw [← e2]
      exact h.own_lo g rfl

/-- a row of one's own with what lies behind it, all in blocks of B or behind it -/
structure LS (B : Nat) (w : World) (v : Value) (l : List Sv) : Prop where
  own : OS w v l
  ok : ∀ x ∈ l, OkS w x
  lo : ∀ x ∈ l, ∀ b ∈ fS x, B ≤ b ∧ v.ownBlock ≠ some b
  own_lo : ∀ b, v.ownBlock = some b → B ≤ b
theorem LS.nil (B : Nat) (w : World) : LS B w (.slice none 0 0) [] := ⟨OS.nil w, by simp, by simp, by simp [Value.ownBlock]⟩
theorem LS.lt {B : Nat} {w : World} {v : Value} {l : List Sv} (h : LS B w v l) : ∀ b, v.ownBlock = some b → b < w.heap.size := by
  obtain ⟨_, _, _, h2⟩ := h.own.form
  exact h2
theorem LS.keepP {B P : Nat} {w w' : World} {v : Value} {l : List Sv} (h : LS B w v l) (hp : Pb P w w') (hB : P < B) : LS B w' v l :=
  ⟨h.own.keep fun b hb hl => hp.block b hl (by have := h.own_lo b hb; omega), fun x hx => (h.ok x hx).imp x fun a v ha e => hp.cell e (by have := (h.lo x hx _ ha).1; omega), h.lo, h.own_lo⟩
theorem LS.app {B : Nat} {w w' : World} {v v' : Value} {l : List Sv} {y : Sv} (h : LS B w v l) (hy : OkS w y) (hd : ∀ b ∈ fS y, B ≤ b ∧ v.ownBlock ≠ some b) (ho : OS w' v' (l ++ [y])) (hg : w.grownBy w' v.ownBlock)
    (hv : v'.ownBlock = v.ownBlock ∨ v'.ownBlock = some w.heap.size) (hB : B ≤ w.heap.size) : LS B w' v' (l ++ [y]) := by
  have key : ∀ x, OkS w x → (∀ b ∈ fS x, B ≤ b ∧ v.ownBlock ≠ some b) → OkS w' x ∧ ∀ b ∈ fS x, B ≤ b ∧ v'.ownBlock ≠ some b := fun x hx hx2 => by
    refine ⟨hx.imp x fun a u ha e => (World.cell?_of_block (hg.block a.block (block_lt_of_cell e) (fun e2 => (hx2 _ ha).2 e2.symm))).trans e, fun b hb => ⟨(hx2 b hb).1, ?_⟩⟩
    rcases hv with e | e
    · rw [e]; exact (hx2 b hb).2
    · rw [e]
      intro e2
      have := Option.some.inj e2
      have := hx.lt x b hb
      omega
  refine ⟨ho, fun x hx => ?_, fun x hx => ?_, fun b hb => ?_⟩
  · rcases List.mem_append.1 hx with hx | hx
    · exact (key x (h.ok x hx) (h.lo x hx)).1
    · rw [List.mem_singleton.1 hx]; exact (key y hy hd).1
  · rcases List.mem_append.1 hx with hx | hx
    · exact (key x (h.ok x hx) (h.lo x hx)).2
    · rw [List.mem_singleton.1 hx]; exact (key y hy hd).2
  · rcases hv with e | e
    · exact h.own_lo b (by rw [← e]; exact hb)
    · rw [e] at hb
      cases hb
      exact hB
theorem flS_get : ∀ (l : List Sv) (i j : Nat) (x : Sv) (u : Value), l[i]? = some x → x.enc[j]? = some u → (flS l)[i * 4 + j]? = some u
  | [], _, _, _, _, h, _ => by simp at h
  | a :: l, 0, j, x, u, h, hu => by
    simp at h
    subst h
    have hj := (List.getElem?_eq_some_iff.1 hu).1
    rw [flS, List.flatMap_cons, List.getElem?_append_left (by omega), Nat.zero_mul, Nat.zero_add]
    exact hu
  | a :: l, i + 1, j, x, u, h, hu => by
    have ih := flS_get l i j x u (by simpa using h) hu
    rw [flS, List.flatMap_cons, List.getElem?_append_right (by rw [Sv.len]; omega), Sv.len, show (i + 1) * 4 + j - 4 = i * 4 + j by omega]
    exact ih
theorem LS.row {B : Nat} {w : World} {p : Option Addr} {n c : Nat} {l : List Sv} (h : LS B w (.slice p n c) l) : n = l.length ∧ RowS w p c l ∧ (∀ b ∈ pb p l.length, B ≤ b) ∧ ∀ x ∈ l, ∀ b ∈ fS x, B ≤ b := by
  have hlo : ∀ x ∈ l, ∀ b ∈ fS x, B ≤ b := fun x hx b hb => (h.lo x hx b hb).1
  rcases h.own.2 with ⟨e, e0⟩ | ⟨g, cap, cur, e, hg, hcur, h3, h4, h5, h6⟩
  · have e2 : l = [] := by simpa using e0
    subst e2
    cases e
    exact ⟨rfl, RowS.nil w, fun b hb => by simp [pb] at hb, hlo⟩
  · cases e
    refine ⟨rfl, ⟨h3, by unfold maxLen at h4; omega, fun _ => ⟨g, 0, rfl, fun i x hx => ⟨fun j u hj => ?_, h.ok x (List.mem_of_getElem? hx)⟩⟩⟩, fun b hb => ?_, hlo⟩
    · have := h.own.cells (g := g) rfl _ _ (flS_get l i j x u hx hj)
      rw [Nat.zero_add]
      unfold Addr.add at this
      split at this
      · rename_i e; rw [e]; exact this
      · simpa using this
    · obtain ⟨_, a, e, e2⟩ := pb_of hb
      cases e
      rw [← e2]
      exact h.own_lo g rfl
end Ak
end Go.Proofs.YtcnagbkdckipnaaGreatDoor
/-
  THE WALK over the parser's joined (gen_akjn.py writes this text).
-/
namespace Go.Proofs.YtcnagbkdckipnaaGreatDoor
open Go.RowKit Go.Lib Go.Sort
namespace Ak
theorem XV.opened {B : Nat} {x : Xp} {v : Value} {w : World} (h : XV B x v w) : ∃ (y : Xv) (o : Int) (p : Option Addr) (l c : Nat) (sp : Option Addr) (sl sc : Nat) (aa : ByteArray) (cm : Int) (tx : ByteArray) (nu : Int), cX y = x ∧ y.enc = [.int .i64 o, .slice p l c, .slice sp sl sc, .string aa, .int .i64 cm, .string tx, .int .i64 nu] ∧
    v = .agg #[.int .i64 o, .slice p l c, .slice sp sl sc, .string aa, .int .i64 cm, .string tx, .int .i64 nu] ∧ OkX w y ∧ ∀ b ∈ fX y, B ≤ b := by
  obtain ⟨⟨op, p, c, ar, sp, sc, st, aa, cm, tx, nu⟩, h1, rfl, h3, h4⟩ := h
  exact ⟨_, _, _, _, _, _, _, _, _, _, _, _, h1, rfl, rfl, h3, h4⟩
/-- where the parser is -/
def atOf (P : Nat) (w : World) : Nat := match w.cell? ⟨P, 2, none⟩ with
  | some (.int _ x) => x.toNat
  | _ => 0
theorem Ps.atOf {W : World} {P : Nat} {qv wv : Value} {n : Nat} {ws : Nat → Wo} {at_ op mo : Nat} (h : Ps W P qv wv n ws at_ op mo) : Ak.atOf P W = at_ := by
  unfold Ak.atOf
  rw [h.c.cells.2.2.1]
  simp
theorem moreR_no {n : Nat} {ws : Nat → Wo} {part : RX} {name : ByteArray} {f i : Nat} {acc : List Xp} (h : nmB n ws i name = false) : moreR n ws part name f i acc = .ok acc i := by
  cases f with
  | zero => rfl
  | succ f => unfold moreR; rw [h]; rfl
theorem moreR_yes {n : Nat} {ws : Nat → Wo} {part : RX} {name : ByteArray} {f i : Nat} {acc : List Xp} (h : nmB n ws i name = true) (hf : n ≤ f + i) : i < n ∧ moreR n ws part name f i acc = (part (i + 1)).bind fun x a => moreR n ws part name (f - 1) a (acc ++ [x]) := by
  have hi : i < n := by
    unfold nmB at h
    simp at h
    exact h.1
  refine ⟨hi, ?_⟩
  cases f with
  | zero => omega
  | succ f => rw [moreR, if_pos h]; rfl
/-- a row of one, made in one stroke -/
theorem LX.one {B : Nat} {w : World} {y : Xv} {cs : Array Value} (hy : OkX w y) (hd : ∀ b ∈ fX y, B ≤ b) (he : y.enc.toArray = cs) (hB : B ≤ w.heap.size) : LX B (w.alloc (.cells cs 121)) (.slice (some ⟨w.heap.size, 0, none⟩) 1 1) [y] := by
  have hb : Below w.heap.size w (w.alloc (.cells cs 121)) := (Below.refl _ _).alloc (Nat.le_refl _) _
  have hl := y.len
  refine ⟨⟨by rw [flX_len], .inr ⟨w.heap.size, 1, cs, rfl, Nat.zero_le _, heap_new _ _, Nat.le_refl _, by unfold maxLen; omega, by rw [← he]; simp [hl], by rw [← he]; simp only [flX, List.flatMap_cons, List.flatMap_nil, List.append_nil]; exact List.take_of_length_le (by simp [hl])⟩⟩, fun x hx => ?_, fun x hx b hb2 => ?_, fun b hb2 => ?_⟩
  · rw [List.mem_singleton.1 hx]; exact hy.below hb
  · rw [List.mem_singleton.1 hx] at hb2
    refine ⟨hd b hb2, fun e => ?_⟩
    have := hy.lt y b hb2
    have := Option.some.inj e
    simp at this
    omega
  · cases hb2; exact hB
theorem Pb.grown {P : Nat} {W w w' : World} {r : Option Nat} (h : Pb P W w) (hg : w.grownBy w' r) (hr : ∀ b, r = some b → W.heap.size ≤ b) : Pb P W w' :=
  ⟨hg.os.trans h.os, hg.tape.trans h.tape, hg.output.trans h.output, Nat.le_trans h.size hg.size, fun k hk hn => (hg.block k (Nat.lt_of_lt_of_le hk h.size) (fun e => by have := hr k e.symm; omega)).trans (h.block k hk hn)⟩
/-- several expressions under one sign, in memory -/
theorem XV.joined {B : Nat} {w w' : World} {p : Option Addr} {k c : Nat} {l : List Xv} (h : LX B w (.slice p k c) l) (hk : ∀ (a : Addr) v, B ≤ a.block → w.cell? a = some v → w'.cell? a = some v) (o : Int) : XV B (.mk o (cXs l) [] ⟨#[]⟩ 0 ⟨#[]⟩ 0) (.agg #[.int .i64 o, .slice p k c, .slice none 0 0, .string ⟨#[]⟩, .int .i64 0, .string ⟨#[]⟩, .int .i64 0]) w' := by
  obtain ⟨rfl, h1, h2, h3⟩ := h.row
  have hlo : ∀ b ∈ fX (.mk o p c l none 0 [] ⟨#[]⟩ 0 ⟨#[]⟩ 0), B ≤ b := fun b hb => by
    unfold fX at hb
    rcases List.mem_append.1 hb with hb | hb
    · rcases List.mem_append.1 hb with hb | hb
      · exact h2 b hb
      · obtain ⟨x, hx, hb⟩ := (fXs_mem l b).1 hb
        exact h3 x hx b hb
    · simp [Ak.pb, fSs] at hb
  exact ⟨.mk o p c l none 0 [] ⟨#[]⟩ 0 ⟨#[]⟩ 0, by simp [cX, cSs], rfl, (OkX.of h1 (RowS.nil w)).imp _ fun a v ha e => hk a v (hlo _ ha) e, hlo⟩
end Ak
set_option maxRecDepth 100000 in
set_option maxHeartbeats 8000000 in
theorem akJoined (W : World) (P : Nat) (qv wv : Value) (n : Nat) (ws : Nat → Ak.Wo) (en : Ak.Wo) (at_ op mo : Nat) (h0 : Ak.Ps W P qv wv n ws at_ op mo) (F : FuncId) (first : Array Value) (eg : ∀ w, (callFunc F first).run Tryz.prog w = .ok (.enter F first) w) (ko : Int) (name : ByteArray) (part : Ak.RX)
    (hm : ∀ i x a, part i = .ok x a → i ≤ a)
    (hf : ∀ W1 a, Ak.Pb P W W1 → Ak.Ps W1 P qv wv n ws a op mo → Calls Tryz.prog F first W1 (Ak.PrE P qv wv n ws en op mo W1 (Ak.XV W1.heap.size) (part a))) :
    Calls Tryz.prog 124 #[.pointer (some ⟨P, 0, none⟩), .int .i64 ko, .string name, .func (.func F) first #[]] W (Ak.PrE P qv wv n ws en op mo W (Ak.XV W.heap.size) (Ak.joinedR n ws ko name part at_)) := by
  obtain ⟨W1, hW1⟩ : ∃ X, X = W.alloc (.cells Ak.exZ 121) := ⟨_, rfl⟩
  have hb : Below W.heap.size W W1 := by rw [hW1]; exact (Below.refl _ _).alloc (Nat.le_refl _) _
  have hs : W1.heap.size = W.heap.size + 1 := by rw [hW1]; simp
  have hnew : W1.heap[W.heap.size]? = some (.cells Ak.exZ 121 (0, 0)) := by rw [hW1]; exact Ak.heap_new _ _
  have C := hf W1 at_ (.of_below hb) (h0.below hb)
  have H0 := hide' h0
  have HW1 := hide' hW1
  have HB := hide' hb
  have hPl : P < W.heap.size := h0.c.lt
  obtain ⟨N, hN⟩ : ∃ N, W.heap.size = N := ⟨_, rfl⟩
  rw [hN] at hnew
  have HN := hide' hnew
  have HF := hide' hf
  have HM := hide' hm
  have hnn := h0.nn
  have hPN : P ≠ N := by omega
  obtain ⟨J, hJ⟩ : ∃ J, Ak.joinedR n ws ko name part at_ = J := ⟨_, rfl⟩
  rw [hJ]
  unfold Ak.joinedR at hJ
  clear hW1 hb hnew h0 hf hm
  obtain ⟨R, hR⟩ : ∃ R, part at_ = R := ⟨_, rfl⟩
  rw [hR] at C hJ
  cases R with
  | bad a why =>
    clear hR
    obtain rfl : J = .bad a why := hJ.symm
    clear hJ
    have HC := hide' C
    clear C
    go_enter Tryz.func124, Tryz.ntmps124
    go_wp2_with fail
    change Calls _ _ _ (W.alloc (.cells Ak.exZ 121)) _
    rw [← HW1.out]
    refine HC.out.mono ?_
    rintro e w5 hv
    obtain ⟨d, rfl, h1, h2, h3⟩ := hv
    have HV := hide' (Ak.PrE.of_bad (qv := qv) (wv := wv) (op := op) (mo := mo) (V := Ak.XV N) (Ak.GvE.pre ⟨d, rfl, h1, h2, h3⟩ (.of_below HB.out)))
    clear h1 h2 h3 HC
    go_wp2_with fail
    exact ⟨rfl, HV.out⟩
  | ok x a =>
    dsimp only [Ak.Res.bind] at hJ
    have hma : at_ ≤ a := HM.out _ _ _ hR
    clear hR
    obtain ⟨t, ht⟩ : ∃ t, Ak.nmB n ws a name = t := ⟨_, rfl⟩
    rw [ht] at hJ
    have HT := hide' ht
    have HJ := hide' hJ
    have HC := hide' C
    clear ht hJ C
    go_enter Tryz.func124, Tryz.ntmps124
    go_wp2_with fail
    change Calls _ _ _ (W.alloc (.cells Ak.exZ 121)) _
    rw [← HW1.out]
    refine HC.out.mono ?_
    rintro e w5 ⟨v, rfl, hx, hb5, hp5⟩
    obtain ⟨y, xo, xp, xl, xc, sp, sl, sc, xa, xm, xt, xn, hy, hye, rfl, hyo, hyl⟩ := hx.opened
    have hs5 := hb5.size
    obtain ⟨M, hM⟩ : ∃ M, w5.heap.size = M := ⟨_, rfl⟩
    have hba : Below w5.heap.size w5 (w5.alloc (.cells #[.int .i64 xo, .slice xp xl xc, .slice sp sl sc, .string xa, .int .i64 xm, .string xt, .int .i64 xn] 121)) := (Below.refl _ _).alloc (Nat.le_refl _) _
    have CI := hide' (HT.out ▸ akIsName (w5.alloc (.cells #[.int .i64 xo, .slice xp xl xc, .slice sp sl sc, .string xa, .int .i64 xm, .string xt, .int .i64 xn] 121)) P qv wv n ws a op mo (hp5.below hba) name)
    have HB5 := hide' (((Ak.Pb.of_below (b := P) HB.out).trans hb5).trans (.of_below hba))
    have HN5 := hide' ((hba.block N (by omega)).trans ((hb5.block N (by omega) (by omega)).trans HN.out))
    have HM5 := hide' (show (w5.alloc (.cells #[.int .i64 xo, .slice xp xl xc, .slice sp sl sc, .string xa, .int .i64 xm, .string xt, .int .i64 xn] 121)).heap[M]? = some (.cells #[.int .i64 xo, .slice xp xl xc, .slice sp sl sc, .string xa, .int .i64 xm, .string xt, .int .i64 xn] 121 (0, 0)) by rw [← hM]; exact Ak.heap_new _ _)
    have sA : (w5.alloc (.cells #[.int .i64 xo, .slice xp xl xc, .slice sp sl sc, .string xa, .int .i64 xm, .string xt, .int .i64 xn] 121)).heap.size = M + 1 := by simp [hM]
    have HP5 := hide' (hp5.below hba)
    have HY := hide' (hyo.below hba)
    have HYE := hide' hye
    have HYL := hide' hyl
    have HYC := hide' hy
    clear HC hx hb5 hp5 hba hyo hye hyl hy
    go_wp2_with fail
    refine CI.out.mono ?_
    rintro e w6 ⟨rfl, hb6⟩
    have hs6 := hb6.size
    have hm6 := (hb6.block M (by omega)).trans HM5.out
    have hn6 := (hb6.block N (by omega)).trans HN5.out
    unfold Ak.exZ at hn6
    have HY6 := hide' (HY.out.below hb6)
    have HP6 := hide' (HP5.out.below hb6)
    have HB6 := hide' (HB5.out.trans (.of_below (b := P) hb6))
    have HN6 := hide' hn6
    have m0 : w6.cell? ⟨M, 0, none⟩ = some (.int .i64 xo) := by rw [Lib.cell_of_heap hm6]; rfl
    have m1 : w6.cell? ⟨M, 1, none⟩ = some (.slice xp xl xc) := by rw [Lib.cell_of_heap hm6]; rfl
    have m2 : w6.cell? ⟨M, 2, none⟩ = some (.slice sp sl sc) := by rw [Lib.cell_of_heap hm6]; rfl
    have m3 : w6.cell? ⟨M, 3, none⟩ = some (.string xa) := by rw [Lib.cell_of_heap hm6]; rfl
    have m4 : w6.cell? ⟨M, 4, none⟩ = some (.int .i64 xm) := by rw [Lib.cell_of_heap hm6]; rfl
    have m5 : w6.cell? ⟨M, 5, none⟩ = some (.string xt) := by rw [Lib.cell_of_heap hm6]; rfl
    have m6 : w6.cell? ⟨M, 6, none⟩ = some (.int .i64 xn) := by rw [Lib.cell_of_heap hm6]; rfl
    have z0 : w6.cell? ⟨N, 0, none⟩ = some (.int .i64 0) := by rw [Lib.cell_of_heap hn6]; rfl
    have zf0 : w6.frozen? ⟨N, 0, none⟩ = false := Lib.frozen_of_heap hn6 0
    have z1 : w6.cell? ⟨N, 1, none⟩ = some (.slice none 0 0) := by rw [Lib.cell_of_heap hn6]; rfl
    have zf1 : w6.frozen? ⟨N, 1, none⟩ = false := Lib.frozen_of_heap hn6 1
    have z2 : w6.cell? ⟨N, 2, none⟩ = some (.slice none 0 0) := by rw [Lib.cell_of_heap hn6]; rfl
    have zf2 : w6.frozen? ⟨N, 2, none⟩ = false := Lib.frozen_of_heap hn6 2
    have z3 : w6.cell? ⟨N, 3, none⟩ = some (.string ⟨#[]⟩) := by rw [Lib.cell_of_heap hn6]; rfl
    have zf3 : w6.frozen? ⟨N, 3, none⟩ = false := Lib.frozen_of_heap hn6 3
    have z4 : w6.cell? ⟨N, 4, none⟩ = some (.int .i64 0) := by rw [Lib.cell_of_heap hn6]; rfl
    have zf4 : w6.frozen? ⟨N, 4, none⟩ = false := Lib.frozen_of_heap hn6 4
    have z5 : w6.cell? ⟨N, 5, none⟩ = some (.string ⟨#[]⟩) := by rw [Lib.cell_of_heap hn6]; rfl
    have zf5 : w6.frozen? ⟨N, 5, none⟩ = false := Lib.frozen_of_heap hn6 5
    have z6 : w6.cell? ⟨N, 6, none⟩ = some (.int .i64 0) := by rw [Lib.cell_of_heap hn6]; rfl
    have zf6 : w6.frozen? ⟨N, 6, none⟩ = false := Lib.frozen_of_heap hn6 6
    clear hm6 hn6 hb6 CI HP5 HB5 HN5 HM5 HY
    cases t
    · have HJ : Hid (Ak.Res.ok x a = J) := HJ
      obtain rfl := HJ.out
      go_wp2_with fail
      have hWN : W.heap.size ≤ N := by omega
      obtain ⟨f1, f2, f3⟩ := Ak.far7e HB6.out hWN HP6.out.c hPN (.int .i64 xo) (.slice xp xl xc) (.slice sp sl sc) (.string xa) (.int .i64 xm) (.string xt) (.int .i64 xn)
      have l7 := Ak.load7e HN6.out (.int .i64 xo) (.slice xp xl xc) (.slice sp sl sc) (.string xa) (.int .i64 xm) (.string xt) (.int .i64 xn)
      revert f1 f2 f3 l7
      generalize World.setCell _ ⟨N, 6, none⟩ (.int .i64 xn) = WF
      intro f1 f2 f3 l7
      refine bodyPost_ret (Ak.results_cell Tryz.results124 _ ⟨N, 0, none⟩ rfl _ _ l7) rfl ?_
      refine Ak.PrE.of_ok ?_ f1 (H0.out.go f1 f2 HP6.out.atn HP6.out.opm)
      refine ⟨y, HYC.out, by rw [HYE.out], HY6.out.imp y fun a v ha e => ?_, fun b hb => Nat.le_trans (by omega) (HYL.out b hb)⟩
      have k1 := HYL.out _ ha
      exact (World.cell?_of_block (f3 a.block (by omega))).trans e
    · have HJ : Hid (((Ak.moreR n ws part name n a [x]).bind fun l a => Ak.Res.ok (.mk ko l [] ⟨#[]⟩ 0 ⟨#[]⟩ 0) a) = J) := HJ
      obtain ⟨ans, hans⟩ : ∃ r, Ak.moreR n ws part name n a [x] = r := ⟨_, rfl⟩
      have HA0 : Hid (Ak.moreR n ws part name n a (Ak.cXs [y]) = ans) := hide' (by rw [show Ak.cXs [y] = [x] by simp [Ak.cXs, HYC.out]]; exact hans)
      have HJ2 := hide' (hans ▸ HJ.out)
      have HL0 := hide' (Ak.LX.one (B := N + 1) (cs := #[.int .i64 xo, .slice xp xl xc, .slice sp sl sc, .string xa, .int .i64 xm, .string xt, .int .i64 xn]) HY6.out (fun b hb => by have := HYL.out b hb; omega) (by rw [HYE.out]) (by omega))
      have hbk : Below w6.heap.size w6 (w6.alloc (.cells #[.int .i64 xo, .slice xp xl xc, .slice sp sl sc, .string xa, .int .i64 xm, .string xt, .int .i64 xn] 121)) := (Below.refl _ _).alloc (Nat.le_refl _) _
      have HPk := hide' (HP6.out.below hbk)
      have HBk := hide' (HB6.out.trans (.of_below (b := P) hbk))
      have HNk := hide' ((hbk.block N (by omega)).trans HN6.out)
      clear hans HJ hbk
      go_wp2_with fail
      go_loopw [10] (fun v wr => ∃ (i f : Nat) (lv : List Ak.Xv), Hid (Ak.Ps wr P qv wv n ws i op mo) ∧ Hid (Ak.Pb P W wr) ∧ Hid (Ak.LX (N + 1) wr v lv) ∧ Hid (wr.heap[N]? = some (.cells Ak.exZ 121 (0, 0))) ∧ Hid (Ak.moreR n ws part name f i (Ak.cXs lv) = ans) ∧ Hid (n ≤ f + i) ∧ Hid (lv.length ≤ i + 1)) (fun _ wr => n - Ak.atOf P wr)
      case atStart =>
        exact ⟨a, n, [y], HPk, HBk, HL0, HNk, HA0, hide' (by omega), hide' (by simp)⟩
      case round =>
        obtain ⟨i, f, lv, HP, HB, HL, HNr, HA, HFu, HLn⟩ := hrel
        clear HPk HBk HNk HL0 HA0
        obtain ⟨pv, cv, rfl, hvl⟩ := HL.out.own.form
        have hNl : N < wr.heap.size := (Array.getElem?_eq_some_iff.1 HNr.out).1
        have hin : i ≤ n := HP.out.atn
        obtain ⟨t2, ht2⟩ : ∃ t, Ak.nmB n ws i name = t := ⟨_, rfl⟩
        have CN := hide' (ht2 ▸ akIsName wr P qv wv n ws i op mo HP.out name)
        have HT2 := hide' ht2
        clear ht2
        cases t2
        · have HJ3 : Hid (J = .ok (.mk ko (Ak.cXs lv) [] ⟨#[]⟩ 0 ⟨#[]⟩ 0) i) := hide' (by rw [← HJ2.out, ← HA.out, Ak.moreR_no HT2.out]; rfl)
          go_wp2_with fail
          refine CN.out.mono ?_
          rintro e w7 ⟨rfl, hb7⟩
          have hn7 := (hb7.block N hNl).trans HNr.out
          unfold Ak.exZ at hn7
          have HN7 := hide' hn7
          have HP7 := hide' (HP.out.below hb7)
          have HB7 := hide' (HB.out.trans (.of_below (b := P) hb7))
          have HL7 := hide' (HL.out.keepP (.of_below (b := P) hb7) (by omega))
          have z0 : w7.cell? ⟨N, 0, none⟩ = some (.int .i64 0) := by rw [Lib.cell_of_heap hn7]; rfl
          have zf0 : w7.frozen? ⟨N, 0, none⟩ = false := Lib.frozen_of_heap hn7 0
          have z1 : w7.cell? ⟨N, 1, none⟩ = some (.slice none 0 0) := by rw [Lib.cell_of_heap hn7]; rfl
          have zf1 : w7.frozen? ⟨N, 1, none⟩ = false := Lib.frozen_of_heap hn7 1
          have z2 : w7.cell? ⟨N, 2, none⟩ = some (.slice none 0 0) := by rw [Lib.cell_of_heap hn7]; rfl
          have zf2 : w7.frozen? ⟨N, 2, none⟩ = false := Lib.frozen_of_heap hn7 2
          have z3 : w7.cell? ⟨N, 3, none⟩ = some (.string ⟨#[]⟩) := by rw [Lib.cell_of_heap hn7]; rfl
          have zf3 : w7.frozen? ⟨N, 3, none⟩ = false := Lib.frozen_of_heap hn7 3
          have z4 : w7.cell? ⟨N, 4, none⟩ = some (.int .i64 0) := by rw [Lib.cell_of_heap hn7]; rfl
          have zf4 : w7.frozen? ⟨N, 4, none⟩ = false := Lib.frozen_of_heap hn7 4
          have z5 : w7.cell? ⟨N, 5, none⟩ = some (.string ⟨#[]⟩) := by rw [Lib.cell_of_heap hn7]; rfl
          have zf5 : w7.frozen? ⟨N, 5, none⟩ = false := Lib.frozen_of_heap hn7 5
          have z6 : w7.cell? ⟨N, 6, none⟩ = some (.int .i64 0) := by rw [Lib.cell_of_heap hn7]; rfl
          have zf6 : w7.frozen? ⟨N, 6, none⟩ = false := Lib.frozen_of_heap hn7 6
          clear hn7 hb7 CN
          go_wp2_with fail
          have hWN : W.heap.size ≤ N := by omega
          obtain ⟨f1, f2, f3⟩ := Ak.far7e HB7.out hWN HP7.out.c hPN (.int .i64 ko) (.slice pv lv.length cv) (.slice none 0 0) (.string ⟨#[]⟩) (.int .i64 0) (.string ⟨#[]⟩) (.int .i64 0)
          have l7 := Ak.load7e HN7.out (.int .i64 ko) (.slice pv lv.length cv) (.slice none 0 0) (.string ⟨#[]⟩) (.int .i64 0) (.string ⟨#[]⟩) (.int .i64 0)
          revert f1 f2 f3 l7
          generalize World.setCell _ ⟨N, 6, none⟩ (.int .i64 0) = WF
          intro f1 f2 f3 l7
          refine bodyPost_ret (Ak.results_cell Tryz.results124 _ ⟨N, 0, none⟩ rfl _ _ l7) rfl ?_
          rw [HJ3.out]
          refine Ak.PrE.of_ok ?_ f1 (H0.out.go f1 f2 HP7.out.atn HP7.out.opm)
          exact (Ak.XV.joined HL7.out (fun a v ha e => (World.cell?_of_block (f3 a.block (by omega))).trans e) ko).mono (by omega)
        · obtain ⟨hil, hmr⟩ := Ak.moreR_yes (part := part) (acc := Ak.cXs lv) HT2.out HFu.out
          obtain ⟨_, _, d2, _, _, d5⟩ := HP.out.c.cells
          obtain ⟨R2, hR2⟩ : ∃ R, part (i + 1) = R := ⟨_, rfl⟩
          rw [hR2, HA.out] at hmr
          have HMR := hide' hmr
          have HR2 := hide' hR2
          have tw : IntKind.i64.wrap ((i : Int) + 1) = ((i + 1 : Nat) : Int) := by rw [IntKind.wrap_i64]; omega
          have HFR := hide' (fun W8 (q : Ak.Pb P W W8) (h8 : Ak.Ps W8 P qv wv n ws (i + 1) op mo) => hR2 ▸ HF.out W8 (i + 1) q h8)
          clear hmr hR2 d2 d5
          cases R2 with
          | bad a2 why =>
            have HJ3 : Hid (J = .bad a2 why) := hide' (by rw [← HJ2.out, HMR.out]; rfl)
            go_wp2_with fail
            refine CN.out.mono ?_
            rintro e w7 ⟨rfl, hb7⟩
            have HP7 := hide' (HP.out.below hb7)
            obtain ⟨_, _, d2, _, _, d5⟩ := HP7.out.c.cells
            have g2 := d5 2
            have hs7 := hb7.size
            have hq8 := Ak.Pb.set w7 P 2 (.int .i64 ((i + 1 : Nat) : Int))
            have HP8 := hide' (HP7.out.go hq8 (HP7.out.c.set2 (i + 1)) hil HP7.out.opm)
            have HB8 := hide' ((HB.out.trans (.of_below (b := P) hb7)).trans hq8)
            have HL8 := hide' ((HL.out.keepP (.of_below (b := P) hb7) (by omega)).keepP hq8 (by omega))
            have HN8 := hide' ((hq8.block N (by omega) (by omega)).trans ((hb7.block N hNl).trans HNr.out))
            have hs8 : (w7.setCell ⟨P, 2, none⟩ (.int .i64 ((i + 1 : Nat) : Int))).heap.size = w7.heap.size := by simp
            clear hb7 hq8 d5 CN
            go_wp2_with fail
            change Calls _ _ _ (w7.setCell ⟨P, 2, none⟩ (.int .i64 ((i + 1 : Nat) : Int))) _
            generalize w7.setCell ⟨P, 2, none⟩ (.int .i64 ((i + 1 : Nat) : Int)) = W8 at HP8 HB8 HL8 HN8 hs8 ⊢
            refine (HFR.out _ HB8.out HP8.out).mono ?_
            rintro e w9 hv
            obtain ⟨d, rfl, h1, h2, h3⟩ := hv
            have HV := hide' (Ak.PrE.of_bad (qv := qv) (wv := wv) (op := op) (mo := mo) (V := Ak.XV W.heap.size) (Ak.GvE.pre ⟨d, rfl, h1, h2, h3⟩ HB8.out))
            clear h1 h2 h3
            go_wp2_with fail
            refine ⟨rfl, ?_⟩
            rw [HJ3.out]
            exact HV.out
          | ok x2 a2 =>
            have hma2 : i + 1 ≤ a2 := HM.out _ _ _ HR2.out
            go_wp2_with fail
            refine CN.out.mono ?_
            rintro e w7 ⟨rfl, hb7⟩
            have HP7 := hide' (HP.out.below hb7)
            obtain ⟨_, _, d2, _, _, d5⟩ := HP7.out.c.cells
            have g2 := d5 2
            have hs7 := hb7.size
            have hq8 := Ak.Pb.set w7 P 2 (.int .i64 ((i + 1 : Nat) : Int))
            have HP8 := hide' (HP7.out.go hq8 (HP7.out.c.set2 (i + 1)) hil HP7.out.opm)
            have HB8 := hide' ((HB.out.trans (.of_below (b := P) hb7)).trans hq8)
            have HL8 := hide' ((HL.out.keepP (.of_below (b := P) hb7) (by omega)).keepP hq8 (by omega))
            have HN8 := hide' ((hq8.block N (by omega) (by omega)).trans ((hb7.block N hNl).trans HNr.out))
            have hs8 : (w7.setCell ⟨P, 2, none⟩ (.int .i64 ((i + 1 : Nat) : Int))).heap.size = w7.heap.size := by simp
            clear hb7 hq8 d5 CN
            go_wp2_with fail
            change Calls _ _ _ (w7.setCell ⟨P, 2, none⟩ (.int .i64 ((i + 1 : Nat) : Int))) _
            generalize w7.setCell ⟨P, 2, none⟩ (.int .i64 ((i + 1 : Nat) : Int)) = W8 at HP8 HB8 HL8 HN8 hs8 ⊢
            refine (HFR.out _ HB8.out HP8.out).mono ?_
            rintro e w9 ⟨v, rfl, hx, hb9, hp9⟩
            obtain ⟨y2, xo, xp, xl, xc, sp, sl, sc, xa, xm, xt, xn, hy, hye, rfl, hyo, hyl⟩ := hx.opened
            have hs9 := hb9.size
            have HL9 := hide' (HL8.out.keepP hb9 (by omega))
            have hbk : Below w9.heap.size w9 (w9.alloc (.cells #[.int .i64 xo, .slice xp xl xc, .slice sp sl sc, .string xa, .int .i64 xm, .string xt, .int .i64 xn] 121)) := (Below.refl _ _).alloc (Nat.le_refl _) _
            have HL10 := hide' (HL9.out.keepP (.of_below (b := P) hbk) (by omega))
            have HR10 := hide' (show (w9.alloc (.cells #[.int .i64 xo, .slice xp xl xc, .slice sp sl sc, .string xa, .int .i64 xm, .string xt, .int .i64 xn] 121)).rangeAt w9.heap.size 0 y2.enc by rw [hye]; exact Ak.range_of (Ak.heap_new w9 (.cells #[.int .i64 xo, .slice xp xl xc, .slice sp sl sc, .string xa, .int .i64 xm, .string xt, .int .i64 xn] 121)))
            have HY10 := hide' (hyo.below hbk)
            have HB10 := hide' ((HB8.out.trans hb9).trans (.of_below (b := P) hbk))
            have HP10 := hide' (hp9.below hbk)
            have HN10 := hide' ((hbk.block N (by omega)).trans ((hb9.block N (by omega) (by omega)).trans HN8.out))
            have HY2 := hide' hyl
            have HC2 := hide' hy
            have HLb := hide' (show lv.length + 1 ≤ 2097152 by have := HLn.out; omega)
            have HHS := hide' hvl
            have HS7 := hide' hs8
            clear hx hb9 hp9 hbk hy hye hyo hyl hvl hs8
            go_wp2_with (refine Ak.wpList_appX rfl (.tmp 30) (.tmp 33) rfl (.slice pv lv.length cv) lv y2 w9.heap.size 1 rfl rfl HL10.out.own HR10.out HLb.out ?_; intro v' w' ho hg hv)
            have hlo := HL10.out.own_lo
            have hlt := HL10.out.lt
            have hs11 : w9.heap.size ≤ (w9.alloc (.cells #[.int .i64 xo, .slice xp xl xc, .slice sp sl sc, .string xa, .int .i64 xm, .string xt, .int .i64 xn] 121)).heap.size := by simp
            have hB11 := HB10.out.grown hg (fun b hb => by have := hlo b hb; omega)
            have hPl2 := HP10.out.c.lt
            have HP11 := hide' (H0.out.go hB11 ((hg.block P hPl2 (fun e => by have := hlo P e.symm; omega)).trans HP10.out.c) HP10.out.atn HP10.out.opm)
            have HL11 := hide' (HL10.out.app HY10.out (fun b hb => ⟨by have := HY2.out b hb; have := HS7.out; omega, fun e => by have := HY2.out b hb; have := HHS.out b e; have := HS7.out; omega⟩) ho hg hv (by have := HS7.out; omega))
            have HN11 := hide' ((hg.block N (by have := (Array.getElem?_eq_some_iff.1 HN10.out).1; exact this) (fun e => by have := hlo N e.symm; omega)).trans HN10.out)
            have HA11 : Hid (Ak.moreR n ws part name (f - 1) a2 (Ak.cXs (lv ++ [y2])) = ans) := hide' (by rw [show Ak.cXs (lv ++ [y2]) = Ak.cXs lv ++ [x2] by rw [Ak.cXs_map, List.map_append, ← Ak.cXs_map]; simp [HC2.out]]; exact HMR.out.symm)
            refine ⟨⟨a2, f - 1, lv ++ [y2], HP11, hide' hB11, HL11, HN11, HA11, hide' (by have := HFu.out; omega), hide' (by have := HLn.out; simp; omega)⟩, ?_⟩
            rw [HP11.out.atOf, HP.out.atOf]
            omega
end Go.Proofs.YtcnagbkdckipnaaGreatDoor
