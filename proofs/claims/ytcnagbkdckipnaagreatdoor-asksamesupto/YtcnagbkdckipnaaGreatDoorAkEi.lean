/-
  WALKS over the parser's both, either (gen_akei.py writes this text).
-/
import Derived.Test.YtcnagbkdckipnaaGreatDoorAkJn
namespace Go.Proofs.YtcnagbkdckipnaaGreatDoor
open Go.RowKit Go.Lib Go.Sort
set_option maxRecDepth 100000 in
set_option maxHeartbeats 4000000 in
theorem akBoth (W : World) (P : Nat) (qv wv : Value) (n : Nat) (ws : Nat → Ak.Wo) (en : Ak.Wo) (at_ op mo : Nat) (h0 : Ak.Ps W P qv wv n ws at_ op mo) (part : Ak.RX) (hm : ∀ i x a, part i = .ok x a → i ≤ a)
    (hf : ∀ W1 a, Ak.Pb P W W1 → Ak.Ps W1 P qv wv n ws a op mo → Calls Tryz.prog 133 #[.pointer (some ⟨P, 0, none⟩)] W1 (Ak.PrE P qv wv n ws en op mo W1 (Ak.XV W1.heap.size) (part a))) :
    Calls Tryz.prog 125 #[.pointer (some ⟨P, 0, none⟩)] W (Ak.PrE P qv wv n ws en op mo W (Ak.XV W.heap.size) (Ak.joinedR n ws 0 (Ak.bs [97, 110, 100]) part at_)) := by
  obtain ⟨W1, hW1⟩ : ∃ X, X = W.alloc (.cells Ak.exZ 121) := ⟨_, rfl⟩
  have hb : Below W.heap.size W W1 := by rw [hW1]; exact (Below.refl _ _).alloc (Nat.le_refl _) _
  have hs : W1.heap.size = W.heap.size + 1 := by rw [hW1]; simp
  have hnew : W1.heap[W.heap.size]? = some (.cells Ak.exZ 121 (0, 0)) := by rw [hW1]; exact Ak.heap_new _ _
  have C := akJoined W1 P qv wv n ws en at_ op mo (h0.below hb) 133 #[.pointer (some ⟨P, 0, none⟩)] (fun w => by rfl) 0 (Ak.bs [97, 110, 100]) part hm (fun W2 a q h => hf W2 a ((Ak.Pb.of_below hb).trans q) h)
  have H0 := hide' h0
  have HW1 := hide' hW1
  have HB := hide' hb
  have hPl : P < W.heap.size := h0.c.lt
  obtain ⟨N, hN⟩ : ∃ N, W.heap.size = N := ⟨_, rfl⟩
  rw [hN] at hnew
  have HN := hide' hnew
  have hPN : P ≠ N := by omega
  obtain ⟨R, hR⟩ : ∃ R, Ak.joinedR n ws 0 (Ak.bs [97, 110, 100]) part at_ = R := ⟨_, rfl⟩
  rw [hR] at C ⊢
  have HC := hide' C
  have hmf : ∀ (fn : Fn) (first cap : Array Value) (w : World), (Instr.makeFunc fn first cap).run Tryz.prog w = .ok (.func fn first cap) w := fun _ _ _ _ => rfl
  clear hW1 hb hnew h0 hf hm hR C
  cases R with
  | bad a why =>
    go_enter Tryz.func125, Tryz.ntmps125
    go_wp2_with fail
    change Calls _ _ _ (W.alloc (.cells Ak.exZ 121)) _
    rw [← HW1.out]
    refine HC.out.mono ?_
    rintro e w5 hv
    obtain ⟨d, rfl, h1, h2, h3⟩ := hv
    have HV := hide' (Ak.PrE.of_bad (qv := qv) (wv := wv) (op := op) (mo := mo) (V := Ak.XV N) (Ak.GvE.pre ⟨d, rfl, h1, h2, h3⟩ (.of_below HB.out)))
    clear h1 h2 h3 HC
    go_wp2_with fail
    exact ⟨rfl, HV.out⟩
  | ok x a =>
    go_enter Tryz.func125, Tryz.ntmps125
    go_wp2_with fail
    change Calls _ _ _ (W.alloc (.cells Ak.exZ 121)) _
    rw [← HW1.out]
    refine HC.out.mono ?_
    rintro e w5 ⟨v, rfl, hx, hb5, hp5⟩
    obtain ⟨y, xo, xp, xl, xc, sp, sl, sc, xa, xm, xt, xn, hy, hye, rfl, hyo, hyl⟩ := hx.opened
    have hn5 := (hb5.block N (by omega) (by omega)).trans HN.out
    unfold Ak.exZ at hn5
    have HN5 := hide' hn5
    have HB5 := hide' ((Ak.Pb.of_below (b := P) HB.out).trans hb5)
    have HP5 := hide' hp5
    have HY := hide' hyo
    have HYE := hide' hye
    have HYL := hide' hyl
    have HYC := hide' hy
    have z0 : w5.cell? ⟨N, 0, none⟩ = some (.int .i64 0) := by rw [Lib.cell_of_heap hn5]; rfl
    have zf0 : w5.frozen? ⟨N, 0, none⟩ = false := Lib.frozen_of_heap hn5 0
    have z1 : w5.cell? ⟨N, 1, none⟩ = some (.slice none 0 0) := by rw [Lib.cell_of_heap hn5]; rfl
    have zf1 : w5.frozen? ⟨N, 1, none⟩ = false := Lib.frozen_of_heap hn5 1
    have z2 : w5.cell? ⟨N, 2, none⟩ = some (.slice none 0 0) := by rw [Lib.cell_of_heap hn5]; rfl
    have zf2 : w5.frozen? ⟨N, 2, none⟩ = false := Lib.frozen_of_heap hn5 2
    have z3 : w5.cell? ⟨N, 3, none⟩ = some (.string ⟨#[]⟩) := by rw [Lib.cell_of_heap hn5]; rfl
    have zf3 : w5.frozen? ⟨N, 3, none⟩ = false := Lib.frozen_of_heap hn5 3
    have z4 : w5.cell? ⟨N, 4, none⟩ = some (.int .i64 0) := by rw [Lib.cell_of_heap hn5]; rfl
    have zf4 : w5.frozen? ⟨N, 4, none⟩ = false := Lib.frozen_of_heap hn5 4
    have z5 : w5.cell? ⟨N, 5, none⟩ = some (.string ⟨#[]⟩) := by rw [Lib.cell_of_heap hn5]; rfl
    have zf5 : w5.frozen? ⟨N, 5, none⟩ = false := Lib.frozen_of_heap hn5 5
    have z6 : w5.cell? ⟨N, 6, none⟩ = some (.int .i64 0) := by rw [Lib.cell_of_heap hn5]; rfl
    have zf6 : w5.frozen? ⟨N, 6, none⟩ = false := Lib.frozen_of_heap hn5 6
    clear HC hx hb5 hp5 hyo hye hyl hy hn5
    go_wp2_with fail
    have hWN : W.heap.size ≤ N := by omega
    obtain ⟨f1, f2, f3⟩ := Ak.far7e HB5.out hWN HP5.out.c hPN (.int .i64 xo) (.slice xp xl xc) (.slice sp sl sc) (.string xa) (.int .i64 xm) (.string xt) (.int .i64 xn)
    have l7 := Ak.load7e HN5.out (.int .i64 xo) (.slice xp xl xc) (.slice sp sl sc) (.string xa) (.int .i64 xm) (.string xt) (.int .i64 xn)
    revert f1 f2 f3 l7
    generalize World.setCell _ ⟨N, 6, none⟩ (.int .i64 xn) = WF
    intro f1 f2 f3 l7
    refine bodyPost_ret (Ak.results_cell Tryz.results125 _ ⟨N, 0, none⟩ rfl _ _ l7) rfl ?_
    refine Ak.PrE.of_ok ?_ f1 (H0.out.go f1 f2 HP5.out.atn HP5.out.opm)
    refine ⟨y, HYC.out, by rw [HYE.out], HY.out.imp y fun a v ha e => ?_, fun b hb => by have := HYL.out b hb; omega⟩
    have k1 := HYL.out _ ha
    exact (World.cell?_of_block (f3 a.block (by omega))).trans e
set_option maxRecDepth 100000 in
set_option maxHeartbeats 4000000 in
theorem akEither (W : World) (P : Nat) (qv wv : Value) (n : Nat) (ws : Nat → Ak.Wo) (en : Ak.Wo) (at_ op mo : Nat) (h0 : Ak.Ps W P qv wv n ws at_ op mo) (part : Ak.RX) (hm : ∀ i x a, part i = .ok x a → i ≤ a)
    (hf : ∀ W1 a, Ak.Pb P W W1 → Ak.Ps W1 P qv wv n ws a op mo → Calls Tryz.prog 125 #[.pointer (some ⟨P, 0, none⟩)] W1 (Ak.PrE P qv wv n ws en op mo W1 (Ak.XV W1.heap.size) (part a))) :
    Calls Tryz.prog 101 #[.pointer (some ⟨P, 0, none⟩)] W (Ak.PrE P qv wv n ws en op mo W (Ak.XV W.heap.size) (Ak.joinedR n ws 1 (Ak.bs [111, 114]) part at_)) := by
  obtain ⟨W1, hW1⟩ : ∃ X, X = W.alloc (.cells Ak.exZ 121) := ⟨_, rfl⟩
  have hb : Below W.heap.size W W1 := by rw [hW1]; exact (Below.refl _ _).alloc (Nat.le_refl _) _
  have hs : W1.heap.size = W.heap.size + 1 := by rw [hW1]; simp
  have hnew : W1.heap[W.heap.size]? = some (.cells Ak.exZ 121 (0, 0)) := by rw [hW1]; exact Ak.heap_new _ _
  have C := akJoined W1 P qv wv n ws en at_ op mo (h0.below hb) 125 #[.pointer (some ⟨P, 0, none⟩)] (fun w => by rfl) 1 (Ak.bs [111, 114]) part hm (fun W2 a q h => hf W2 a ((Ak.Pb.of_below hb).trans q) h)
  have H0 := hide' h0
  have HW1 := hide' hW1
  have HB := hide' hb
  have hPl : P < W.heap.size := h0.c.lt
  obtain ⟨N, hN⟩ : ∃ N, W.heap.size = N := ⟨_, rfl⟩
  rw [hN] at hnew
  have HN := hide' hnew
  have hPN : P ≠ N := by omega
  obtain ⟨R, hR⟩ : ∃ R, Ak.joinedR n ws 1 (Ak.bs [111, 114]) part at_ = R := ⟨_, rfl⟩
  rw [hR] at C ⊢
  have HC := hide' C
  have hmf : ∀ (fn : Fn) (first cap : Array Value) (w : World), (Instr.makeFunc fn first cap).run Tryz.prog w = .ok (.func fn first cap) w := fun _ _ _ _ => rfl
  clear hW1 hb hnew h0 hf hm hR C
  cases R with
  | bad a why =>
    go_enter Tryz.func101, Tryz.ntmps101
    go_wp2_with fail
    change Calls _ _ _ (W.alloc (.cells Ak.exZ 121)) _
    rw [← HW1.out]
    refine HC.out.mono ?_
    rintro e w5 hv
    obtain ⟨d, rfl, h1, h2, h3⟩ := hv
    have HV := hide' (Ak.PrE.of_bad (qv := qv) (wv := wv) (op := op) (mo := mo) (V := Ak.XV N) (Ak.GvE.pre ⟨d, rfl, h1, h2, h3⟩ (.of_below HB.out)))
    clear h1 h2 h3 HC
    go_wp2_with fail
    exact ⟨rfl, HV.out⟩
  | ok x a =>
    go_enter Tryz.func101, Tryz.ntmps101
    go_wp2_with fail
    change Calls _ _ _ (W.alloc (.cells Ak.exZ 121)) _
    rw [← HW1.out]
    refine HC.out.mono ?_
    rintro e w5 ⟨v, rfl, hx, hb5, hp5⟩
    obtain ⟨y, xo, xp, xl, xc, sp, sl, sc, xa, xm, xt, xn, hy, hye, rfl, hyo, hyl⟩ := hx.opened
    have hn5 := (hb5.block N (by omega) (by omega)).trans HN.out
    unfold Ak.exZ at hn5
    have HN5 := hide' hn5
    have HB5 := hide' ((Ak.Pb.of_below (b := P) HB.out).trans hb5)
    have HP5 := hide' hp5
    have HY := hide' hyo
    have HYE := hide' hye
    have HYL := hide' hyl
    have HYC := hide' hy
    have z0 : w5.cell? ⟨N, 0, none⟩ = some (.int .i64 0) := by rw [Lib.cell_of_heap hn5]; rfl
    have zf0 : w5.frozen? ⟨N, 0, none⟩ = false := Lib.frozen_of_heap hn5 0
    have z1 : w5.cell? ⟨N, 1, none⟩ = some (.slice none 0 0) := by rw [Lib.cell_of_heap hn5]; rfl
    have zf1 : w5.frozen? ⟨N, 1, none⟩ = false := Lib.frozen_of_heap hn5 1
    have z2 : w5.cell? ⟨N, 2, none⟩ = some (.slice none 0 0) := by rw [Lib.cell_of_heap hn5]; rfl
    have zf2 : w5.frozen? ⟨N, 2, none⟩ = false := Lib.frozen_of_heap hn5 2
    have z3 : w5.cell? ⟨N, 3, none⟩ = some (.string ⟨#[]⟩) := by rw [Lib.cell_of_heap hn5]; rfl
    have zf3 : w5.frozen? ⟨N, 3, none⟩ = false := Lib.frozen_of_heap hn5 3
    have z4 : w5.cell? ⟨N, 4, none⟩ = some (.int .i64 0) := by rw [Lib.cell_of_heap hn5]; rfl
    have zf4 : w5.frozen? ⟨N, 4, none⟩ = false := Lib.frozen_of_heap hn5 4
    have z5 : w5.cell? ⟨N, 5, none⟩ = some (.string ⟨#[]⟩) := by rw [Lib.cell_of_heap hn5]; rfl
    have zf5 : w5.frozen? ⟨N, 5, none⟩ = false := Lib.frozen_of_heap hn5 5
    have z6 : w5.cell? ⟨N, 6, none⟩ = some (.int .i64 0) := by rw [Lib.cell_of_heap hn5]; rfl
    have zf6 : w5.frozen? ⟨N, 6, none⟩ = false := Lib.frozen_of_heap hn5 6
    clear HC hx hb5 hp5 hyo hye hyl hy hn5
    go_wp2_with fail
    have hWN : W.heap.size ≤ N := by omega
    obtain ⟨f1, f2, f3⟩ := Ak.far7e HB5.out hWN HP5.out.c hPN (.int .i64 xo) (.slice xp xl xc) (.slice sp sl sc) (.string xa) (.int .i64 xm) (.string xt) (.int .i64 xn)
    have l7 := Ak.load7e HN5.out (.int .i64 xo) (.slice xp xl xc) (.slice sp sl sc) (.string xa) (.int .i64 xm) (.string xt) (.int .i64 xn)
    revert f1 f2 f3 l7
    generalize World.setCell _ ⟨N, 6, none⟩ (.int .i64 xn) = WF
    intro f1 f2 f3 l7
    refine bodyPost_ret (Ak.results_cell Tryz.results101 _ ⟨N, 0, none⟩ rfl _ _ l7) rfl ?_
    refine Ak.PrE.of_ok ?_ f1 (H0.out.go f1 f2 HP5.out.atn HP5.out.opm)
    refine ⟨y, HYC.out, by rw [HYE.out], HY.out.imp y fun a v ha e => ?_, fun b hb => by have := HYL.out b hb; omega⟩
    have k1 := HYL.out _ ha
    exact (World.cell?_of_block (f3 a.block (by omega))).trans e
end Go.Proofs.YtcnagbkdckipnaaGreatDoor
