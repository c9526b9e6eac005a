import Derived.Test.YtcnagbkdckipnaaGreatDoorAkLeM
/-
  THE WALK over the parser's one: a bracket, not, string-length (gen_akone.py writes this text).
-/
namespace Go.Proofs.YtcnagbkdckipnaaGreatDoor
open Go.RowKit Go.Lib Go.Sort
set_option maxRecDepth 100000 in
set_option maxHeartbeats 8000000 in
theorem akOneA (W : World) (P : Nat) (qv wv : Value) (n : Nat) (ws : Nat → Ak.Wo) (en : Ak.Wo) (at_ op mo : Nat) (h0 : Ak.Ps W P qv wv n ws at_ op mo) (wi : Ak.RX)
    (hA : Ak.sgB n ws at_ ⟨#[40]⟩ = true)
    (hw : ∀ W1, Ak.Pb P W W1 → Ak.Ps W1 P qv wv n ws at_ op mo → Calls Tryz.prog 100 #[.pointer (some ⟨P, 0, none⟩), .string ⟨#[41]⟩, .func (.func 101) #[.pointer (some ⟨P, 0, none⟩)] #[]] W1 (Ak.PrE P qv wv n ws en op mo W1 (Ak.XV W1.heap.size) (wi at_))) :
    Calls Tryz.prog 133 #[.pointer (some ⟨P, 0, none⟩)] W (Ak.PrE P qv wv n ws en op mo W (Ak.XV W.heap.size) (wi at_)) := by
  obtain ⟨W1, hW1⟩ : ∃ X, X = W.alloc (.cells Ak.exZ 121) := ⟨_, rfl⟩
  have hb : Below W.heap.size W W1 := by rw [hW1]; exact (Below.refl _ _).alloc (Nat.le_refl _) _
  have hs : W1.heap.size = W.heap.size + 1 := by rw [hW1]; simp
  have hnew : W1.heap[W.heap.size]? = some (.cells Ak.exZ 121 (0, 0)) := by rw [hW1]; exact Ak.heap_new _ _
  have CI := hide' (hA ▸ akIs W1 P qv wv n ws at_ op mo (h0.below hb) ⟨#[40]⟩)
  have CL := hide' (fun (w : World) (hp : Ak.Ps w P qv wv n ws at_ op mo) (s : ByteArray) => akCalls w P qv wv n ws at_ op mo hp s)
  have HW := hide' hw
  have H0 := hide' h0
  have HW1 := hide' hW1
  have HB := hide' hb
  have hPl : P < W.heap.size := h0.c.lt
  obtain ⟨N, hN⟩ : ∃ N, W.heap.size = N := ⟨_, rfl⟩
  rw [hN] at hnew
  have HN := hide' hnew
  have hPN : P ≠ N := by omega
  have tw : IntKind.i64.wrap ((at_ : Int) + 1) = ((at_ + 1 : Nat) : Int) := by have := h0.atn; have := h0.nn; rw [IntKind.wrap_i64]; omega
  have hmf : ∀ (fn : Fn) (first cap : Array Value) (w : World), (Instr.makeFunc fn first cap).run Tryz.prog w = .ok (.func fn first cap) w := fun _ _ _ _ => rfl
  obtain ⟨R, hR⟩ : ∃ R, wi at_ = R := ⟨_, rfl⟩
  rw [hR] at HW ⊢
  clear hW1 hb hnew h0 hw hR hA CL
  cases R with
  | bad a why =>
    go_enter Tryz.func133, Tryz.ntmps133
    go_wp2_with fail
    change Calls _ _ _ (W.alloc (.cells Ak.exZ 121)) _
    rw [← HW1.out]
    refine CI.out.mono ?_
    rintro e w2 ⟨rfl, hb2⟩
    have HP2 := hide' ((H0.out.below HB.out).below hb2)
    have HB2 := hide' ((Ak.Pb.of_below (b := P) HB.out).trans (.of_below (b := P) hb2))
    have HN2 := hide' ((hb2.block N (by omega)).trans HN.out)
    clear hb2 CI
    go_wp2_with fail
    refine (HW.out w2 HB2.out HP2.out).mono ?_
    rintro e w9 hv
    obtain ⟨d, rfl, h1, h2, h3⟩ := hv
    have HV := hide' (Ak.PrE.of_bad (qv := qv) (wv := wv) (op := op) (mo := mo) (V := Ak.XV N) (Ak.GvE.pre ⟨d, rfl, h1, h2, h3⟩ HB2.out))
    clear h1 h2 h3
    go_wp2_with fail
    exact ⟨rfl, HV.out⟩
  | ok x a =>
    go_enter Tryz.func133, Tryz.ntmps133
    go_wp2_with fail
    change Calls _ _ _ (W.alloc (.cells Ak.exZ 121)) _
    rw [← HW1.out]
    refine CI.out.mono ?_
    rintro e w2 ⟨rfl, hb2⟩
    have HP2 := hide' ((H0.out.below HB.out).below hb2)
    have HB2 := hide' ((Ak.Pb.of_below (b := P) HB.out).trans (.of_below (b := P) hb2))
    have HN2 := hide' ((hb2.block N (by omega)).trans HN.out)
    clear hb2 CI
    go_wp2_with fail
    refine (HW.out w2 HB2.out HP2.out).mono ?_
    rintro e w9 ⟨v, rfl, hx, hb9, hp9⟩
    obtain ⟨xo, xp, xl, xc, sp, sl, sc, xa, xm, xt, xn, rfl, hxk⟩ := Ak.cmpX hx
    have HX := hide' hxk
    have HP9 := hide' hp9
    have HN9 := hide' ((hb9.block N (Array.getElem?_eq_some_iff.1 HN2.out).1 (by omega)).trans HN2.out)
    have hsz8 := (Array.getElem?_eq_some_iff.1 HN2.out).1
    have HB9 := hide' (HB2.out.trans hb9)
    clear hx hxk hb9 hp9
    have hn_ := HN9.out
    unfold Ak.exZ at hn_
    have z0 : w9.cell? ⟨N, 0, none⟩ = some (.int .i64 0) := by rw [Lib.cell_of_heap hn_]; rfl
    have zf0 : w9.frozen? ⟨N, 0, none⟩ = false := Lib.frozen_of_heap hn_ 0
    have z1 : w9.cell? ⟨N, 1, none⟩ = some (.slice none 0 0) := by rw [Lib.cell_of_heap hn_]; rfl
    have zf1 : w9.frozen? ⟨N, 1, none⟩ = false := Lib.frozen_of_heap hn_ 1
    have z2 : w9.cell? ⟨N, 2, none⟩ = some (.slice none 0 0) := by rw [Lib.cell_of_heap hn_]; rfl
    have zf2 : w9.frozen? ⟨N, 2, none⟩ = false := Lib.frozen_of_heap hn_ 2
    have z3 : w9.cell? ⟨N, 3, none⟩ = some (.string ⟨#[]⟩) := by rw [Lib.cell_of_heap hn_]; rfl
    have zf3 : w9.frozen? ⟨N, 3, none⟩ = false := Lib.frozen_of_heap hn_ 3
    have z4 : w9.cell? ⟨N, 4, none⟩ = some (.int .i64 0) := by rw [Lib.cell_of_heap hn_]; rfl
    have zf4 : w9.frozen? ⟨N, 4, none⟩ = false := Lib.frozen_of_heap hn_ 4
    have z5 : w9.cell? ⟨N, 5, none⟩ = some (.string ⟨#[]⟩) := by rw [Lib.cell_of_heap hn_]; rfl
    have zf5 : w9.frozen? ⟨N, 5, none⟩ = false := Lib.frozen_of_heap hn_ 5
    have z6 : w9.cell? ⟨N, 6, none⟩ = some (.int .i64 0) := by rw [Lib.cell_of_heap hn_]; rfl
    have zf6 : w9.frozen? ⟨N, 6, none⟩ = false := Lib.frozen_of_heap hn_ 6
    clear hn_
    go_wp2_with fail
    have hWN : W.heap.size ≤ N := by omega
    have hnz := HN9.out
    unfold Ak.exZ at hnz
    obtain ⟨f1, f2, f3⟩ := Ak.far7e HB9.out hWN HP9.out.c hPN (.int .i64 xo) (.slice xp xl xc) (.slice sp sl sc) (.string xa) (.int .i64 xm) (.string xt) (.int .i64 xn)
    have l7 := Ak.load7e hnz (.int .i64 xo) (.slice xp xl xc) (.slice sp sl sc) (.string xa) (.int .i64 xm) (.string xt) (.int .i64 xn)
    revert f1 f2 f3 l7
    generalize World.setCell _ ⟨N, 6, none⟩ (.int .i64 xn) = WF
    intro f1 f2 f3 l7
    refine bodyPost_ret (Ak.results_cell Tryz.results133 _ ⟨N, 0, none⟩ rfl _ _ l7) rfl ?_
    refine Ak.PrE.of_ok ?_ f1 (H0.out.go f1 f2 HP9.out.atn HP9.out.opm)
    have hXf := (HX.out WF fun b v hb e => (World.cell?_of_block (f3 b.block (by omega))).trans e).1
    exact hXf.mono (by omega)
set_option maxRecDepth 100000 in
set_option maxHeartbeats 8000000 in
theorem akOneB (W : World) (P : Nat) (qv wv : Value) (n : Nat) (ws : Nat → Ak.Wo) (en : Ak.Wo) (at_ op mo : Nat) (h0 : Ak.Ps W P qv wv n ws at_ op mo) (wi : Ak.RX)
    (hA : Ak.sgB n ws at_ ⟨#[40]⟩ = false) (hB : Ak.clB n ws at_ (Ak.bs [110, 111, 116]) = true)
    (hw : ∀ W1, Ak.Pb P W W1 → Ak.Ps W1 P qv wv n ws (at_ + 1) op mo → Calls Tryz.prog 100 #[.pointer (some ⟨P, 0, none⟩), .string ⟨#[41]⟩, .func (.func 101) #[.pointer (some ⟨P, 0, none⟩)] #[]] W1 (Ak.PrE P qv wv n ws en op mo W1 (Ak.XV W1.heap.size) (wi (at_ + 1)))) :
    Calls Tryz.prog 133 #[.pointer (some ⟨P, 0, none⟩)] W (Ak.PrE P qv wv n ws en op mo W (Ak.XV W.heap.size) ((wi (at_ + 1)).bind fun x a => .ok (.mk 2 [x] [] ⟨#[]⟩ 0 ⟨#[]⟩ 0) a)) := by
  obtain ⟨W1, hW1⟩ : ∃ X, X = W.alloc (.cells Ak.exZ 121) := ⟨_, rfl⟩
  have hb : Below W.heap.size W W1 := by rw [hW1]; exact (Below.refl _ _).alloc (Nat.le_refl _) _
  have hs : W1.heap.size = W.heap.size + 1 := by rw [hW1]; simp
  have hnew : W1.heap[W.heap.size]? = some (.cells Ak.exZ 121 (0, 0)) := by rw [hW1]; exact Ak.heap_new _ _
  have CI := hide' (hA ▸ akIs W1 P qv wv n ws at_ op mo (h0.below hb) ⟨#[40]⟩)
  have CL := hide' (fun (w : World) (hp : Ak.Ps w P qv wv n ws at_ op mo) (s : ByteArray) => akCalls w P qv wv n ws at_ op mo hp s)
  have HW := hide' hw
  have H0 := hide' h0
  have HW1 := hide' hW1
  have HB := hide' hb
  have hPl : P < W.heap.size := h0.c.lt
  obtain ⟨N, hN⟩ : ∃ N, W.heap.size = N := ⟨_, rfl⟩
  rw [hN] at hnew
  have HN := hide' hnew
  have hPN : P ≠ N := by omega
  have tw : IntKind.i64.wrap ((at_ : Int) + 1) = ((at_ + 1 : Nat) : Int) := by have := h0.atn; have := h0.nn; rw [IntKind.wrap_i64]; omega
  have hmf : ∀ (fn : Fn) (first cap : Array Value) (w : World), (Instr.makeFunc fn first cap).run Tryz.prog w = .ok (.func fn first cap) w := fun _ _ _ _ => rfl
  have HI : Hid (at_ + 1 < n) := hide' (by have h := hB; unfold Ak.clB Ak.sgB at h; simp only [Bool.and_eq_true, decide_eq_true_eq] at h; exact h.2.1)
  have HBb := hide' hB
  obtain ⟨R, hR⟩ : ∃ R, wi (at_ + 1) = R := ⟨_, rfl⟩
  rw [hR] at HW ⊢
  clear hW1 hb hnew h0 hw hR hA hB
  cases R with
  | bad a why =>
    dsimp only [Ak.Res.bind]
    go_enter Tryz.func133, Tryz.ntmps133
    go_wp2_with fail
    change Calls _ _ _ (W.alloc (.cells Ak.exZ 121)) _
    rw [← HW1.out]
    refine CI.out.mono ?_
    rintro e w2 ⟨rfl, hb2⟩
    have HP2 := hide' ((H0.out.below HB.out).below hb2)
    have HB2 := hide' ((Ak.Pb.of_below (b := P) HB.out).trans (.of_below (b := P) hb2))
    have HN2 := hide' ((hb2.block N (by omega)).trans HN.out)
    clear hb2 CI
    go_wp2_with fail
    refine (HBb.out ▸ CL.out w2 HP2.out (Ak.bs [110, 111, 116])).mono ?_
    rintro e w3 ⟨rfl, hb3⟩
    have HP3 := hide' (HP2.out.below hb3)
    have HN3 := hide' ((hb3.block N (Array.getElem?_eq_some_iff.1 HN2.out).1).trans HN2.out)
    have HB3 := hide' (HB2.out.trans (.of_below (b := P) hb3))
    clear hb3
    obtain ⟨_, _, d2, _, _, d5⟩ := HP3.out.c.cells
    have g2 := d5 2
    have hq8 := Ak.Pb.set w3 P 2 (.int .i64 ((at_ + 1 : Nat) : Int))
    have HP8 := hide' (HP3.out.go hq8 (HP3.out.c.set2 (at_ + 1)) (Nat.le_of_lt (show at_ + 1 < n from HI.out)) HP3.out.opm)
    have HB8 := hide' (HB3.out.trans hq8)
    have HN8 := hide' ((hq8.block N (Array.getElem?_eq_some_iff.1 HN3.out).1 (by omega)).trans HN3.out)
    clear hq8 d5
    go_wp2_with fail
    change Calls _ _ _ (w3.setCell ⟨P, 2, none⟩ (.int .i64 ((at_ + 1 : Nat) : Int))) _
    generalize w3.setCell ⟨P, 2, none⟩ (.int .i64 ((at_ + 1 : Nat) : Int)) = W8 at HP8 HB8 HN8 ⊢
    refine (HW.out W8 HB8.out HP8.out).mono ?_
    rintro e w9 hv
    obtain ⟨d, rfl, h1, h2, h3⟩ := hv
    have HV := hide' (Ak.PrE.of_bad (qv := qv) (wv := wv) (op := op) (mo := mo) (V := Ak.XV N) (Ak.GvE.pre ⟨d, rfl, h1, h2, h3⟩ HB8.out))
    clear h1 h2 h3
    go_wp2_with fail
    exact ⟨rfl, HV.out⟩
  | ok x a =>
    dsimp only [Ak.Res.bind]
    go_enter Tryz.func133, Tryz.ntmps133
    go_wp2_with fail
    change Calls _ _ _ (W.alloc (.cells Ak.exZ 121)) _
    rw [← HW1.out]
    refine CI.out.mono ?_
    rintro e w2 ⟨rfl, hb2⟩
    have HP2 := hide' ((H0.out.below HB.out).below hb2)
    have HB2 := hide' ((Ak.Pb.of_below (b := P) HB.out).trans (.of_below (b := P) hb2))
    have HN2 := hide' ((hb2.block N (by omega)).trans HN.out)
    clear hb2 CI
    go_wp2_with fail
    refine (HBb.out ▸ CL.out w2 HP2.out (Ak.bs [110, 111, 116])).mono ?_
    rintro e w3 ⟨rfl, hb3⟩
    have HP3 := hide' (HP2.out.below hb3)
    have HN3 := hide' ((hb3.block N (Array.getElem?_eq_some_iff.1 HN2.out).1).trans HN2.out)
    have HB3 := hide' (HB2.out.trans (.of_below (b := P) hb3))
    clear hb3
    obtain ⟨_, _, d2, _, _, d5⟩ := HP3.out.c.cells
    have g2 := d5 2
    have hq8 := Ak.Pb.set w3 P 2 (.int .i64 ((at_ + 1 : Nat) : Int))
    have HP8 := hide' (HP3.out.go hq8 (HP3.out.c.set2 (at_ + 1)) (Nat.le_of_lt (show at_ + 1 < n from HI.out)) HP3.out.opm)
    have HB8 := hide' (HB3.out.trans hq8)
    have HN8 := hide' ((hq8.block N (Array.getElem?_eq_some_iff.1 HN3.out).1 (by omega)).trans HN3.out)
    clear hq8 d5
    go_wp2_with fail
    change Calls _ _ _ (w3.setCell ⟨P, 2, none⟩ (.int .i64 ((at_ + 1 : Nat) : Int))) _
    generalize w3.setCell ⟨P, 2, none⟩ (.int .i64 ((at_ + 1 : Nat) : Int)) = W8 at HP8 HB8 HN8 ⊢
    refine (HW.out W8 HB8.out HP8.out).mono ?_
    rintro e w9 ⟨v, rfl, hx, hb9, hp9⟩
    obtain ⟨y, xo, xp, xl, xc, sp, sl, sc, xa, xm, xt, xn, hy, hye, rfl, hyo, hyl⟩ := hx.opened
    have hsz8 := (Array.getElem?_eq_some_iff.1 HN8.out).1
    have hsz9 := hb9.size
    have HN9 := hide' ((hb9.block N hsz8 (by omega)).trans HN8.out)
    obtain ⟨K, hK⟩ : ∃ K, w9.heap.size = K := ⟨_, rfl⟩
    have hbk : Below w9.heap.size w9 (w9.alloc (.cells #[.int .i64 xo, .slice xp xl xc, .slice sp sl sc, .string xa, .int .i64 xm, .string xt, .int .i64 xn] 121)) := (Below.refl _ _).alloc (Nat.le_refl _) _
    have HB10 := hide' ((HB8.out.trans hb9).trans (.of_below (b := P) hbk))
    have HP10 := hide' (hp9.below hbk)
    have HN10 := hide' ((hbk.block N (by omega)).trans HN9.out)
    have HL10 := hide' (hK ▸ Ak.LX.one (B := N + 1) (w := w9) (cs := #[.int .i64 xo, .slice xp xl xc, .slice sp sl sc, .string xa, .int .i64 xm, .string xt, .int .i64 xn]) hyo (fun b hb => by have := hyl b hb; omega) (by rw [hye]) (by omega))
    have HY := hide' hy
    clear hx hb9 hp9 hbk hyo hyl hye hy
    have hn_ := HN10.out
    unfold Ak.exZ at hn_
    have z0 : (w9.alloc (.cells #[.int .i64 xo, .slice xp xl xc, .slice sp sl sc, .string xa, .int .i64 xm, .string xt, .int .i64 xn] 121)).cell? ⟨N, 0, none⟩ = some (.int .i64 0) := by rw [Lib.cell_of_heap hn_]; rfl
    have zf0 : (w9.alloc (.cells #[.int .i64 xo, .slice xp xl xc, .slice sp sl sc, .string xa, .int .i64 xm, .string xt, .int .i64 xn] 121)).frozen? ⟨N, 0, none⟩ = false := Lib.frozen_of_heap hn_ 0
    have z1 : (w9.alloc (.cells #[.int .i64 xo, .slice xp xl xc, .slice sp sl sc, .string xa, .int .i64 xm, .string xt, .int .i64 xn] 121)).cell? ⟨N, 1, none⟩ = some (.slice none 0 0) := by rw [Lib.cell_of_heap hn_]; rfl
    have zf1 : (w9.alloc (.cells #[.int .i64 xo, .slice xp xl xc, .slice sp sl sc, .string xa, .int .i64 xm, .string xt, .int .i64 xn] 121)).frozen? ⟨N, 1, none⟩ = false := Lib.frozen_of_heap hn_ 1
    have z2 : (w9.alloc (.cells #[.int .i64 xo, .slice xp xl xc, .slice sp sl sc, .string xa, .int .i64 xm, .string xt, .int .i64 xn] 121)).cell? ⟨N, 2, none⟩ = some (.slice none 0 0) := by rw [Lib.cell_of_heap hn_]; rfl
    have zf2 : (w9.alloc (.cells #[.int .i64 xo, .slice xp xl xc, .slice sp sl sc, .string xa, .int .i64 xm, .string xt, .int .i64 xn] 121)).frozen? ⟨N, 2, none⟩ = false := Lib.frozen_of_heap hn_ 2
    have z3 : (w9.alloc (.cells #[.int .i64 xo, .slice xp xl xc, .slice sp sl sc, .string xa, .int .i64 xm, .string xt, .int .i64 xn] 121)).cell? ⟨N, 3, none⟩ = some (.string ⟨#[]⟩) := by rw [Lib.cell_of_heap hn_]; rfl
    have zf3 : (w9.alloc (.cells #[.int .i64 xo, .slice xp xl xc, .slice sp sl sc, .string xa, .int .i64 xm, .string xt, .int .i64 xn] 121)).frozen? ⟨N, 3, none⟩ = false := Lib.frozen_of_heap hn_ 3
    have z4 : (w9.alloc (.cells #[.int .i64 xo, .slice xp xl xc, .slice sp sl sc, .string xa, .int .i64 xm, .string xt, .int .i64 xn] 121)).cell? ⟨N, 4, none⟩ = some (.int .i64 0) := by rw [Lib.cell_of_heap hn_]; rfl
    have zf4 : (w9.alloc (.cells #[.int .i64 xo, .slice xp xl xc, .slice sp sl sc, .string xa, .int .i64 xm, .string xt, .int .i64 xn] 121)).frozen? ⟨N, 4, none⟩ = false := Lib.frozen_of_heap hn_ 4
    have z5 : (w9.alloc (.cells #[.int .i64 xo, .slice xp xl xc, .slice sp sl sc, .string xa, .int .i64 xm, .string xt, .int .i64 xn] 121)).cell? ⟨N, 5, none⟩ = some (.string ⟨#[]⟩) := by rw [Lib.cell_of_heap hn_]; rfl
    have zf5 : (w9.alloc (.cells #[.int .i64 xo, .slice xp xl xc, .slice sp sl sc, .string xa, .int .i64 xm, .string xt, .int .i64 xn] 121)).frozen? ⟨N, 5, none⟩ = false := Lib.frozen_of_heap hn_ 5
    have z6 : (w9.alloc (.cells #[.int .i64 xo, .slice xp xl xc, .slice sp sl sc, .string xa, .int .i64 xm, .string xt, .int .i64 xn] 121)).cell? ⟨N, 6, none⟩ = some (.int .i64 0) := by rw [Lib.cell_of_heap hn_]; rfl
    have zf6 : (w9.alloc (.cells #[.int .i64 xo, .slice xp xl xc, .slice sp sl sc, .string xa, .int .i64 xm, .string xt, .int .i64 xn] 121)).frozen? ⟨N, 6, none⟩ = false := Lib.frozen_of_heap hn_ 6
    clear hn_
    go_wp2_with fail
    have hWN : W.heap.size ≤ N := by omega
    have hnz := HN10.out
    unfold Ak.exZ at hnz
    obtain ⟨f1, f2, f3⟩ := Ak.far7e HB10.out hWN HP10.out.c hPN (.int .i64 2) (.slice (some ⟨K, 0, none⟩) 1 1) (.slice none 0 0) (.string ⟨#[]⟩) (.int .i64 0) (.string ⟨#[]⟩) (.int .i64 0)
    have l7 := Ak.load7e hnz (.int .i64 2) (.slice (some ⟨K, 0, none⟩) 1 1) (.slice none 0 0) (.string ⟨#[]⟩) (.int .i64 0) (.string ⟨#[]⟩) (.int .i64 0)
    revert f1 f2 f3 l7
    generalize World.setCell _ ⟨N, 6, none⟩ (.int .i64 0) = WF
    intro f1 f2 f3 l7
    refine bodyPost_ret (Ak.results_cell Tryz.results133 _ ⟨N, 0, none⟩ rfl _ _ l7) rfl ?_
    refine Ak.PrE.of_ok ?_ f1 (H0.out.go f1 f2 HP10.out.atn HP10.out.opm)
    rw [show [x] = Ak.cXs [y] by simp [Ak.cXs, HY.out]]
    exact (Ak.XV.joined HL10.out (fun a v ha e => (World.cell?_of_block (f3 a.block (by omega))).trans e) 2).mono (by omega)
set_option maxRecDepth 100000 in
set_option maxHeartbeats 8000000 in
theorem akOneC (W : World) (P : Nat) (qv wv : Value) (n : Nat) (ws : Nat → Ak.Wo) (en : Ak.Wo) (at_ op mo : Nat) (h0 : Ak.Ps W P qv wv n ws at_ op mo) (wi : Ak.RX)
    (hA : Ak.sgB n ws at_ ⟨#[40]⟩ = false) (hB : Ak.clB n ws at_ (Ak.bs [110, 111, 116]) = false) (hC : Ak.clB n ws at_ Ak.lenS = true)
    (hw : ∀ W1, Ak.Pb P W W1 → Ak.Ps W1 P qv wv n ws (at_ + 1) op mo → Calls Tryz.prog 145 #[.pointer (some ⟨P, 0, none⟩)] W1 (Ak.PrE P qv wv n ws en op mo W1 (Ak.XV W1.heap.size) (wi (at_ + 1)))) :
    Calls Tryz.prog 133 #[.pointer (some ⟨P, 0, none⟩)] W (Ak.PrE P qv wv n ws en op mo W (Ak.XV W.heap.size) (wi (at_ + 1))) := by
  obtain ⟨W1, hW1⟩ : ∃ X, X = W.alloc (.cells Ak.exZ 121) := ⟨_, rfl⟩
  have hb : Below W.heap.size W W1 := by rw [hW1]; exact (Below.refl _ _).alloc (Nat.le_refl _) _
  have hs : W1.heap.size = W.heap.size + 1 := by rw [hW1]; simp
  have hnew : W1.heap[W.heap.size]? = some (.cells Ak.exZ 121 (0, 0)) := by rw [hW1]; exact Ak.heap_new _ _
  have CI := hide' (hA ▸ akIs W1 P qv wv n ws at_ op mo (h0.below hb) ⟨#[40]⟩)
  have CL := hide' (fun (w : World) (hp : Ak.Ps w P qv wv n ws at_ op mo) (s : ByteArray) => akCalls w P qv wv n ws at_ op mo hp s)
  have HW := hide' hw
  have H0 := hide' h0
  have HW1 := hide' hW1
  have HB := hide' hb
  have hPl : P < W.heap.size := h0.c.lt
  obtain ⟨N, hN⟩ : ∃ N, W.heap.size = N := ⟨_, rfl⟩
  rw [hN] at hnew
  have HN := hide' hnew
  have hPN : P ≠ N := by omega
  have tw : IntKind.i64.wrap ((at_ : Int) + 1) = ((at_ + 1 : Nat) : Int) := by have := h0.atn; have := h0.nn; rw [IntKind.wrap_i64]; omega
  have hmf : ∀ (fn : Fn) (first cap : Array Value) (w : World), (Instr.makeFunc fn first cap).run Tryz.prog w = .ok (.func fn first cap) w := fun _ _ _ _ => rfl
  have HI : Hid (at_ + 1 < n) := hide' (by have h := hC; unfold Ak.clB Ak.sgB at h; simp only [Bool.and_eq_true, decide_eq_true_eq] at h; exact h.2.1)
  have HBb := hide' hB
  have HCc := hide' hC
  obtain ⟨R, hR⟩ : ∃ R, wi (at_ + 1) = R := ⟨_, rfl⟩
  rw [hR] at HW ⊢
  clear hW1 hb hnew h0 hw hR hA hB hC
  cases R with
  | bad a why =>
    go_enter Tryz.func133, Tryz.ntmps133
    go_wp2_with fail
    change Calls _ _ _ (W.alloc (.cells Ak.exZ 121)) _
    rw [← HW1.out]
    refine CI.out.mono ?_
    rintro e w2 ⟨rfl, hb2⟩
    have HP2 := hide' ((H0.out.below HB.out).below hb2)
    have HB2 := hide' ((Ak.Pb.of_below (b := P) HB.out).trans (.of_below (b := P) hb2))
    have HN2 := hide' ((hb2.block N (by omega)).trans HN.out)
    clear hb2 CI
    go_wp2_with fail
    refine (HBb.out ▸ CL.out w2 HP2.out (Ak.bs [110, 111, 116])).mono ?_
    rintro e w3 ⟨rfl, hb3⟩
    have HP3 := hide' (HP2.out.below hb3)
    have HN3 := hide' ((hb3.block N (Array.getElem?_eq_some_iff.1 HN2.out).1).trans HN2.out)
    have HB3 := hide' (HB2.out.trans (.of_below (b := P) hb3))
    clear hb3
    go_wp2_with fail
    refine (HCc.out ▸ CL.out w3 HP3.out (Ak.lenS)).mono ?_
    rintro e w4 ⟨rfl, hb4⟩
    have HP4 := hide' (HP3.out.below hb4)
    have HN4 := hide' ((hb4.block N (Array.getElem?_eq_some_iff.1 HN3.out).1).trans HN3.out)
    have HB4 := hide' (HB3.out.trans (.of_below (b := P) hb4))
    clear hb4
    obtain ⟨_, _, d2, _, _, d5⟩ := HP4.out.c.cells
    have g2 := d5 2
    have hq8 := Ak.Pb.set w4 P 2 (.int .i64 ((at_ + 1 : Nat) : Int))
    have HP8 := hide' (HP4.out.go hq8 (HP4.out.c.set2 (at_ + 1)) (Nat.le_of_lt (show at_ + 1 < n from HI.out)) HP4.out.opm)
    have HB8 := hide' (HB4.out.trans hq8)
    have HN8 := hide' ((hq8.block N (Array.getElem?_eq_some_iff.1 HN4.out).1 (by omega)).trans HN4.out)
    clear hq8 d5
    go_wp2_with fail
    change Calls _ _ _ (w4.setCell ⟨P, 2, none⟩ (.int .i64 ((at_ + 1 : Nat) : Int))) _
    generalize w4.setCell ⟨P, 2, none⟩ (.int .i64 ((at_ + 1 : Nat) : Int)) = W8 at HP8 HB8 HN8 ⊢
    refine (HW.out W8 HB8.out HP8.out).mono ?_
    rintro e w9 hv
    obtain ⟨d, rfl, h1, h2, h3⟩ := hv
    have HV := hide' (Ak.PrE.of_bad (qv := qv) (wv := wv) (op := op) (mo := mo) (V := Ak.XV N) (Ak.GvE.pre ⟨d, rfl, h1, h2, h3⟩ HB8.out))
    clear h1 h2 h3
    go_wp2_with fail
    exact ⟨rfl, HV.out⟩
  | ok x a =>
    go_enter Tryz.func133, Tryz.ntmps133
    go_wp2_with fail
    change Calls _ _ _ (W.alloc (.cells Ak.exZ 121)) _
    rw [← HW1.out]
    refine CI.out.mono ?_
    rintro e w2 ⟨rfl, hb2⟩
    have HP2 := hide' ((H0.out.below HB.out).below hb2)
    have HB2 := hide' ((Ak.Pb.of_below (b := P) HB.out).trans (.of_below (b := P) hb2))
    have HN2 := hide' ((hb2.block N (by omega)).trans HN.out)
    clear hb2 CI
    go_wp2_with fail
    refine (HBb.out ▸ CL.out w2 HP2.out (Ak.bs [110, 111, 116])).mono ?_
    rintro e w3 ⟨rfl, hb3⟩
    have HP3 := hide' (HP2.out.below hb3)
    have HN3 := hide' ((hb3.block N (Array.getElem?_eq_some_iff.1 HN2.out).1).trans HN2.out)
    have HB3 := hide' (HB2.out.trans (.of_below (b := P) hb3))
    clear hb3
    go_wp2_with fail
    refine (HCc.out ▸ CL.out w3 HP3.out (Ak.lenS)).mono ?_
    rintro e w4 ⟨rfl, hb4⟩
    have HP4 := hide' (HP3.out.below hb4)
    have HN4 := hide' ((hb4.block N (Array.getElem?_eq_some_iff.1 HN3.out).1).trans HN3.out)
    have HB4 := hide' (HB3.out.trans (.of_below (b := P) hb4))
    clear hb4
    obtain ⟨_, _, d2, _, _, d5⟩ := HP4.out.c.cells
    have g2 := d5 2
    have hq8 := Ak.Pb.set w4 P 2 (.int .i64 ((at_ + 1 : Nat) : Int))
    have HP8 := hide' (HP4.out.go hq8 (HP4.out.c.set2 (at_ + 1)) (Nat.le_of_lt (show at_ + 1 < n from HI.out)) HP4.out.opm)
    have HB8 := hide' (HB4.out.trans hq8)
    have HN8 := hide' ((hq8.block N (Array.getElem?_eq_some_iff.1 HN4.out).1 (by omega)).trans HN4.out)
    clear hq8 d5
    go_wp2_with fail
    change Calls _ _ _ (w4.setCell ⟨P, 2, none⟩ (.int .i64 ((at_ + 1 : Nat) : Int))) _
    generalize w4.setCell ⟨P, 2, none⟩ (.int .i64 ((at_ + 1 : Nat) : Int)) = W8 at HP8 HB8 HN8 ⊢
    refine (HW.out W8 HB8.out HP8.out).mono ?_
    rintro e w9 ⟨v, rfl, hx, hb9, hp9⟩
    obtain ⟨xo, xp, xl, xc, sp, sl, sc, xa, xm, xt, xn, rfl, hxk⟩ := Ak.cmpX hx
    have HX := hide' hxk
    have HP9 := hide' hp9
    have HN9 := hide' ((hb9.block N (Array.getElem?_eq_some_iff.1 HN8.out).1 (by omega)).trans HN8.out)
    have hsz8 := (Array.getElem?_eq_some_iff.1 HN8.out).1
    have HB9 := hide' (HB8.out.trans hb9)
    clear hx hxk hb9 hp9
    have hn_ := HN9.out
    unfold Ak.exZ at hn_
    have z0 : w9.cell? ⟨N, 0, none⟩ = some (.int .i64 0) := by rw [Lib.cell_of_heap hn_]; rfl
    have zf0 : w9.frozen? ⟨N, 0, none⟩ = false := Lib.frozen_of_heap hn_ 0
    have z1 : w9.cell? ⟨N, 1, none⟩ = some (.slice none 0 0) := by rw [Lib.cell_of_heap hn_]; rfl
    have zf1 : w9.frozen? ⟨N, 1, none⟩ = false := Lib.frozen_of_heap hn_ 1
    have z2 : w9.cell? ⟨N, 2, none⟩ = some (.slice none 0 0) := by rw [Lib.cell_of_heap hn_]; rfl
    have zf2 : w9.frozen? ⟨N, 2, none⟩ = false := Lib.frozen_of_heap hn_ 2
    have z3 : w9.cell? ⟨N, 3, none⟩ = some (.string ⟨#[]⟩) := by rw [Lib.cell_of_heap hn_]; rfl
    have zf3 : w9.frozen? ⟨N, 3, none⟩ = false := Lib.frozen_of_heap hn_ 3
    have z4 : w9.cell? ⟨N, 4, none⟩ = some (.int .i64 0) := by rw [Lib.cell_of_heap hn_]; rfl
    have zf4 : w9.frozen? ⟨N, 4, none⟩ = false := Lib.frozen_of_heap hn_ 4
    have z5 : w9.cell? ⟨N, 5, none⟩ = some (.string ⟨#[]⟩) := by rw [Lib.cell_of_heap hn_]; rfl
    have zf5 : w9.frozen? ⟨N, 5, none⟩ = false := Lib.frozen_of_heap hn_ 5
    have z6 : w9.cell? ⟨N, 6, none⟩ = some (.int .i64 0) := by rw [Lib.cell_of_heap hn_]; rfl
    have zf6 : w9.frozen? ⟨N, 6, none⟩ = false := Lib.frozen_of_heap hn_ 6
    clear hn_
    go_wp2_with fail
    have hWN : W.heap.size ≤ N := by omega
    have hnz := HN9.out
    unfold Ak.exZ at hnz
    obtain ⟨f1, f2, f3⟩ := Ak.far7e HB9.out hWN HP9.out.c hPN (.int .i64 xo) (.slice xp xl xc) (.slice sp sl sc) (.string xa) (.int .i64 xm) (.string xt) (.int .i64 xn)
    have l7 := Ak.load7e hnz (.int .i64 xo) (.slice xp xl xc) (.slice sp sl sc) (.string xa) (.int .i64 xm) (.string xt) (.int .i64 xn)
    revert f1 f2 f3 l7
    generalize World.setCell _ ⟨N, 6, none⟩ (.int .i64 xn) = WF
    intro f1 f2 f3 l7
    refine bodyPost_ret (Ak.results_cell Tryz.results133 _ ⟨N, 0, none⟩ rfl _ _ l7) rfl ?_
    refine Ak.PrE.of_ok ?_ f1 (H0.out.go f1 f2 HP9.out.atn HP9.out.opm)
    have hXf := (HX.out WF fun b v hb e => (World.cell?_of_block (f3 b.block (by omega))).trans e).1
    exact hXf.mono (by omega)
end Go.Proofs.YtcnagbkdckipnaaGreatDoor
/-
  THE WALK over the parser's one: starts-with and the like (gen_akone.py writes this text).
-/
namespace Go.Proofs.YtcnagbkdckipnaaGreatDoor
open Go.RowKit Go.Lib Go.Sort
set_option maxRecDepth 100000 in
set_option maxHeartbeats 8000000 in
theorem akOneD (W : World) (P : Nat) (qv wv : Value) (n : Nat) (ws : Nat → Ak.Wo) (en : Ak.Wo) (at_ op mo : Nat) (h0 : Ak.Ps W P qv wv n ws at_ op mo) (wi : Ak.RX)
    (hA : Ak.sgB n ws at_ ⟨#[40]⟩ = false) (hB : Ak.clB n ws at_ (Ak.bs [110, 111, 116]) = false) (hC : Ak.clB n ws at_ Ak.lenS = false) (ht : Ak.Tb W) (c : Nat) (hD : Ak.clF n ws at_ 3 3 = some c)
    (hw : ∀ W1, Ak.Pb P W W1 → Ak.Ps W1 P qv wv n ws (at_ + 1) op mo → Calls Tryz.prog 146 #[.pointer (some ⟨P, 0, none⟩), .int .i64 (c : Nat)] W1 (Ak.PrE P qv wv n ws en op mo W1 (Ak.XV W1.heap.size) (wi (at_ + 1)))) :
    Calls Tryz.prog 133 #[.pointer (some ⟨P, 0, none⟩)] W (Ak.PrE P qv wv n ws en op mo W (Ak.XV W.heap.size) (wi (at_ + 1))) := by
  obtain ⟨W1, hW1⟩ : ∃ X, X = W.alloc (.cells Ak.exZ 121) := ⟨_, rfl⟩
  have hb : Below W.heap.size W W1 := by rw [hW1]; exact (Below.refl _ _).alloc (Nat.le_refl _) _
  have hs : W1.heap.size = W.heap.size + 1 := by rw [hW1]; simp
  have hnew : W1.heap[W.heap.size]? = some (.cells Ak.exZ 121 (0, 0)) := by rw [hW1]; exact Ak.heap_new _ _
  have CI := hide' (hA ▸ akIs W1 P qv wv n ws at_ op mo (h0.below hb) ⟨#[40]⟩)
  have CL := hide' (fun (w : World) (hp : Ak.Ps w P qv wv n ws at_ op mo) (s : ByteArray) => akCalls w P qv wv n ws at_ op mo hp s)
  have HW := hide' hw
  have H0 := hide' h0
  have HW1 := hide' hW1
  have HB := hide' hb
  have hPl : P < W.heap.size := h0.c.lt
  obtain ⟨N, hN⟩ : ∃ N, W.heap.size = N := ⟨_, rfl⟩
  rw [hN] at hnew
  have HN := hide' hnew
  have hPN : P ≠ N := by omega
  have tw : IntKind.i64.wrap ((at_ : Int) + 1) = ((at_ + 1 : Nat) : Int) := by have := h0.atn; have := h0.nn; rw [IntKind.wrap_i64]; omega
  have hmf : ∀ (fn : Fn) (first cap : Array Value) (w : World), (Instr.makeFunc fn first cap).run Tryz.prog w = .ok (.func fn first cap) w := fun _ _ _ _ => rfl
  have CM := hide' (fun (wr : World) (hp : Ak.Pb P W wr) => (ht.pb h0.c hp).cm)
  have HBb := hide' hB
  have HCc := hide' hC
  have HD : Hid (Ak.clF n ws at_ 3 (6 - 3) = some c) := hide' hD
  obtain ⟨R, hR⟩ : ∃ R, wi (at_ + 1) = R := ⟨_, rfl⟩
  rw [hR] at HW ⊢
  clear hW1 hb hnew h0 hw hR hA hB hC hD ht
  cases R with
  | bad a why =>
    go_enter Tryz.func133, Tryz.ntmps133
    go_wp2_with fail
    change Calls _ _ _ (W.alloc (.cells Ak.exZ 121)) _
    rw [← HW1.out]
    refine CI.out.mono ?_
    rintro e w2 ⟨rfl, hb2⟩
    have HP2 := hide' ((H0.out.below HB.out).below hb2)
    have HB2 := hide' ((Ak.Pb.of_below (b := P) HB.out).trans (.of_below (b := P) hb2))
    have HN2 := hide' ((hb2.block N (by omega)).trans HN.out)
    clear hb2 CI
    go_wp2_with fail
    refine (HBb.out ▸ CL.out w2 HP2.out (Ak.bs [110, 111, 116])).mono ?_
    rintro e w3 ⟨rfl, hb3⟩
    have HP3 := hide' (HP2.out.below hb3)
    have HN3 := hide' ((hb3.block N (Array.getElem?_eq_some_iff.1 HN2.out).1).trans HN2.out)
    have HB3 := hide' (HB2.out.trans (.of_below (b := P) hb3))
    clear hb3
    go_wp2_with fail
    refine (HCc.out ▸ CL.out w3 HP3.out (Ak.lenS)).mono ?_
    rintro e w4 ⟨rfl, hb4⟩
    have HP4 := hide' (HP3.out.below hb4)
    have HN4 := hide' ((hb4.block N (Array.getElem?_eq_some_iff.1 HN3.out).1).trans HN3.out)
    have HB4 := hide' (HB3.out.trans (.of_below (b := P) hb4))
    clear hb4
    go_wp2_with fail
    go_loopw [3] (fun v wr => ∃ j : Nat, v = .int .i64 j ∧ 3 ≤ j ∧ j ≤ 6 ∧ Hid (Ak.clF n ws at_ j (6 - j) = some c) ∧ Hid (Ak.Pb P W wr) ∧ Hid (Ak.Ps wr P qv wv n ws at_ op mo) ∧ Hid (wr.heap[N]? = some (.cells Ak.exZ 121 (0, 0)))) (fun v _ => 6 - (RowKit.intOf v).toNat)
    case atStart => exact ⟨3, rfl, by omega, by omega, HD, HB4, HP4, HN4⟩
    case round =>
      obtain ⟨j, rfl, hj3, hj6, HA, HB5, HP5, HN5⟩ := hrel
      clear HB2 HP2 HN2 HB3 HP3 HN3 HB4 HP4 HN4
      by_cases hlt : j ≤ 5
      · have t1 : (j : Int) ≤ 5 := by omega
        have t0 : (0 : Int) ≤ j := by omega
        have t9 : (j : Int) < 9 := by omega
        have twj : IntKind.i64.wrap ((j : Int) + 1) = ((j + 1 : Nat) : Int) := by rw [IntKind.wrap_i64]; omega
        obtain ⟨s, hs⟩ : ∃ s, Ak.cms[j]? = some s := ⟨_, List.getElem?_eq_getElem (by simp [Ak.cms]; omega)⟩
        have q := CM.out wr HB5.out j s hs
        have C := hide' (CL.out wr HP5.out s)
        have ha := HA.out
        rw [show 6 - j = (5 - j) + 1 by omega] at ha
        unfold Ak.clF at ha
        rw [hs, Option.getD_some] at ha
        obtain ⟨t, htt⟩ : ∃ t, Ak.clB n ws at_ s = t := ⟨_, rfl⟩
        rw [htt] at C ha
        clear hs HA
        cases t
        · rw [if_neg (by decide)] at ha
          have HA := hide' ha
          clear ha htt
          go_wp2_with fail
          refine C.out.mono ?_
          rintro e w6 ⟨rfl, hb6⟩
          have HP6 := hide' (HP5.out.below hb6)
          have HN6 := hide' ((hb6.block N (Array.getElem?_eq_some_iff.1 HN5.out).1).trans HN5.out)
          have HB6 := hide' (HB5.out.trans (.of_below (b := P) hb6))
          clear hb6 C q
          go_wp2_with fail
          refine ⟨⟨j + 1, by simp, by omega, by omega, ?_, HB6, HP6, HN6⟩, ?_⟩
          · rw [show 6 - (j + 1) = 5 - j by omega]
            exact HA
          · simp [RowKit.intOf]
            omega
        · rw [if_pos rfl] at ha
          obtain rfl : j = c := Option.some.inj ha
          have HI : Hid (at_ + 1 < n) := hide' (by have h := htt; unfold Ak.clB Ak.sgB at h; simp only [Bool.and_eq_true, decide_eq_true_eq] at h; exact h.2.1)
          clear ha htt
          go_wp2_with fail
          refine C.out.mono ?_
          rintro e w6 ⟨rfl, hb6⟩
          have HP6 := hide' (HP5.out.below hb6)
          have HN6 := hide' ((hb6.block N (Array.getElem?_eq_some_iff.1 HN5.out).1).trans HN5.out)
          have HB6 := hide' (HB5.out.trans (.of_below (b := P) hb6))
          clear hb6 C q
          obtain ⟨_, _, d2, _, _, d5⟩ := HP6.out.c.cells
          have g2 := d5 2
          have hq8 := Ak.Pb.set w6 P 2 (.int .i64 ((at_ + 1 : Nat) : Int))
          have HP8 := hide' (HP6.out.go hq8 (HP6.out.c.set2 (at_ + 1)) (Nat.le_of_lt (show at_ + 1 < n from HI.out)) HP6.out.opm)
          have HB8 := hide' (HB6.out.trans hq8)
          have HN8 := hide' ((hq8.block N (Array.getElem?_eq_some_iff.1 HN6.out).1 (by omega)).trans HN6.out)
          clear hq8 d5
          go_wp2_with fail
          change Calls _ _ _ (w6.setCell ⟨P, 2, none⟩ (.int .i64 ((at_ + 1 : Nat) : Int))) _
          generalize w6.setCell ⟨P, 2, none⟩ (.int .i64 ((at_ + 1 : Nat) : Int)) = W8 at HP8 HB8 HN8 ⊢
          refine (HW.out W8 HB8.out HP8.out).mono ?_
          rintro e w9 hv
          obtain ⟨d, rfl, h1, h2, h3⟩ := hv
          have HV := hide' (Ak.PrE.of_bad (qv := qv) (wv := wv) (op := op) (mo := mo) (V := Ak.XV N) (Ak.GvE.pre ⟨d, rfl, h1, h2, h3⟩ HB8.out))
          clear h1 h2 h3
          go_wp2_with fail
          exact ⟨rfl, HV.out⟩
      · have t1 : ¬ (j : Int) ≤ 5 := by omega
        have ha := HA.out
        rw [show 6 - j = 0 by omega] at ha
        unfold Ak.clF at ha
        cases ha
  | ok x a =>
    go_enter Tryz.func133, Tryz.ntmps133
    go_wp2_with fail
    change Calls _ _ _ (W.alloc (.cells Ak.exZ 121)) _
    rw [← HW1.out]
    refine CI.out.mono ?_
    rintro e w2 ⟨rfl, hb2⟩
    have HP2 := hide' ((H0.out.below HB.out).below hb2)
    have HB2 := hide' ((Ak.Pb.of_below (b := P) HB.out).trans (.of_below (b := P) hb2))
    have HN2 := hide' ((hb2.block N (by omega)).trans HN.out)
    clear hb2 CI
    go_wp2_with fail
    refine (HBb.out ▸ CL.out w2 HP2.out (Ak.bs [110, 111, 116])).mono ?_
    rintro e w3 ⟨rfl, hb3⟩
    have HP3 := hide' (HP2.out.below hb3)
    have HN3 := hide' ((hb3.block N (Array.getElem?_eq_some_iff.1 HN2.out).1).trans HN2.out)
    have HB3 := hide' (HB2.out.trans (.of_below (b := P) hb3))
    clear hb3
    go_wp2_with fail
    refine (HCc.out ▸ CL.out w3 HP3.out (Ak.lenS)).mono ?_
    rintro e w4 ⟨rfl, hb4⟩
    have HP4 := hide' (HP3.out.below hb4)
    have HN4 := hide' ((hb4.block N (Array.getElem?_eq_some_iff.1 HN3.out).1).trans HN3.out)
    have HB4 := hide' (HB3.out.trans (.of_below (b := P) hb4))
    clear hb4
    go_wp2_with fail
    go_loopw [3] (fun v wr => ∃ j : Nat, v = .int .i64 j ∧ 3 ≤ j ∧ j ≤ 6 ∧ Hid (Ak.clF n ws at_ j (6 - j) = some c) ∧ Hid (Ak.Pb P W wr) ∧ Hid (Ak.Ps wr P qv wv n ws at_ op mo) ∧ Hid (wr.heap[N]? = some (.cells Ak.exZ 121 (0, 0)))) (fun v _ => 6 - (RowKit.intOf v).toNat)
    case atStart => exact ⟨3, rfl, by omega, by omega, HD, HB4, HP4, HN4⟩
    case round =>
      obtain ⟨j, rfl, hj3, hj6, HA, HB5, HP5, HN5⟩ := hrel
      clear HB2 HP2 HN2 HB3 HP3 HN3 HB4 HP4 HN4
      by_cases hlt : j ≤ 5
      · have t1 : (j : Int) ≤ 5 := by omega
        have t0 : (0 : Int) ≤ j := by omega
        have t9 : (j : Int) < 9 := by omega
        have twj : IntKind.i64.wrap ((j : Int) + 1) = ((j + 1 : Nat) : Int) := by rw [IntKind.wrap_i64]; omega
        obtain ⟨s, hs⟩ : ∃ s, Ak.cms[j]? = some s := ⟨_, List.getElem?_eq_getElem (by simp [Ak.cms]; omega)⟩
        have q := CM.out wr HB5.out j s hs
        have C := hide' (CL.out wr HP5.out s)
        have ha := HA.out
        rw [show 6 - j = (5 - j) + 1 by omega] at ha
        unfold Ak.clF at ha
        rw [hs, Option.getD_some] at ha
        obtain ⟨t, htt⟩ : ∃ t, Ak.clB n ws at_ s = t := ⟨_, rfl⟩
        rw [htt] at C ha
        clear hs HA
        cases t
        · rw [if_neg (by decide)] at ha
          have HA := hide' ha
          clear ha htt
          go_wp2_with fail
          refine C.out.mono ?_
          rintro e w6 ⟨rfl, hb6⟩
          have HP6 := hide' (HP5.out.below hb6)
          have HN6 := hide' ((hb6.block N (Array.getElem?_eq_some_iff.1 HN5.out).1).trans HN5.out)
          have HB6 := hide' (HB5.out.trans (.of_below (b := P) hb6))
          clear hb6 C q
          go_wp2_with fail
          refine ⟨⟨j + 1, by simp, by omega, by omega, ?_, HB6, HP6, HN6⟩, ?_⟩
          · rw [show 6 - (j + 1) = 5 - j by omega]
            exact HA
          · simp [RowKit.intOf]
            omega
        · rw [if_pos rfl] at ha
          obtain rfl : j = c := Option.some.inj ha
          have HI : Hid (at_ + 1 < n) := hide' (by have h := htt; unfold Ak.clB Ak.sgB at h; simp only [Bool.and_eq_true, decide_eq_true_eq] at h; exact h.2.1)
          clear ha htt
          go_wp2_with fail
          refine C.out.mono ?_
          rintro e w6 ⟨rfl, hb6⟩
          have HP6 := hide' (HP5.out.below hb6)
          have HN6 := hide' ((hb6.block N (Array.getElem?_eq_some_iff.1 HN5.out).1).trans HN5.out)
          have HB6 := hide' (HB5.out.trans (.of_below (b := P) hb6))
          clear hb6 C q
          obtain ⟨_, _, d2, _, _, d5⟩ := HP6.out.c.cells
          have g2 := d5 2
          have hq8 := Ak.Pb.set w6 P 2 (.int .i64 ((at_ + 1 : Nat) : Int))
          have HP8 := hide' (HP6.out.go hq8 (HP6.out.c.set2 (at_ + 1)) (Nat.le_of_lt (show at_ + 1 < n from HI.out)) HP6.out.opm)
          have HB8 := hide' (HB6.out.trans hq8)
          have HN8 := hide' ((hq8.block N (Array.getElem?_eq_some_iff.1 HN6.out).1 (by omega)).trans HN6.out)
          clear hq8 d5
          go_wp2_with fail
          change Calls _ _ _ (w6.setCell ⟨P, 2, none⟩ (.int .i64 ((at_ + 1 : Nat) : Int))) _
          generalize w6.setCell ⟨P, 2, none⟩ (.int .i64 ((at_ + 1 : Nat) : Int)) = W8 at HP8 HB8 HN8 ⊢
          refine (HW.out W8 HB8.out HP8.out).mono ?_
          rintro e w9 ⟨v, rfl, hx, hb9, hp9⟩
          obtain ⟨xo, xp, xl, xc, sp, sl, sc, xa, xm, xt, xn, rfl, hxk⟩ := Ak.cmpX hx
          have HX := hide' hxk
          have HP9 := hide' hp9
          have HN9 := hide' ((hb9.block N (Array.getElem?_eq_some_iff.1 HN8.out).1 (by omega)).trans HN8.out)
          have hsz8 := (Array.getElem?_eq_some_iff.1 HN8.out).1
          have HB9 := hide' (HB8.out.trans hb9)
          clear hx hxk hb9 hp9
          have hn_ := HN9.out
          unfold Ak.exZ at hn_
          have z0 : w9.cell? ⟨N, 0, none⟩ = some (.int .i64 0) := by rw [Lib.cell_of_heap hn_]; rfl
          have zf0 : w9.frozen? ⟨N, 0, none⟩ = false := Lib.frozen_of_heap hn_ 0
          have z1 : w9.cell? ⟨N, 1, none⟩ = some (.slice none 0 0) := by rw [Lib.cell_of_heap hn_]; rfl
          have zf1 : w9.frozen? ⟨N, 1, none⟩ = false := Lib.frozen_of_heap hn_ 1
          have z2 : w9.cell? ⟨N, 2, none⟩ = some (.slice none 0 0) := by rw [Lib.cell_of_heap hn_]; rfl
          have zf2 : w9.frozen? ⟨N, 2, none⟩ = false := Lib.frozen_of_heap hn_ 2
          have z3 : w9.cell? ⟨N, 3, none⟩ = some (.string ⟨#[]⟩) := by rw [Lib.cell_of_heap hn_]; rfl
          have zf3 : w9.frozen? ⟨N, 3, none⟩ = false := Lib.frozen_of_heap hn_ 3
          have z4 : w9.cell? ⟨N, 4, none⟩ = some (.int .i64 0) := by rw [Lib.cell_of_heap hn_]; rfl
          have zf4 : w9.frozen? ⟨N, 4, none⟩ = false := Lib.frozen_of_heap hn_ 4
          have z5 : w9.cell? ⟨N, 5, none⟩ = some (.string ⟨#[]⟩) := by rw [Lib.cell_of_heap hn_]; rfl
          have zf5 : w9.frozen? ⟨N, 5, none⟩ = false := Lib.frozen_of_heap hn_ 5
          have z6 : w9.cell? ⟨N, 6, none⟩ = some (.int .i64 0) := by rw [Lib.cell_of_heap hn_]; rfl
          have zf6 : w9.frozen? ⟨N, 6, none⟩ = false := Lib.frozen_of_heap hn_ 6
          clear hn_
          go_wp2_with fail
          have hWN : W.heap.size ≤ N := by omega
          have hnz := HN9.out
          unfold Ak.exZ at hnz
          obtain ⟨f1, f2, f3⟩ := Ak.far7e HB9.out hWN HP9.out.c hPN (.int .i64 xo) (.slice xp xl xc) (.slice sp sl sc) (.string xa) (.int .i64 xm) (.string xt) (.int .i64 xn)
          have l7 := Ak.load7e hnz (.int .i64 xo) (.slice xp xl xc) (.slice sp sl sc) (.string xa) (.int .i64 xm) (.string xt) (.int .i64 xn)
          revert f1 f2 f3 l7
          generalize World.setCell _ ⟨N, 6, none⟩ (.int .i64 xn) = WF
          intro f1 f2 f3 l7
          refine bodyPost_ret (Ak.results_cell Tryz.results133 _ ⟨N, 0, none⟩ rfl _ _ l7) rfl ?_
          refine Ak.PrE.of_ok ?_ f1 (H0.out.go f1 f2 HP9.out.atn HP9.out.opm)
          have hXf := (HX.out WF fun b v hb e => (World.cell?_of_block (f3 b.block (by omega))).trans e).1
          exact hXf.mono (by omega)
      · have t1 : ¬ (j : Int) ≤ 5 := by omega
        have ha := HA.out
        rw [show 6 - j = 0 by omega] at ha
        unfold Ak.clF at ha
        cases ha
end Go.Proofs.YtcnagbkdckipnaaGreatDoor
