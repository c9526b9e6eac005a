import Derived.Test.YtcnagbkdckipnaaGreatDoorAkLeM
import Derived.Test.YtcnagbkdckipnaaGreatDoorAkOneB
import Derived.Test.YtcnagbkdckipnaaGreatDoorAkOneC
/-
  THE WALK over the parser's length (gen_akle.py writes this text).
-/
namespace Go.Proofs.YtcnagbkdckipnaaGreatDoor
open Go.RowKit Go.Lib Go.Sort
set_option maxRecDepth 100000 in
set_option maxHeartbeats 8000000 in
theorem akLength (W : World) (P : Nat) (qv wv : Value) (n : Nat) (ws : Nat → Ak.Wo) (en : Ak.Wo) (at_ op mo : Nat) (h0 : Ak.Ps W P qv wv n ws at_ op mo) (ht : Ak.Tb W) (hg : Ak.GU P qv wv n ws en) (wi : Ak.RX)
    (hw : ∀ W1, Ak.Pb P W W1 → Ak.Ps W1 P qv wv n ws at_ op mo → Calls Tryz.prog 100 #[.pointer (some ⟨P, 0, none⟩), .string ⟨#[41]⟩, .func (.func 147) #[.pointer (some ⟨P, 0, none⟩)] #[]] W1 (Ak.PrE P qv wv n ws en op mo W1 (Ak.XV W1.heap.size) (wi at_))) :
    Calls Tryz.prog 145 #[.pointer (some ⟨P, 0, none⟩)] W (Ak.PrE P qv wv n ws en op mo W (Ak.XV W.heap.size) (Ak.lenR n ws wi at_)) := by
  obtain ⟨W1, hW1⟩ : ∃ X, X = W.alloc (.cells Ak.exZ 121) := ⟨_, rfl⟩
  have hb : Below W.heap.size W W1 := by rw [hW1]; exact (Below.refl _ _).alloc (Nat.le_refl _) _
  have hs : W1.heap.size = W.heap.size + 1 := by rw [hW1]; simp
  have hnew : W1.heap[W.heap.size]? = some (.cells Ak.exZ 121 (0, 0)) := by rw [hW1]; exact Ak.heap_new _ _
  have C := hw W1 (.of_below hb) (h0.below hb)
  have CC := hide' (fun (w : World) (q : Ak.Pb P W w) (a : Nat) (hp : Ak.Ps w P qv wv n ws a op mo) => akCompare w P qv wv n ws a op mo hp (ht.pb h0.c q) 6 8 (by omega) (by omega))
  have CT := hide' (fun (w : World) (a : Nat) (hp : Ak.Ps w P qv wv n ws a op mo) => akTake w P qv wv n ws en a op mo hp hg 2)
  have HG := hide' hg
  have H0 := hide' h0
  have HW1 := hide' hW1
  have HB := hide' hb
  have hPl : P < W.heap.size := h0.c.lt
  obtain ⟨N, hN⟩ : ∃ N, W.heap.size = N := ⟨_, rfl⟩
  rw [hN] at hnew
  have HN := hide' hnew
  have hPN : P ≠ N := by omega
  have hmf : ∀ (fn : Fn) (first cap : Array Value) (w : World), (Instr.makeFunc fn first cap).run Tryz.prog w = .ok (.func fn first cap) w := fun _ _ _ _ => rfl
  obtain ⟨J, hJ⟩ : ∃ J, Ak.lenR n ws wi at_ = J := ⟨_, rfl⟩
  rw [hJ]
  unfold Ak.lenR at hJ
  obtain ⟨R, hR⟩ : ∃ R, wi at_ = R := ⟨_, rfl⟩
  rw [hR] at hJ C
  have HC := hide' C
  clear hW1 hb hnew h0 hw hR C hg ht
  cases R with
  | bad a why =>
    obtain rfl : J = .bad a why := hJ.symm
    clear hJ
    go_enter Tryz.func145, Tryz.ntmps145
    go_wp2_with fail
    change Calls _ _ _ (W.alloc (.cells Ak.exZ 121)) _
    rw [← HW1.out]
    refine HC.out.mono ?_
    rintro e w5 hv
    obtain ⟨d, rfl, h1, h2, h3⟩ := hv
    have HV := hide' (Ak.PrE.of_bad (qv := qv) (wv := wv) (op := op) (mo := mo) (V := Ak.XV N) (Ak.GvE.pre ⟨d, rfl, h1, h2, h3⟩ (.of_below HB.out)))
    clear h1 h2 h3 HC
    go_wp2_with fail
    exact ⟨rfl, HV.out⟩
  | ok x a =>
    dsimp only [Ak.Res.bind] at hJ
    obtain ⟨K, hK⟩ : ∃ K, Ak.cmF n ws a 6 3 = K := ⟨_, rfl⟩
    rw [hK] at hJ
    have HK : Hid (Ak.cmF n ws a 6 (8 + 1 - 6) = K) := hide' hK
    clear hK
    cases K with
    | none =>
      obtain rfl : J = .bad a 105 := hJ.symm
      clear hJ
      go_enter Tryz.func145, Tryz.ntmps145
      go_wp2_with fail
      change Calls _ _ _ (W.alloc (.cells Ak.exZ 121)) _
      rw [← HW1.out]
      refine HC.out.mono ?_
      rintro e w5 ⟨v, rfl, hx, hb5, hp5⟩
      obtain ⟨xo, xp, xl, xc, sp, sl, sc, xa, xm, xt, xn, rfl, hxk⟩ := Ak.cmpX hx
      have HX := hide' hxk
      have hs5 := hb5.size
      obtain ⟨M, hM⟩ : ∃ M, w5.heap.size = M := ⟨_, rfl⟩
      have hbk : Below w5.heap.size w5 (w5.alloc (.cells #[.int .i64 xo, .slice xp xl xc, .slice sp sl sc, .string xa, .int .i64 xm, .string xt, .int .i64 xn] 121)) := (Below.refl _ _).alloc (Nat.le_refl _) _
      have HB6 := hide' (((Ak.Pb.of_below (b := P) HB.out).trans hb5).trans (.of_below (b := P) hbk))
      have HP6 := hide' (hp5.below hbk)
      have HN6 := hide' ((hbk.block N (by omega)).trans ((hb5.block N (by omega) (by omega)).trans HN.out))
      have HM6 := hide' (hM ▸ Ak.heap_new w5 (.cells #[.int .i64 xo, .slice xp xl xc, .slice sp sl sc, .string xa, .int .i64 xm, .string xt, .int .i64 xn] 121))
      have HK6 := hide' (fun (k : Nat) (hk : k < M) => hbk.block k (by omega))
      have hPM : P ≠ M := by have := hp5.c.lt; omega
      have hNM : N ≠ M := by omega
      have s6 : (w5.alloc (.cells #[.int .i64 xo, .slice xp xl xc, .slice sp sl sc, .string xa, .int .i64 xm, .string xt, .int .i64 xn] 121)).heap.size = M + 1 := by simp [hM]
      clear hx hxk hb5 hp5 hbk HC
      go_wp2_with fail
      refine (HK.out ▸ CC.out _ HB6.out a HP6.out).mono ?_
      rintro e w7 ⟨rfl, hb7, hp7⟩
      have HB7 := hide' (HB6.out.trans hb7)
      have HP7 := hide' hp7
      clear hb7 hp7
      go_wp2_with fail
      refine (HG.out _ a op mo 105 HP7.out).mono ?_
      rintro e w8 hv
      obtain ⟨d, rfl, h1, h2, h3⟩ := hv
      have HV := hide' (Ak.PrE.of_bad (qv := qv) (wv := wv) (op := op) (mo := mo) (V := Ak.XV N) (Ak.GvE.pre ⟨d, rfl, h1, h2, h3⟩ HB7.out))
      clear h1 h2 h3
      go_wp2_with fail
      exact ⟨rfl, HV.out⟩
    | some c =>
      dsimp only at hJ
      obtain ⟨T, hT⟩ : ∃ T, Ak.takeR n ws (a + 1) 2 = T := ⟨_, rfl⟩
      rw [hT] at hJ
      have HT := hide' hT
      clear hT
      cases T with
      | bad a4 why =>
        obtain rfl : J = .bad a4 why := hJ.symm
        clear hJ
        go_enter Tryz.func145, Tryz.ntmps145
        go_wp2_with fail
        change Calls _ _ _ (W.alloc (.cells Ak.exZ 121)) _
        rw [← HW1.out]
        refine HC.out.mono ?_
        rintro e w5 ⟨v, rfl, hx, hb5, hp5⟩
        obtain ⟨xo, xp, xl, xc, sp, sl, sc, xa, xm, xt, xn, rfl, hxk⟩ := Ak.cmpX hx
        have HX := hide' hxk
        have hs5 := hb5.size
        obtain ⟨M, hM⟩ : ∃ M, w5.heap.size = M := ⟨_, rfl⟩
        have hbk : Below w5.heap.size w5 (w5.alloc (.cells #[.int .i64 xo, .slice xp xl xc, .slice sp sl sc, .string xa, .int .i64 xm, .string xt, .int .i64 xn] 121)) := (Below.refl _ _).alloc (Nat.le_refl _) _
        have HB6 := hide' (((Ak.Pb.of_below (b := P) HB.out).trans hb5).trans (.of_below (b := P) hbk))
        have HP6 := hide' (hp5.below hbk)
        have HN6 := hide' ((hbk.block N (by omega)).trans ((hb5.block N (by omega) (by omega)).trans HN.out))
        have HM6 := hide' (hM ▸ Ak.heap_new w5 (.cells #[.int .i64 xo, .slice xp xl xc, .slice sp sl sc, .string xa, .int .i64 xm, .string xt, .int .i64 xn] 121))
        have HK6 := hide' (fun (k : Nat) (hk : k < M) => hbk.block k (by omega))
        have hPM : P ≠ M := by have := hp5.c.lt; omega
        have hNM : N ≠ M := by omega
        have s6 : (w5.alloc (.cells #[.int .i64 xo, .slice xp xl xc, .slice sp sl sc, .string xa, .int .i64 xm, .string xt, .int .i64 xn] 121)).heap.size = M + 1 := by simp [hM]
        clear hx hxk hb5 hp5 hbk HC
        go_wp2_with fail
        refine (HK.out ▸ CC.out _ HB6.out a HP6.out).mono ?_
        rintro e w7 ⟨rfl, hb7, hp7⟩
        have HB7 := hide' (HB6.out.trans hb7)
        have HP7 := hide' hp7
        clear hb7 hp7
        go_wp2_with fail
        refine (HT.out ▸ CT.out _ _ HP7.out).mono ?_
        rintro e w8 hv
        obtain ⟨d, rfl, h1, h2, h3⟩ := hv
        have HV := hide' (Ak.PrE.of_bad (qv := qv) (wv := wv) (op := op) (mo := mo) (V := Ak.XV N) (Ak.GvE.pre ⟨d, rfl, h1, h2, h3⟩ HB7.out))
        clear h1 h2 h3
        go_wp2_with fail
        exact ⟨rfl, HV.out⟩
      | ok wo a4 =>
        obtain rfl : J = .ok (Ak.cmpN c wo.nu x) a4 := hJ.symm
        clear hJ
        go_enter Tryz.func145, Tryz.ntmps145
        go_wp2_with fail
        change Calls _ _ _ (W.alloc (.cells Ak.exZ 121)) _
        rw [← HW1.out]
        refine HC.out.mono ?_
        rintro e w5 ⟨v, rfl, hx, hb5, hp5⟩
        obtain ⟨xo, xp, xl, xc, sp, sl, sc, xa, xm, xt, xn, rfl, hxk⟩ := Ak.cmpX hx
        have HX := hide' hxk
        have hs5 := hb5.size
        obtain ⟨M, hM⟩ : ∃ M, w5.heap.size = M := ⟨_, rfl⟩
        have hbk : Below w5.heap.size w5 (w5.alloc (.cells #[.int .i64 xo, .slice xp xl xc, .slice sp sl sc, .string xa, .int .i64 xm, .string xt, .int .i64 xn] 121)) := (Below.refl _ _).alloc (Nat.le_refl _) _
        have HB6 := hide' (((Ak.Pb.of_below (b := P) HB.out).trans hb5).trans (.of_below (b := P) hbk))
        have HP6 := hide' (hp5.below hbk)
        have HN6 := hide' ((hbk.block N (by omega)).trans ((hb5.block N (by omega) (by omega)).trans HN.out))
        have HM6 := hide' (hM ▸ Ak.heap_new w5 (.cells #[.int .i64 xo, .slice xp xl xc, .slice sp sl sc, .string xa, .int .i64 xm, .string xt, .int .i64 xn] 121))
        have HK6 := hide' (fun (k : Nat) (hk : k < M) => hbk.block k (by omega))
        have hPM : P ≠ M := by have := hp5.c.lt; omega
        have hNM : N ≠ M := by omega
        have s6 : (w5.alloc (.cells #[.int .i64 xo, .slice xp xl xc, .slice sp sl sc, .string xa, .int .i64 xm, .string xt, .int .i64 xn] 121)).heap.size = M + 1 := by simp [hM]
        clear hx hxk hb5 hp5 hbk HC
        go_wp2_with fail
        refine (HK.out ▸ CC.out _ HB6.out a HP6.out).mono ?_
        rintro e w7 ⟨rfl, hb7, hp7⟩
        have HB7 := hide' (HB6.out.trans hb7)
        have HP7 := hide' hp7
        have HN7 := hide' ((hb7.block N (by omega) (by omega)).trans HN6.out)
        have HM7 := hide' ((hb7.block M (by omega) (by omega)).trans HM6.out)
        have HK7 := hide' (fun (k : Nat) (hk : k < M) (hn : k ≠ P) => (hb7.block k (by omega) hn).trans (HK6.out k hk))
        have hs7 := hb7.size
        clear hb7 hp7
        go_wp2_with fail
        refine (HT.out ▸ CT.out _ _ HP7.out).mono ?_
        rintro e w8 ⟨v, rfl, rfl, hb8, hp8⟩
        have hn8 := (hb8.block N (by omega) (by omega)).trans HN7.out
        have hm8 := (hb8.block M (by omega) (by omega)).trans HM7.out
        have HK8 := hide' (fun (k : Nat) (hk : k < M) (hn : k ≠ P) => (hb8.block k (by omega) hn).trans (HK7.out k hk hn))
        have HB8 := hide' (HB7.out.trans hb8)
        have HP8 := hide' hp8
        unfold Ak.exZ at hn8
        obtain ⟨wk, wt, wn, q0, q1, q2, q3⟩ := wo
        unfold Ak.Wo.cs
        dsimp only
        have z0 : w8.cell? ⟨N, 0, none⟩ = some (.int .i64 0) := by rw [Lib.cell_of_heap hn8]; rfl
        have zf0 : w8.frozen? ⟨N, 0, none⟩ = false := Lib.frozen_of_heap hn8 0
        have z1 : w8.cell? ⟨N, 1, none⟩ = some (.slice none 0 0) := by rw [Lib.cell_of_heap hn8]; rfl
        have zf1 : w8.frozen? ⟨N, 1, none⟩ = false := Lib.frozen_of_heap hn8 1
        have z2 : w8.cell? ⟨N, 2, none⟩ = some (.slice none 0 0) := by rw [Lib.cell_of_heap hn8]; rfl
        have zf2 : w8.frozen? ⟨N, 2, none⟩ = false := Lib.frozen_of_heap hn8 2
        have z3 : w8.cell? ⟨N, 3, none⟩ = some (.string ⟨#[]⟩) := by rw [Lib.cell_of_heap hn8]; rfl
        have zf3 : w8.frozen? ⟨N, 3, none⟩ = false := Lib.frozen_of_heap hn8 3
        have z4 : w8.cell? ⟨N, 4, none⟩ = some (.int .i64 0) := by rw [Lib.cell_of_heap hn8]; rfl
        have zf4 : w8.frozen? ⟨N, 4, none⟩ = false := Lib.frozen_of_heap hn8 4
        have z5 : w8.cell? ⟨N, 5, none⟩ = some (.string ⟨#[]⟩) := by rw [Lib.cell_of_heap hn8]; rfl
        have zf5 : w8.frozen? ⟨N, 5, none⟩ = false := Lib.frozen_of_heap hn8 5
        have z6 : w8.cell? ⟨N, 6, none⟩ = some (.int .i64 0) := by rw [Lib.cell_of_heap hn8]; rfl
        have zf6 : w8.frozen? ⟨N, 6, none⟩ = false := Lib.frozen_of_heap hn8 6
        have m0 : w8.cell? ⟨M, 0, none⟩ = some (.int .i64 xo) := by rw [Lib.cell_of_heap hm8]; rfl
        have mf0 : w8.frozen? ⟨M, 0, none⟩ = false := Lib.frozen_of_heap hm8 0
        have m1 : w8.cell? ⟨M, 1, none⟩ = some (.slice xp xl xc) := by rw [Lib.cell_of_heap hm8]; rfl
        have mf1 : w8.frozen? ⟨M, 1, none⟩ = false := Lib.frozen_of_heap hm8 1
        have m2 : w8.cell? ⟨M, 2, none⟩ = some (.slice sp sl sc) := by rw [Lib.cell_of_heap hm8]; rfl
        have mf2 : w8.frozen? ⟨M, 2, none⟩ = false := Lib.frozen_of_heap hm8 2
        have m3 : w8.cell? ⟨M, 3, none⟩ = some (.string xa) := by rw [Lib.cell_of_heap hm8]; rfl
        have mf3 : w8.frozen? ⟨M, 3, none⟩ = false := Lib.frozen_of_heap hm8 3
        have m4 : w8.cell? ⟨M, 4, none⟩ = some (.int .i64 xm) := by rw [Lib.cell_of_heap hm8]; rfl
        have mf4 : w8.frozen? ⟨M, 4, none⟩ = false := Lib.frozen_of_heap hm8 4
        have m5 : w8.cell? ⟨M, 5, none⟩ = some (.string xt) := by rw [Lib.cell_of_heap hm8]; rfl
        have mf5 : w8.frozen? ⟨M, 5, none⟩ = false := Lib.frozen_of_heap hm8 5
        have m6 : w8.cell? ⟨M, 6, none⟩ = some (.int .i64 xn) := by rw [Lib.cell_of_heap hm8]; rfl
        have mf6 : w8.frozen? ⟨M, 6, none⟩ = false := Lib.frozen_of_heap hm8 6
        have hz9 := (Ak.set_else (w := w8.setCell ⟨M, 4, none⟩ (.int .i64 (c : Nat))) (i := 6) (v := .int .i64 wn) hNM).trans ((Ak.set_else (w := w8) (i := 4) (v := .int .i64 (c : Nat)) hNM).trans hn8)
        have HZ9 := hide' hz9
        have hWM : W.heap.size ≤ M := by omega
        have HB9 := hide' ((HB8.out.far hWM 4 (.int .i64 (c : Nat))).far hWM 6 (.int .i64 wn))
        have HC9 := hide' ((hp8.c.far hPM 4 (.int .i64 (c : Nat))).far hPM 6 (.int .i64 wn))
        have hwn := fun w : World => woNum w wk wt wn q0 q1 q2 q3
        clear hb8 hp8 hn8 hm8 hz9
        go_wp2_with fail
        have hWN : W.heap.size ≤ N := by omega
        obtain ⟨f1, f2, f3⟩ := Ak.far7e HB9.out hWN HC9.out hPN (.int .i64 xo) (.slice xp xl xc) (.slice sp sl sc) (.string xa) (.int .i64 (c : Nat)) (.string xt) (.int .i64 wn)
        have l7 := Ak.load7e HZ9.out (.int .i64 xo) (.slice xp xl xc) (.slice sp sl sc) (.string xa) (.int .i64 (c : Nat)) (.string xt) (.int .i64 wn)
        revert f1 f2 f3 l7
        generalize World.setCell _ ⟨N, 6, none⟩ (.int .i64 wn) = WF
        intro f1 f2 f3 l7
        refine bodyPost_ret (Ak.results_cell Tryz.results145 _ ⟨N, 0, none⟩ rfl _ _ l7) rfl ?_
        refine Ak.PrE.of_ok ?_ f1 (H0.out.go f1 f2 HP8.out.atn HP8.out.opm)
        have hXf := (HX.out WF fun b v hb e => ?_).2.2 c wn
        · exact hXf.mono (by omega)
        · have k2 := block_lt_of_cell e
          exact (World.cell?_of_block ((f3 b.block (by omega)).trans ((Ak.set_else (by omega)).trans ((Ak.set_else (by omega)).trans (HK8.out b.block (by omega) (by omega)))))).trans e
end Go.Proofs.YtcnagbkdckipnaaGreatDoor
/-
  THE WALK over the parser's one, whole.
-/
namespace Go.Proofs.YtcnagbkdckipnaaGreatDoor
open Go.RowKit Go.Lib
theorem akOne (W : World) (P : Nat) (qv wv : Value) (n : Nat) (ws : Nat → Ak.Wo) (en : Ak.Wo) (at_ op mo : Nat) (h0 : Ak.Ps W P qv wv n ws at_ op mo) (ht : Ak.Tb W) (hg : Ak.GU P qv wv n ws en) (inner : Option Ak.Lv)
    (hE : ∀ last W1 a, Ak.Pb P W W1 → Ak.Ps W1 P qv wv n ws a op mo → a < n → Calls Tryz.prog 100 #[.pointer (some ⟨P, 0, none⟩), .string last, .func (.func 101) #[.pointer (some ⟨P, 0, none⟩)] #[]] W1 (Ak.PrE P qv wv n ws en op mo W1 (Ak.XV W1.heap.size) (Ak.withinR n ws (inner.map Ak.Lv.ei) last a)))
    (hL : ∀ W1 a, Ak.Pb P W W1 → Ak.Ps W1 P qv wv n ws a op mo → a < n → Calls Tryz.prog 145 #[.pointer (some ⟨P, 0, none⟩)] W1 (Ak.PrE P qv wv n ws en op mo W1 (Ak.XV W1.heap.size) (Ak.lenR n ws (Ak.withinR n ws (inner.map Ak.Lv.so) ⟨#[41]⟩) a)))
    (hS : ∀ (c : Nat) W1 a, Ak.Pb P W W1 → Ak.Ps W1 P qv wv n ws a op mo → a < n → Calls Tryz.prog 146 #[.pointer (some ⟨P, 0, none⟩), .int .i64 (c : Nat)] W1 (Ak.PrE P qv wv n ws en op mo W1 (Ak.XV W1.heap.size) (Ak.withinR n ws (inner.map fun l => Ak.argsR n ws l.so c) ⟨#[41]⟩ a)))
    (hO : ∀ W1, Ak.Pb P W W1 → Ak.Ps W1 P qv wv n ws at_ op mo → Calls Tryz.prog 147 #[.pointer (some ⟨P, 0, none⟩)] W1 (Ak.PrE P qv wv n ws en op mo W1 (Ak.XV W1.heap.size) (Ak.someR n ws (Ak.withinR n ws (inner.map Ak.Lv.ei) ⟨#[93]⟩) at_))) :
    Calls Tryz.prog 133 #[.pointer (some ⟨P, 0, none⟩)] W (Ak.PrE P qv wv n ws en op mo W (Ak.XV W.heap.size) (Ak.oneR n ws inner at_)) := by
  have hlt : ∀ s, Ak.clB n ws at_ s = true → at_ + 1 < n := fun s h => by
    unfold Ak.clB Ak.sgB at h
    simp only [Bool.and_eq_true, decide_eq_true_eq] at h
    exact h.2.1
  have hfc : ∀ m j c, Ak.clF n ws at_ j m = some c → at_ + 1 < n := by
    intro m
    induction m with
    | zero => intro j c h; unfold Ak.clF at h; cases h
    | succ m ih =>
      intro j c h
      unfold Ak.clF at h
      split at h
      · rename_i e
        exact hlt _ e
      · exact ih _ _ h
  unfold Ak.oneR
  by_cases hA : Ak.sgB n ws at_ ⟨#[40]⟩ = true
  · rw [if_pos hA]
    exact akOneA W P qv wv n ws en at_ op mo h0 _ hA (fun W1 q h => hE ⟨#[41]⟩ W1 at_ q h (by unfold Ak.sgB at hA; simp only [Bool.and_eq_true, decide_eq_true_eq] at hA; exact hA.1))
  rw [if_neg hA]
  have hA := Bool.eq_false_iff.2 hA
  by_cases hB : Ak.clB n ws at_ (Ak.bs [110, 111, 116]) = true
  · rw [if_pos hB]
    exact akOneB W P qv wv n ws en at_ op mo h0 _ hA hB (fun W1 q h => hE ⟨#[41]⟩ W1 (at_ + 1) q h (hlt _ hB))
  rw [if_neg hB]
  have hB := Bool.eq_false_iff.2 hB
  by_cases hC : Ak.clB n ws at_ Ak.lenS = true
  · rw [if_pos hC]
    exact akOneC W P qv wv n ws en at_ op mo h0 _ hA hB hC (fun W1 q h => hL W1 (at_ + 1) q h (hlt _ hC))
  rw [if_neg hC]
  have hC := Bool.eq_false_iff.2 hC
  obtain ⟨d, hD⟩ : ∃ d, Ak.clF n ws at_ 3 3 = d := ⟨_, rfl⟩
  rw [hD]
  cases d with
  | some c => exact akOneD W P qv wv n ws en at_ op mo h0 _ hA hB hC ht c hD (fun W1 q h => hS c W1 (at_ + 1) q h (hfc _ _ _ hD))
  | none => exact akOneE W P qv wv n ws en at_ op mo h0 _ hA hB hC ht hg hD hO
end Go.Proofs.YtcnagbkdckipnaaGreatDoor
