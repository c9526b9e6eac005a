/-
  THE WALK over ask.Parse at bytes that came in.
-/
import Derived.Test.YtcnagbkdckipnaaGreatDoorAkQuM
namespace Go.Proofs.YtcnagbkdckipnaaGreatDoor
open Go.RowKit Go.Lib Go.Sort
namespace Ak
/-- what Parse answers -/
def AnE (f : Nat → Nat) (n : Nat) (W : World) : An → Ending → World → Prop
  | .path st, r, w' => ∃ p k c lv, r = .returned (.tuple #[.agg #[.slice p k c], .nilIface]) ∧ LS W.heap.size w' (.slice p k c) lv ∧ cSs lv = st ∧ Below W.heap.size W w'
  | .bad a why, r, w' => ∃ d, r = .returned (.tuple #[.agg #[.slice none 0 0], .iface 41 (.pointer (some ⟨d, 0, none⟩))]) ∧ W.heap.size ≤ d ∧ w'.heap[d]? = some (.cells (flC f n a why) 72 (0, 0)) ∧ Below W.heap.size W w'
theorem results_ct {P : Program} {fn : Func} {a b : Nat} {t : TypeId} (hr : fn.results = #[.cell a t, .tmp b]) (tmps : Array Value) (p : Addr) (hp : tmps[a]?.getD undef = .pointer (some p)) (v : Value) (w : World) (h : (loadVar t p).run P w = .ok v w) : (results fn tmps).run P w = .ok (.tuple #[v, tmps[b]?.getD undef]) w := by
  unfold results
  rw [hr]
  simp [asAddr, hp, h]
theorem lim_eq (k : Int) (m : Nat) : min (max k 0) (m : Int) = (lim k m : Int) := by unfold lim; omega
theorem Pb.new {P : Nat} {w W w' : World} (h : Below w.heap.size w W) (hp : Pb P W w') (hP : w.heap.size ≤ P) : Below w.heap.size w w' :=
  ⟨hp.os.trans h.os, hp.tape.trans h.tape, hp.output.trans h.output, Nat.le_trans h.size hp.size, fun k hk => (hp.block k (by have := h.size; omega) (by omega)).trans (h.block k hk)⟩
theorem below_far {w W : World} (h : Below w.heap.size w W) {N : Nat} (hN : w.heap.size ≤ N) (i : Nat) (v : Value) : Below w.heap.size w (W.setCell ⟨N, i, none⟩ v) :=
  ⟨h.os, h.tape, h.output, by have := h.size; simp; omega, fun k hk => (set_else (by omega)).trans (h.block k hk)⟩
end Ak
set_option maxRecDepth 100000 in
set_option maxHeartbeats 8000000 in
theorem akParse {f : Nat → Nat} {n : Nat} {v : Value} {w : World} (len nes : Int) (hT : Lib.Utf8Tabs 1 2 w) (hS : Spans w) (hG : Signs w) (ht : Ak.Tb w) (hf : ∀ j, f j < 256) (hn : n ≤ 1099511627776) (hv : ArgS w f n v) :
    Calls Tryz.prog 5 #[v, .int .i64 len, .int .i64 nes] w (Ak.AnE f n w (Ak.askR f n len nes)) := by
  obtain ⟨p, cap, rfl, _⟩ := hv.span
  obtain ⟨W1, hW1⟩ : ∃ X, X = w.alloc (.cells #[.slice none 0 0] 25) := ⟨_, rfl⟩
  have hb : Below w.heap.size w W1 := by rw [hW1]; exact (Below.refl _ _).alloc (Nat.le_refl _) _
  have hs : W1.heap.size = w.heap.size + 1 := by rw [hW1]; simp
  have hA : W1.heap[w.heap.size]? = some (.cells #[.slice none 0 0] 25 (0, 0)) := by rw [hW1]; exact Ak.heap_new _ _
  have hle := Nat.le_refl w.heap.size
  have hv1 := hv.below hb hle
  have CF := hide' (fun (a : Nat) (ha : a ≤ n) (why : Int) => akFault hv1 hf hn a ha why)
  have CW := hide' (words_arg f n _ W1 (tabs_below hT hb hle) (hS.below hb hle) (hG.below hb hle) hf hn hv1)
  have HTb := hide' (ht.below hb)
  have HV := hide' hv
  have HB := hide' hb
  have HW1 := hide' hW1
  have HF := hide' hf
  obtain ⟨A, hAe⟩ : ∃ A, w.heap.size = A := ⟨_, rfl⟩
  rw [hAe] at hA
  have HA := hide' hA
  have l1 := Ak.lim_eq len 65536
  have l2 := Ak.lim_eq nes 200
  have b1 : Ak.lim len 65536 ≤ 65536 := by unfold Ak.lim; omega
  have b2 : Ak.lim nes 200 ≤ 200 := by unfold Ak.lim; omega
  obtain ⟨J, hJ⟩ : ∃ J, Ak.askR f n len nes = J := ⟨_, rfl⟩
  rw [hJ]
  unfold Ak.askR at hJ
  clear hT hS hG ht hv hv1 hb hW1 hA hf
  have l1' : min (max len 0) 65536 = (Ak.lim len 65536 : Int) := l1
  have l2' : min (max nes 0) 200 = (Ak.lim nes 200 : Int) := l2
  obtain ⟨L, hL⟩ : ∃ L, Ak.lim len 65536 = L := ⟨_, rfl⟩
  obtain ⟨M, hM⟩ : ∃ M, Ak.lim nes 200 = M := ⟨_, rfl⟩
  rw [hL] at hJ l1' b1
  rw [hM] at hJ l2' b2
  clear l1 l2
  by_cases hlt : L < n
  · rw [if_pos hlt] at hJ
    subst hJ
    have C := CF.out L (by omega) 101
    have t1 : (L : Int) < (n : Int) := by omega
    clear CW CF
    go_enter Tryz.func5, Tryz.ntmps5
    go_wp2_with fail
    rw [← HW1.out]
    refine C.mono ?_
    rintro e w2 ⟨d, rfl, h1, h2, h3⟩
    have hA2 := (h3.block A (by omega)).trans HA.out
    have xa : w2.cell? ⟨A, 0, none⟩ = some (.slice none 0 0) := by rw [Lib.cell_of_heap hA2]; rfl
    have fa := Lib.frozen_of_heap hA2 0
    have HA3 := hide' (Go.Joins.block_setCell (i := 0) hA2 (.slice none 0 0))
    have HB3 := hide' (Ak.below_far (HB.out.trans (h3.mono HB.out.size)) (N := A) (by omega) 0 (.slice none 0 0))
    have HD := hide' (And.intro h1 h2)
    clear h1 h2 h3 hA2 C
    go_wp2_with fail
    refine bodyPost_ret (Ak.results_ct Tryz.results5 _ ⟨A, 0, none⟩ rfl _ _ (Ak.load_pa HA3.out)) rfl ?_
    exact ⟨d, rfl, by have := HD.out.1; omega, (Ak.set_else (by have := HD.out.1; omega)).trans HD.out.2, HB3.out⟩
  · rw [if_neg hlt] at hJ
    have t1 : ¬ (L : Int) < (n : Int) := by omega
    clear CF
    have HJ := hide' hJ
    clear hJ
    go_enter Tryz.func5, Tryz.ntmps5
    go_wp2_with fail
    change Calls _ _ _ (w.alloc (.cells #[.slice none 0 0] 25)) _
    rw [← HW1.out]
    refine CW.out.mono ?_
    intro e w2 hE
    cases hE with
    | bad a why d w2 h hd hF hb2 =>
      have hJ := HJ.out
      rw [h] at hJ
      dsimp only at hJ
      subst hJ
      have hA2 := (hb2.block A (by omega)).trans HA.out
      have xa : w2.cell? ⟨A, 0, none⟩ = some (.slice none 0 0) := by rw [Lib.cell_of_heap hA2]; rfl
      have fa := Lib.frozen_of_heap hA2 0
      have HA3 := hide' (Go.Joins.block_setCell (i := 0) hA2 (.slice none 0 0))
      have HB3 := hide' (Ak.below_far (HB.out.trans (hb2.mono HB.out.size)) (N := A) (by omega) 0 (.slice none 0 0))
      have HD := hide' (And.intro hd hF)
      clear hd hF h hb2 hA2 CW
      go_wp2_with fail
      refine bodyPost_ret (Ak.results_ct Tryz.results5 _ ⟨A, 0, none⟩ rfl _ _ (Ak.load_pa HA3.out)) rfl ?_
      exact ⟨d, rfl, by have := HD.out.1; omega, (Ak.set_else (by have := HD.out.1; omega)).trans HD.out.2, HB3.out⟩
    | ok wv w2 h hV hr hb2 =>
      have hJ := HJ.out
      rw [h] at hJ
      dsimp only at hJ
      have hwn : Ak.wn f n ≤ n := Lx.words_len HF.out
      obtain ⟨P, hP⟩ : ∃ P, w2.heap.size = P := ⟨_, rfl⟩
      have hs2 := hb2.size
      obtain ⟨wp, wc, rfl⟩ : ∃ wp wc, wv = .slice wp (Ak.wn f n) wc := by
        obtain ⟨wp, wc, e, _⟩ := Ak.wrow hr
        exact ⟨wp, wc, e⟩
      have hbk : Below w2.heap.size w2 (w2.alloc (.cells #[.slice p n cap, .slice wp (Ak.wn f n) wc, .int .i64 0, .int .i64 0, .int .i64 (M : Nat)] 48)) := (Below.refl _ _).alloc (Nat.le_refl _) _
      have hb3 : Below w.heap.size w (w2.alloc (.cells #[.slice p n cap, .slice wp (Ak.wn f n) wc, .int .i64 0, .int .i64 0, .int .i64 (M : Nat)] 48)) := (HB.out.trans (hb2.mono HB.out.size)).trans (hbk.mono (by omega))
      have hb13 : Below W1.heap.size W1 (w2.alloc (.cells #[.slice p n cap, .slice wp (Ak.wn f n) wc, .int .i64 0, .int .i64 0, .int .i64 (M : Nat)] 48)) := hb2.trans (hbk.mono hs2)
      have HPs : Hid (Ak.Ps (w2.alloc (.cells #[.slice p n cap, .slice wp (Ak.wn f n) wc, .int .i64 0, .int .i64 0, .int .i64 (M : Nat)] 48)) P (.slice p n cap) (.slice wp (Ak.wn f n) wc) (Ak.wn f n) (Ak.wsOf f n) 0 0 M) :=
        hide' ⟨hP ▸ Ak.heap_new w2 _, Ak.wrow (World.ownsRow.alloc hr _), Nat.zero_le _, by omega, Nat.zero_le _, by omega, Ak.qy_of HV.out hb3 (by omega) HF.out hn⟩
      have C := akParseP _ P _ _ _ _ M HPs.out (HTb.out.below hb13)
      obtain ⟨R, hR⟩ : ∃ R, Ak.parseR (Ak.wn f n) (Ak.wsOf f n) M = R := ⟨_, rfl⟩
      rw [hR] at hJ C
      have HC := hide' C
      have HB3 := hide' hb3
      have HA3 := hide' ((hbk.block A (by omega)).trans ((hb2.block A (by omega)).trans HA.out))
      have s3 : (w2.alloc (.cells #[.slice p n cap, .slice wp (Ak.wn f n) wc, .int .i64 0, .int .i64 0, .int .i64 (M : Nat)] 48)).heap.size = P + 1 := by simp [hP]
      clear C CW hb2 hbk hb3 hb13 hr h hV HPs hR
      go_wp2_with fail
      refine HC.out.mono ?_
      clear HC
      cases R with
      | ok st a =>
        subst hJ
        rintro e w4 ⟨q, k, c, lv, rfl, hl, hc, hq⟩
        have hA4 := (hq.block A (by omega) (by omega)).trans HA3.out
        have xa : w4.cell? ⟨A, 0, none⟩ = some (.slice none 0 0) := by rw [Lib.cell_of_heap hA4]; rfl
        have fa := Lib.frozen_of_heap hA4 0
        have HA5 := hide' (Go.Joins.block_setCell (i := 0) hA4 (.slice q k c))
        have HL := hide' hl
        have HC4 := hide' hc
        have HB5 := hide' (Ak.below_far (Ak.Pb.new HB3.out hq (by omega)) (N := A) (by omega) 0 (.slice q k c))
        clear hl hc hq hA4
        go_wp2_with fail
        refine bodyPost_ret (Ak.results_ct Tryz.results5 _ ⟨A, 0, none⟩ rfl _ _ (Ak.load_pa HA5.out)) rfl ?_
        exact ⟨q, k, c, lv, rfl, (HL.out.keepAt fun k hk _ => Ak.set_else (by omega)).mono (by omega), HC4.out, HB5.out⟩
      | bad i why =>
        subst hJ
        rintro e w4 ⟨d, rfl, hd, hF, hq⟩
        have hA4 := (hq.block A (by omega) (by omega)).trans HA3.out
        have xa : w4.cell? ⟨A, 0, none⟩ = some (.slice none 0 0) := by rw [Lib.cell_of_heap hA4]; rfl
        have fa := Lib.frozen_of_heap hA4 0
        have HA5 := hide' (Go.Joins.block_setCell (i := 0) hA4 (.slice none 0 0))
        rw [Ak.flC_ws] at hF
        have HD := hide' (And.intro hd hF)
        have HB5 := hide' (Ak.below_far (Ak.Pb.new HB3.out hq (by omega)) (N := A) (by omega) 0 (.slice none 0 0))
        clear hd hF hq hA4
        go_wp2_with fail
        refine bodyPost_ret (Ak.results_ct Tryz.results5 _ ⟨A, 0, none⟩ rfl _ _ (Ak.load_pa HA5.out)) rfl ?_
        exact ⟨d, rfl, by have := HD.out.1; omega, (Ak.set_else (by have := HD.out.1; omega)).trans HD.out.2, HB5.out⟩
end Go.Proofs.YtcnagbkdckipnaaGreatDoor
