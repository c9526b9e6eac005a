/-
  THE WALK over gimletlaw14.twin: the same formula, as new memory.
-/
import Derived.Test.YtmpmlccomgepjaaKlOf
import Derived.Test.YtmpmlccomgepjaaKlSz
namespace Go.Proofs.Ytmpmlccomgepjaa
open Go.RowKit Go.Lib Go.Sort
namespace Kl
def TwR (x : Fv) (w : World) (r : Ending) (w' : World) : Prop :=
  ∃ y : Fv, r = .returned (.agg y.enc.toArray) ∧ Ok w' y ∧ ct y = ct x ∧ (∀ b ∈ fp y, w.heap.size ≤ b) ∧ Below w.heap.size w w'
def TwE (x : Fv) : Prop := ∀ w, sz (ct x) ≤ 1048576 → Ok w x → Calls Try.prog 6 #[.agg x.enc.toArray] w (TwR x w)
/-- where twin is behind i arguments -/
structure Tw (w : World) (l : List Fv) (i : Nat) (Q : List Fv) (v : Value) (wr : World) : Prop where
  row : OR wr v Q
  con : Q.map ct = (l.take i).map ct
  ok : ∀ x ∈ Q, Ok wr x
  gp : ∀ g, v.ownBlock = some g → g ∉ fps Q ∧ w.heap.size ≤ g
  lowb : ∀ b ∈ fps Q, w.heap.size ≤ b
  bel : Below w.heap.size w wr
theorem Ok.chs {L : List Nat} {w w' : World} {x : Fv} (h : Ok w x) (hc : Chs L w w') (hn : ∀ b ∈ fp x, b ∉ L) : Ok w' x := hc.ok h hn
theorem Tw.grow {w : World} {l : List Fv} {i : Nat} {Q : List Fv} {v : Value} {wr w1 : World} (h : Tw w l i Q v wr) (hb : Below wr.heap.size wr w1) : Tw w l i Q v w1 :=
  ⟨h.row.keep fun b _ hl => hb.block b hl, h.con, fun x hx => (h.ok x hx).below hb, h.gp, h.lowb, h.bel.trans (hb.mono h.bel.size)⟩
theorem Tw.put {w : World} {l : List Fv} {i : Nat} {Q : List Fv} {v v' : Value} {wr w1 w2 : World} {x0 y : Fv} (h : Tw w l i Q v wr) (hf : l[i]? = some x0)
    (hb : Below wr.heap.size wr w1) (hy : Ok w1 y) (hc : ct y = ct x0) (hfy : ∀ b ∈ fp y, wr.heap.size ≤ b) (ap : OR w2 v' (Q ++ [y])) (gb : w1.grownBy w2 v.ownBlock) (hat : v'.ownBlock = v.ownBlock ∨ v'.ownBlock = some w1.heap.size) : Tw w l (i + 1) (Q ++ [y]) v' w2 := by
  have h1 := h.grow hb
  have hgl : ∀ g, v.ownBlock = some g → g < wr.heap.size := fun g hg => by
    rcases h.row with ⟨rfl, _⟩ | ⟨g', cap, rfl, hr⟩
    · cases hg
    · cases hg; exact hr.lt
  have hws := h.bel.size
  have hss := hb.size
  have hcg : Chs v.ownBlock.toList w1 w2 := ⟨gb.os, gb.tape, gb.output, gb.size, fun k hk hn => gb.block k hk fun c => hn (by rw [← c]; simp)⟩
  have hlq : ∀ x ∈ Q, ∀ b ∈ fp x, b < wr.heap.size := fun x hx => (h.ok x hx).lt x
  have hm : ∀ x ∈ Q ++ [y], x ∈ Q ∨ x = y := fun x hx => by
    rcases List.mem_append.1 hx with q | q
    · exact .inl q
    · simp at q; exact .inr q
  refine ⟨ap, ?_, fun x hx => ?_, fun g hg => ⟨fun hb' => ?_, ?_⟩, fun b hb' => ?_, ?_⟩
  · rw [take_snoc hf, List.map_append, List.map_append, h.con]
    simp [hc]
  · rcases hm x hx with q | q
    · refine (h1.ok x q).chs hcg fun b hb' c => ?_
      cases e : v.ownBlock with
      | none => rw [e] at c; simp at c
      | some g => rw [e] at c; simp at c; subst c; exact (h.gp b e).1 ((fps_mem Q b).2 ⟨x, q, hb'⟩)
    · subst q
      refine hy.chs hcg fun b hb' c => ?_
      cases e : v.ownBlock with
      | none => rw [e] at c; simp at c
      | some g => rw [e] at c; simp at c; subst c; have := hfy b hb'; have := hgl b e; omega
  · obtain ⟨x, hx, hbx⟩ := (fps_mem _ g).1 hb'
    rcases hat with c | c
    · rw [c] at hg
      rcases hm x hx with q | q
      · exact (h.gp g hg).1 ((fps_mem Q g).2 ⟨x, q, hbx⟩)
      · subst q; have := hfy g hbx; have := hgl g hg; omega
    · rw [c] at hg
      cases hg
      rcases hm x hx with q | q
      · have := hlq x q _ hbx; omega
      · subst q; have := hy.lt x _ hbx; omega
  · rcases hat with c | c
    · exact (h.gp g (c ▸ hg)).2
    · rw [c] at hg; cases hg; omega
  · obtain ⟨x, hx, hbx⟩ := (fps_mem _ b).1 hb'
    rcases hm x hx with q | q
    · exact h.lowb b ((fps_mem Q b).2 ⟨x, q, hbx⟩)
    · subst q; have := hfy b hbx; omega
  · refine h1.bel.trans ⟨gb.os, gb.tape, gb.output, gb.size, fun k hk => gb.block k (by omega) fun c => ?_⟩
    have := (h.gp k c.symm).2
    omega
/-- what twin ends in -/
theorem Tw.fin {w W w3 : World} {l Q : List Fv} {i : Nat} {o v n : Int} {p pa : Option Addr} {c ca : Nat} (hb : Below w.heap.size w W) (hz : W.heap.size = w.heap.size + 2) (h : Tw W l i Q (.slice pa Q.length ca) w3) (hi : l.length ≤ i) (a b c' d e : Value) :
    TwR (.mk o v n p c l) w (.returned (.agg (Fv.mk o v n pa ca Q).enc.toArray)) (((((w3.setCell ⟨w.heap.size, 3, none⟩ e).setCell ⟨w.heap.size + 1, 0, none⟩ a).setCell ⟨w.heap.size + 1, 1, none⟩ b).setCell ⟨w.heap.size + 1, 2, none⟩ c').setCell ⟨w.heap.size + 1, 3, none⟩ d) := by
  have hc : Chs [w.heap.size, w.heap.size + 1] w3 (((((w3.setCell ⟨w.heap.size, 3, none⟩ e).setCell ⟨w.heap.size + 1, 0, none⟩ a).setCell ⟨w.heap.size + 1, 1, none⟩ b).setCell ⟨w.heap.size + 1, 2, none⟩ c').setCell ⟨w.heap.size + 1, 3, none⟩ d) := by
    refine Chs.setc (Chs.setc (Chs.setc (Chs.setc (Chs.setc (Chs.of_below (Below.refl _ _)) (.inr ?_) _) (.inr ?_) _) (.inr ?_) _) (.inr ?_) _) (.inr ?_) _
    all_goals simp
  have hfp : ∀ b ∈ fp (.mk o v n pa ca Q), W.heap.size ≤ b := fun b hb => by
    unfold fp at hb
    rcases List.mem_append.1 hb with hb | hb
    · obtain ⟨hl, a, rfl, rfl⟩ := pb_of hb
      rcases h.row with ⟨e, _⟩ | ⟨g, cap, e, _⟩
      · cases e
      · cases e; exact (h.gp g rfl).2
    · exact h.lowb b hb
  have hok : Ok w3 (.mk o v n pa ca Q) := by
    refine Ok.mk' ?_ ?_ fun hl => ?_
    · rcases h.row with ⟨e, rfl⟩ | ⟨g, cap, e, hr⟩
      · exact Nat.zero_le _
      · cases e; exact hr.len
    · rcases h.row with ⟨e, rfl⟩ | ⟨g, cap, e, hr⟩
      · cases e; omega
      · cases e; have := hr.max; unfold maxLen at this; exact this
    · rcases h.row with ⟨e, rfl⟩ | ⟨g, cap, e, hr⟩
      · simp at hl
      · cases e
        refine ⟨g, 0, rfl, fun i x hx => ⟨?_, h.ok x (List.mem_of_getElem? hx)⟩⟩
        have := hr.rng i (List.getElem?_eq_some_iff.1 hx).1
        rw [nth_some hx] at this
        rw [Nat.zero_add]
        exact this
  refine ⟨.mk o v n pa ca Q, rfl, hok.chs hc fun b hb hc => ?_, ?_, fun b hb => ?_, ?_⟩
  · have := hfp b hb
    simp at hc
    omega
  · rw [ct, ct, cts_map, cts_map, h.con, List.take_of_length_le hi]
  · have := hfp b hb
    omega
  · have h4 : Below w.heap.size w w3 := hb.trans (h.bel.mono (by omega))
    refine Below.setCell (Below.setCell (Below.setCell (Below.setCell (Below.setCell h4 ?_ _) ?_ _) ?_ _) ?_ _) ?_ _
    all_goals first | exact Nat.le_refl _ | exact Nat.le_succ _
end Kl
set_option maxRecDepth 100000 in
set_option maxHeartbeats 4000000 in
theorem klTwin1 (o v n : Int) (p : Option Addr) (c : Nat) (l : List Kl.Fv) (ih : ∀ a ∈ l, Kl.TwE a) : Kl.TwE (.mk o v n p c l) := by
  intro w hs hx
  obtain ⟨x1, x2, x3⟩ := hx.row
  obtain ⟨k1, hk1⟩ : ∃ k, l.length = k := ⟨_, rfl⟩
  have hk : k1 ≤ 1048576 := by
    have h1 := Kl.szs_len (Kl.cts l)
    rw [Kl.cts_len, hk1] at h1
    rw [Kl.sz_mk] at hs
    omega
  have HSZ : Hid (∀ x ∈ l, Kl.sz (Kl.ct x) ≤ 1048576) := fun x hx => by
    have h1 := Kl.szs_mem (l := Kl.cts l) (x := Kl.ct x) (by rw [Kl.cts_map]; exact List.mem_map.2 ⟨x, hx, rfl⟩)
    rw [Kl.sz_mk] at hs
    omega
  obtain ⟨W, hWd⟩ : ∃ W, (w.alloc (.cells #[.int .i64 o, .int .i64 v, .int .i64 n, .slice p k1 c] 26)).alloc (.cells #[.int .i64 0, .int .i64 0, .int .i64 0, .slice none 0 0] 26) = W := ⟨_, rfl⟩
  have HBW : Hid (Below w.heap.size w W) := by rw [← hWd]; exact ((Below.refl _ _).alloc (Nat.le_refl _) _).alloc (by simp) _
  have HZ : Hid (W.heap.size = w.heap.size + 2) := by show W.heap.size = _; rw [← hWd]; simp
  have HJ0 : Hid (W.cell? ⟨w.heap.size, 0, none⟩ = some (.int .i64 o)) := by show W.cell? _ = _; rw [← hWd]; simp
  have HJ1 : Hid (W.cell? ⟨w.heap.size, 1, none⟩ = some (.int .i64 v)) := by show W.cell? _ = _; rw [← hWd]; simp
  have HJ2 : Hid (W.cell? ⟨w.heap.size, 2, none⟩ = some (.int .i64 n)) := by show W.cell? _ = _; rw [← hWd]; simp
  have HJ3 : Hid (W.cell? ⟨w.heap.size, 3, none⟩ = some (.slice p k1 c)) := by show W.cell? _ = _; rw [← hWd]; simp
  have HD0 : Hid (W.cell? ⟨w.heap.size + 1, 0, none⟩ = some (.int .i64 0)) := by show W.cell? _ = _; rw [← hWd]; simp
  have HD1 : Hid (W.cell? ⟨w.heap.size + 1, 1, none⟩ = some (.int .i64 0)) := by show W.cell? _ = _; rw [← hWd]; simp
  have HD2 : Hid (W.cell? ⟨w.heap.size + 1, 2, none⟩ = some (.int .i64 0)) := by show W.cell? _ = _; rw [← hWd]; simp
  have HD3 : Hid (W.cell? ⟨w.heap.size + 1, 3, none⟩ = some (.slice none 0 0)) := by show W.cell? _ = _; rw [← hWd]; simp
  have HF : Hid (∀ b o, b < w.heap.size + 2 → w.heap.size ≤ b → W.frozen? ⟨b, o, none⟩ = false) := fun b o h1 h2 => by
    rw [← hWd]
    rcases (show b = w.heap.size ∨ b = w.heap.size + 1 by omega) with rfl | rfl <;> simp
  simp only [Kl.Fv.enc]
  rw [hk1] at x1 x3 ⊢
  have X3 := hide' x3
  have K1 := hide' hk1
  have IH := hide' ih
  have HWd := hide' hWd
  clear x3 hk1 hx ih hWd hs
  go_enter Try.func6, Try.ntmps6
  go_wp2_with fail
  rw [HWd.out]
  go_loopw [3, 9] (fun a u wr => ∃ (i : Nat) (Q : List Kl.Fv), u = .int .i64 i ∧ i ≤ k1 ∧ Hid (Kl.Tw W l i Q a wr)) (fun _ u _ => k1 - (RowKit.intOf u).toNat)
  case atStart => exact ⟨0, [], rfl, Nat.zero_le _, ⟨.inl ⟨rfl, rfl⟩, rfl, (fun x hx => by cases hx), (fun g hg => by cases hg), (fun b hb => by simp [Kl.fps] at hb), Below.refl _ _⟩⟩
  case round =>
    obtain ⟨i, Q, rfl, hi, HP⟩ := hrel
    have hrc : ∀ {a : Addr} {u : Value}, a.block < w.heap.size + 2 → W.cell? a = some u → wr.cell? a = some u := fun {a u} ha h => (HP.out.bel.cell (p := a) (by rw [HZ.out]; exact ha)).trans h
    have hzw : w.heap.size + 1 < wr.heap.size := by have := HP.out.bel.size; rw [HZ.out] at this; omega
    obtain ⟨pa, ca, rfl, la1, la2⟩ := HP.out.row.form
    obtain ⟨ka, hka⟩ : ∃ k, Q.length = k := ⟨_, rfl⟩
    have HKI : Hid (ka = min i k1) := by
      have := congrArg List.length HP.out.con
      rw [List.length_map, List.length_map, List.length_take, hka, K1.out] at this
      exact this
    have HKA := hide' hka
    rw [hka] at la1 HP
    simp only [hka]
    by_cases hlt : i < k1
    · have t1 : (i : Int) < (k1 : Int) := by omega
      obtain ⟨b, o1, rfl, kx⟩ := X3.out (by omega)
      obtain ⟨x, hx⟩ := Kl.some_of (l := l) (i := i) (by rw [K1.out]; exact hlt)
      obtain ⟨rx, ox⟩ := kx i x hx
      have HX := hide' hx
      have cL : Calls Try.prog 6 #[.agg x.enc.toArray] (wr.alloc (.cells x.enc.toArray 26)) fun r w' => ∃ (y : Kl.Fv) (yo yv yn : Int) (yp : Option Addr) (ky yc : Nat), r = .returned (.agg #[.int .i64 yo, .int .i64 yv, .int .i64 yn, .slice yp ky yc]) ∧ Hid (y.enc = [.int .i64 yo, .int .i64 yv, .int .i64 yn, .slice yp ky yc]) ∧ Hid (Kl.Ok w' y ∧ Kl.ct y = Kl.ct x ∧ (∀ b ∈ Kl.fp y, wr.heap.size ≤ b) ∧ Below wr.heap.size wr w') := by
        have hb1 : Below wr.heap.size wr (wr.alloc (.cells x.enc.toArray 26)) := (Below.refl _ _).alloc (Nat.le_refl _) _
        refine (IH.out x (List.mem_of_getElem? hx) _ (HSZ.out x (List.mem_of_getElem? hx)) (((ox.below HBW.out).below HP.out.bel).below hb1)).mono fun r w' h => ?_
        obtain ⟨y, h1, h2, h3, h4, h5⟩ := h
        obtain ⟨yo, yv, yn, yp, yc, yl⟩ := y
        exact ⟨.mk yo yv yn yp yc yl, yo, yv, yn, yp, yl.length, yc, h1, rfl, h2, h3, fun b hb => by have := h4 b hb; simp at this; omega, hb1.trans (h5.mono hb1.size)⟩
      obtain ⟨f, hf⟩ : ∃ f, x = f := ⟨_, rfl⟩
      rw [hf] at HX
      have hct := congrArg Kl.ct hf
      rw [hct] at cL
      clear hct
      obtain ⟨xo, xv, xn, xp, xc, xl⟩ := x
      obtain ⟨kx', hkx⟩ : ∃ k, xl.length = k := ⟨_, rfl⟩
      obtain ⟨a0, a1, a2, a3⟩ := Kl.cells4 rx
      have hcr : ∀ {a : Addr} {u : Value}, w.cell? a = some u → wr.cell? a = some u := fun {a u} h => ((HBW.out.trans (HP.out.bel.mono HBW.out.size)).cell (p := a) (block_lt_of_cell h)).trans h
      have q0 := hcr a0
      have q1 := hcr a1
      have q2 := hcr a2
      have q3 := hcr a3
      have ex : (Kl.Fv.mk xo xv xn xp xc xl).enc.toArray = #[.int .i64 xo, .int .i64 xv, .int .i64 xn, .slice xp kx' xc] := by simp only [Kl.Fv.enc, hkx]
      simp only [hkx] at q3
      simp only [ex] at cL
      have CL := hide' cL
      clear a0 a1 a2 a3 rx ox kx hx hf hcr hrc ex hkx cL hka X3 IH
      go_wp2_with fail
      refine CL.out.mono ?_
      rintro r w1 ⟨y, yo, yv, yn, yp, ky, yc, rfl, HYE, HY⟩
      clear q0 q1 q2 q3 CL
      go_wp2_with (first | (at_builtin; refine Kl.wpList_app rfl (.tmp 13) (.tmp 16) rfl (.slice pa ka ca) (.slice (some ⟨w1.heap.size, 0, none⟩) 1 1) Q [y] rfl rfl ?c1 ?c2 ?c3 ?_))
      case c1 => exact (HP.out.grow (HY.out.2.2.2.alloc HY.out.2.2.2.size _)).row
      case c2 => exact .inr ⟨_, 0, 1, rfl, fun j z hz => by
        match j, hz with
        | 0, hz =>
          simp at hz
          subst hz
          rw [HYE.out]
          intro t u hu
          match t, hu with
          | 0, hu => simp at hu; subst hu; simp
          | 1, hu => simp at hu; subst hu; simp
          | 2, hu => simp at hu; subst hu; simp
          | 3, hu => simp at hu; subst hu; simp
          | t + 4, hu => simp at hu⟩
      case c3 => have := HKI.out; rw [HKA.out]; simp; omega
      intro v' w2 ap gb hat
      have HSP : Hid (Kl.Tw W l (i + 1) (Q ++ [y]) v' w2) := HP.out.put HX.out (HY.out.2.2.2.alloc HY.out.2.2.2.size _) (HY.out.1.below ((Below.refl _ _).alloc (Nat.le_refl _) _)) HY.out.2.1 HY.out.2.2.1 ap gb (by simpa using hat)
      clear ap gb hat HYE HY
      go_wp2_with fail
      go_roundw
      case rel => exact ⟨i + 1, Q ++ [y], by go_num, by omega, HSP⟩
      case measure => simp [RowKit.intOf]; omega
    · have t1 : ¬ (i : Int) < (k1 : Int) := by omega
      have j0 := hrc (by show w.heap.size < _; omega) HJ0.out
      have j1 := hrc (by show w.heap.size < _; omega) HJ1.out
      have j2 := hrc (by show w.heap.size < _; omega) HJ2.out
      have j3 := hrc (by show w.heap.size < _; omega) HJ3.out
      have d0 := hrc (by show w.heap.size + 1 < _; omega) HD0.out
      have d1 := hrc (by show w.heap.size + 1 < _; omega) HD1.out
      have d2 := hrc (by show w.heap.size + 1 < _; omega) HD2.out
      have d3 := hrc (by show w.heap.size + 1 < _; omega) HD3.out
      have e4 : ∀ o, wr.frozen? ⟨w.heap.size, o, none⟩ = false := fun o => (HP.out.bel.frozen (p := ⟨w.heap.size, o, none⟩) (by rw [HZ.out]; show w.heap.size < _; omega)).trans (HF.out _ o (by omega) (by omega))
      have d4 : ∀ o, wr.frozen? ⟨w.heap.size + 1, o, none⟩ = false := fun o => (HP.out.bel.frozen (p := ⟨w.heap.size + 1, o, none⟩) (by rw [HZ.out]; show w.heap.size + 1 < _; omega)).trans (HF.out _ o (by omega) (by omega))
      have hzw0 : w.heap.size < wr.heap.size := by omega
      have HFN := hide' (Kl.Tw.fin (o := o) (v := v) (n := n) (p := p) (c := c) HBW.out HZ.out (by rw [HKA.out]; exact HP.out) (by rw [K1.out]; omega))
      simp only [Kl.Fv.enc, HKA.out] at HFN
      clear hrc X3 IH hka
      go_wp2_with fail
      refine bodyPost_ret (v := .agg #[.int .i64 o, .int .i64 v, .int .i64 n, .slice pa ka ca]) (by simp [results, Try.results6, go_sem, d0, d1, d2, d3]) rfl ?_
      exact HFN.out _ _ _ _ _
theorem klTwin : ∀ x : Kl.Fv, Kl.TwE x := Kl.Fv.ind fun o v n p c l ih => klTwin1 o v n p c l ih
end Go.Proofs.Ytmpmlccomgepjaa
