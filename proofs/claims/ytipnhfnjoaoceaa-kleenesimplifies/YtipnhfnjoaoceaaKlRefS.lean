/-
  THE WALK over gimletref14.Simplify.
-/
import Derived.Test.YtipnhfnjoaoceaaKlRefJ
import Derived.Test.YtipnhfnjoaoceaaKlSmM
namespace Go.Proofs.Ytipnhfnjoaoceaa
open Go.RowKit Go.Lib Go.Sort
namespace Kl
theorem rs_sz {vs : List Int} {f : Fm} (h : isG f = true) : sz (rs vs f) ≤ sz f := by
  rw [← (lse_rs vs f h).1]
  exact Nat.le_trans (ord_sz _) (lse_sz vs f)
theorem rss_sz {vs : List Int} : ∀ {l : List Fm}, areG l = true → szs (rss vs l) ≤ szs l
  | [], _ => by simp [rss]
  | a :: l, h => by
    obtain ⟨h1, h2⟩ := areG_parts h
    have := rs_sz (vs := vs) h1
    have := rss_sz (vs := vs) h2
    rw [rss, szs, szs]
    omega
theorem flat_sz (op : Int) : ∀ R : List Fv, (R.flatMap (fltV op)).length ≤ szs (R.map ct)
  | [] => by simp [szs]
  | x :: R => by
    have ih := flat_sz op R
    rw [List.flatMap_cons, List.length_append, List.map_cons, szs]
    have : (fltV op x).length ≤ sz (ct x) := by
      unfold fltV
      split
      · obtain ⟨o, v, n, p, c, l⟩ := x
        have := szs_len (cts l)
        rw [cts_len] at this
        rw [ct, sz]
        show l.length ≤ _
        omega
      · have := sz_pos (ct x)
        simp
        omega
    omega
/-- what Simplify of the document answers -/
def SmR (f : Fm) (w : World) (r : Ending) (w' : World) : Prop :=
  ∃ (y : Fv) (yo yv yn : Int) (yp : Option Addr) (ky yc : Nat), r = .returned (.agg #[.int .i64 yo, .int .i64 yv, .int .i64 yn, .slice yp ky yc]) ∧ Hid (y.enc = [.int .i64 yo, .int .i64 yv, .int .i64 yn, .slice yp ky yc]) ∧ Hid (Ok w' y ∧ ct y = f ∧ (∀ b ∈ fp y, w.heap.size ≤ b) ∧ Below w.heap.size w w')
def RsmE (vv : Value) (vs : List Int) (x : Fv) : Prop := ∀ w, isG (ct x) = true → sz (ct x) ≤ 1048576 → Ok w x → Ts w vv vs → Calls Try.prog 32 #[.agg x.enc.toArray, vv] w (SmR (rs vs (ct x)) w)
/-- where a loop that grows a row is behind i arguments -/
structure Tg (g : Fv → Fm) (w : World) (l : List Fv) (i : Nat) (Q : List Fv) (v : Value) (wr : World) : Prop where
  row : OR wr v Q
  con : Q.map ct = (l.take i).map g
  ok : ∀ x ∈ Q, Ok wr x
  gp : ∀ g, v.ownBlock = some g → g ∉ fps Q ∧ w.heap.size ≤ g
  lowb : ∀ b ∈ fps Q, w.heap.size ≤ b
  bel : Below w.heap.size w wr
theorem Tg.grow {g : Fv → Fm} {w : World} {l : List Fv} {i : Nat} {Q : List Fv} {v : Value} {wr w1 : World} (h : Tg g w l i Q v wr) (hb : Below wr.heap.size wr w1) : Tg g w l i Q v w1 :=
  ⟨h.row.keep fun b _ hl => hb.block b hl, h.con, fun x hx => (h.ok x hx).below hb, h.gp, h.lowb, h.bel.trans (hb.mono h.bel.size)⟩
theorem Tg.put {g0 : Fv → Fm} {w : World} {l : List Fv} {i : Nat} {Q : List Fv} {v v' : Value} {wr w1 w2 : World} {x0 y : Fv} (h : Tg g0 w l i Q v wr) (hf : l[i]? = some x0)
    (hb : Below wr.heap.size wr w1) (hy : Ok w1 y) (hc : ct y = g0 x0) (hfy : ∀ b ∈ fp y, wr.heap.size ≤ b) (ap : OR w2 v' (Q ++ [y])) (gb : w1.grownBy w2 v.ownBlock) (hat : v'.ownBlock = v.ownBlock ∨ v'.ownBlock = some w1.heap.size) : Tg g0 w l (i + 1) (Q ++ [y]) v' w2 := by
  have h1 := h.grow hb
  have hgl : ∀ g, v.ownBlock = some g → g < wr.heap.size := fun g hg => h.row.lt hg
  have hws := h.bel.size
  have hss := hb.size
  have hcg : Chs v.ownBlock.toList w1 w2 := ⟨gb.os, gb.tape, gb.output, gb.size, fun k hk hn => gb.block k hk fun c => hn (by rw [← c]; simp)⟩
  have hlq : ∀ x ∈ Q, ∀ b ∈ fp x, b < wr.heap.size := fun x hx => (h.ok x hx).lt x
  have hm : ∀ x ∈ Q ++ [y], x ∈ Q ∨ x = y := fun x hx => by
    rcases List.mem_append.1 hx with q | q
    · exact .inl q
    · simp at q; exact .inr q
  refine ⟨ap, ?_, fun x hx => ?_, fun g hg => ⟨fun hb' => ?_, ?_⟩, fun b hb' => ?_, ?_⟩
  · rw [take_snoc hf, List.map_append, List.map_append, h.con]
    simp [hc]
  · rcases hm x hx with q | q
    · refine (h1.ok x q).chs hcg fun b hb' c => ?_
      cases e : v.ownBlock with
      | none => rw [e] at c; simp at c
      | some g => rw [e] at c; simp at c; subst c; exact (h.gp b e).1 ((fps_mem Q b).2 ⟨x, q, hb'⟩)
    · subst q
      refine hy.chs hcg fun b hb' c => ?_
      cases e : v.ownBlock with
      | none => rw [e] at c; simp at c
      | some g => rw [e] at c; simp at c; subst c; have := hfy b hb'; have := hgl b e; omega
  · obtain ⟨x, hx, hbx⟩ := (fps_mem _ g).1 hb'
    rcases hat with c | c
    · rw [c] at hg
      rcases hm x hx with q | q
      · exact (h.gp g hg).1 ((fps_mem Q g).2 ⟨x, q, hbx⟩)
      · subst q; have := hfy g hbx; have := hgl g hg; omega
    · rw [c] at hg
      cases hg
      rcases hm x hx with q | q
      · have := hlq x q _ hbx; omega
      · subst q; have := hy.lt x _ hbx; omega
  · rcases hat with c | c
    · exact (h.gp g (c ▸ hg)).2
    · rw [c] at hg; cases hg; omega
  · obtain ⟨x, hx, hbx⟩ := (fps_mem _ b).1 hb'
    rcases hm x hx with q | q
    · exact h.lowb b ((fps_mem Q b).2 ⟨x, q, hbx⟩)
    · subst q; have := hfy b hbx; omega
  · refine h1.bel.trans ⟨gb.os, gb.tape, gb.output, gb.size, fun k hk => gb.block k (by omega) fun c => ?_⟩
    have := (h.gp k c.symm).2
    omega
/-- a result's cell written last -/
theorem fin_resB {w w3 : World} {y : Fv} {B : Nat} (h3 : Below w.heap.size w w3) (hB : w.heap.size ≤ B) (hy : Ok w3 y) (hf : B ∉ fp y) (a b c d : Value) :
    Ok ((((w3.setCell ⟨B, 0, none⟩ a).setCell ⟨B, 1, none⟩ b).setCell ⟨B, 2, none⟩ c).setCell ⟨B, 3, none⟩ d) y ∧ Below w.heap.size w ((((w3.setCell ⟨B, 0, none⟩ a).setCell ⟨B, 1, none⟩ b).setCell ⟨B, 2, none⟩ c).setCell ⟨B, 3, none⟩ d) := by
  have hc : Chs [B] w3 ((((w3.setCell ⟨B, 0, none⟩ a).setCell ⟨B, 1, none⟩ b).setCell ⟨B, 2, none⟩ c).setCell ⟨B, 3, none⟩ d) := by
    refine Chs.setc (Chs.setc (Chs.setc (Chs.setc (Chs.of_below (Below.refl _ _)) (.inr ?_) _) (.inr ?_) _) (.inr ?_) _) (.inr ?_) _
    all_goals simp
  refine ⟨hc.ok hy fun b hb' c => ?_, ?_⟩
  · simp at c; subst c; exact hf hb'
  · refine Below.setCell (Below.setCell (Below.setCell (Below.setCell h3 ?_ _) ?_ _) ?_ _) ?_ _
    all_goals exact hB
end Kl
set_option maxRecDepth 100000 in
set_option maxHeartbeats 8000000 in
theorem klRefSimplify1 (pv : Option Addr) (nv cv : Nat) (vs : List Int) (o v n : Int) (p : Option Addr) (c : Nat) (l : List Kl.Fv) (ih : ∀ a ∈ l, Kl.RsmE (.slice pv nv cv) vs a) : Kl.RsmE (.slice pv nv cv) vs (.mk o v n p c l) := by
  intro w hG hs hx hv
  obtain ⟨x1, x2, x3⟩ := hx.row
  obtain ⟨k1, hk1⟩ : ∃ k, l.length = k := ⟨_, rfl⟩
  rw [Kl.ct] at hG
  have hop := Kl.isG_op hG
  obtain ⟨g1, g2⟩ := Kl.isG_parts hG
  have hgx := Kl.areG_mem g2
  have h4 : o = 4 → k1 = 1 := fun e => by
    subst e
    have := Kl.isG_four hG
    rw [Kl.cts_len, hk1] at this
    exact this
  obtain ⟨z, hz⟩ : ∃ z, Kl.rs vs (Kl.ct (.mk o v n p c l)) = z := ⟨_, rfl⟩
  rw [hz]
  rw [Kl.ct, Kl.rs] at hz
  have HRL : Hid (∀ Q : List Kl.Fv, Q.map Kl.ct = l.map (fun x => Kl.rs vs (Kl.ct x)) → Kl.rss vs (Kl.cts l) = Q.map Kl.ct) := fun Q h => by rw [h, Kl.rss_map, Kl.cts_map, List.map_map]; rfl
  have HSM : Hid (∀ Q : List Kl.Fv, Q.map Kl.ct = l.map (fun x => Kl.rs vs (Kl.ct x)) → ∀ q ∈ Q, Kl.Sm (Kl.ct q)) := fun Q h q hq => by
    have h1 : Kl.ct q ∈ Q.map Kl.ct := List.mem_map.2 ⟨q, hq, rfl⟩
    rw [h] at h1
    obtain ⟨x, hx, e⟩ := List.mem_map.1 h1
    rw [← e]
    exact Kl.rs_sm vs _ (hgx x hx)
  have hk : k1 ≤ 1048576 := by
    have h1 := Kl.szs_len (Kl.cts l)
    rw [Kl.cts_len, hk1] at h1
    rw [Kl.sz_mk] at hs
    omega
  have HFS : Hid (∀ Q : List Kl.Fv, Q.map Kl.ct = l.map (fun x => Kl.rs vs (Kl.ct x)) → ∀ op, (Q.flatMap (Kl.fltV op)).length ≤ 1048576) := fun Q h op => by
    have h1 := Kl.flat_sz op Q
    have h2 := Kl.rss_sz (vs := vs) g2
    rw [HRL.out Q h] at h2
    rw [Kl.sz_mk] at hs
    omega
  have HSZ : Hid (∀ x ∈ l, Kl.sz (Kl.ct x) ≤ 1048576) := fun x hx => by
    have h1 := Kl.szs_mem (l := Kl.cts l) (x := Kl.ct x) (by rw [Kl.cts_map]; exact List.mem_map.2 ⟨x, hx, rfl⟩)
    rw [Kl.sz_mk] at hs
    omega
  have CV := hide' (fun h0 w' (g : Below w.heap.size w w') => klRefValue n (.slice pv nv cv) vs w' (hv.below g) h0)
  have HN : Hid (o = 1 → 0 ≤ n) := fun e => (g1 e).2.1
  have HTS := hide' hv
  have HGX := hide' hgx
  simp only [Kl.Fv.enc]
  rw [hk1] at x1 x3 ⊢
  have X3 := hide' x3
  have K1 := hide' hk1
  have IH := hide' ih
  have HZ := hide' hz
  have H4 := hide' h4
  have HOP := hide' hop
  obtain ⟨W, hWd⟩ : ∃ W, (w.alloc (.cells #[.int .i64 o, .int .i64 v, .int .i64 n, .slice p k1 c] 37)).alloc (.cells #[.int .i64 0, .int .i64 0, .int .i64 0, .slice none 0 0] 37) = W := ⟨_, rfl⟩
  have HBW : Hid (Below w.heap.size w W) := by rw [← hWd]; exact ((Below.refl _ _).alloc (Nat.le_refl _) _).alloc (by simp) _
  have HWS : Hid (W.heap.size = w.heap.size + 2) := by show W.heap.size = _; rw [← hWd]; simp
  have HJC : Hid (W.cell? ⟨w.heap.size, 0, none⟩ = some (.int .i64 o) ∧ W.cell? ⟨w.heap.size, 1, none⟩ = some (.int .i64 v) ∧ W.cell? ⟨w.heap.size, 2, none⟩ = some (.int .i64 n)) := by rw [← hWd]; refine ⟨?_, ?_, ?_⟩ <;> simp
  have HDC0 : Hid (W.cell? ⟨w.heap.size + 1, 0, none⟩ = some (.int .i64 0) ∧ W.cell? ⟨w.heap.size + 1, 1, none⟩ = some (.int .i64 0) ∧ W.cell? ⟨w.heap.size + 1, 2, none⟩ = some (.int .i64 0) ∧ W.cell? ⟨w.heap.size + 1, 3, none⟩ = some (.slice none 0 0)) := by rw [← hWd]; refine ⟨?_, ?_, ?_, ?_⟩ <;> simp
  have HDF : Hid (∀ o, W.frozen? ⟨w.heap.size + 1, o, none⟩ = false) := fun o => by rw [← hWd]; simp
  have HUP : Hid (∀ w', Below W.heap.size W w' → Below w.heap.size w w') := fun w' h => HBW.out.trans (h.mono HBW.out.size)
  have HIN : Hid (∀ w3, Below W.heap.size W w3 → (w3.cell? ⟨w.heap.size, 0, none⟩ = some (.int .i64 o) ∧ w3.cell? ⟨w.heap.size, 1, none⟩ = some (.int .i64 v) ∧ w3.cell? ⟨w.heap.size, 2, none⟩ = some (.int .i64 n))) := fun w3 h => by
    have e : ∀ o, w3.cell? ⟨w.heap.size, o, none⟩ = W.cell? ⟨w.heap.size, o, none⟩ := fun o => h.cell (p := ⟨w.heap.size, o, none⟩) (by rw [HWS.out]; show w.heap.size < _; omega)
    rw [e, e, e]
    exact HJC.out
  have HDC : Hid (∀ w3, Below W.heap.size W w3 → (w3.cell? ⟨w.heap.size + 1, 0, none⟩ = some (.int .i64 0) ∧ w3.cell? ⟨w.heap.size + 1, 1, none⟩ = some (.int .i64 0) ∧ w3.cell? ⟨w.heap.size + 1, 2, none⟩ = some (.int .i64 0) ∧ w3.cell? ⟨w.heap.size + 1, 3, none⟩ = some (.slice none 0 0)) ∧ (∀ o, w3.frozen? ⟨w.heap.size + 1, o, none⟩ = false) ∧ w.heap.size + 1 < w3.heap.size) := fun w3 h => by
    have hlt : w.heap.size + 1 < W.heap.size := by rw [HWS.out]; omega
    have e : ∀ o, w3.cell? ⟨w.heap.size + 1, o, none⟩ = W.cell? ⟨w.heap.size + 1, o, none⟩ := fun o => h.cell (p := ⟨w.heap.size + 1, o, none⟩) hlt
    rw [e, e, e, e]
    exact ⟨HDC0.out, fun o => (h.frozen (p := ⟨w.heap.size + 1, o, none⟩) hlt).trans (HDF.out o), Nat.lt_of_lt_of_le hlt h.size⟩
  have HRES : Hid (∀ (w3 : World) (y : Kl.Fv), Below W.heap.size W w3 → Kl.Ok w3 y → Kl.ct y = z → (∀ b ∈ Kl.fp y, W.heap.size ≤ b) → ∀ (yo yv yn : Int) (yp : Option Addr) (ky yc : Nat), y.enc = [.int .i64 yo, .int .i64 yv, .int .i64 yn, .slice yp ky yc] → ∀ a b c d,
      Kl.SmR z w (.returned (.agg #[.int .i64 yo, .int .i64 yv, .int .i64 yn, .slice yp ky yc])) ((((w3.setCell ⟨w.heap.size + 1, 0, none⟩ a).setCell ⟨w.heap.size + 1, 1, none⟩ b).setCell ⟨w.heap.size + 1, 2, none⟩ c).setCell ⟨w.heap.size + 1, 3, none⟩ d)) := fun w3 y hb hy hc hf yo yv yn yp ky yc he a b c d => by
    obtain ⟨r1, r2⟩ := Kl.fin_resB (w := w) (B := w.heap.size + 1) (HUP.out _ hb) (by omega) hy (fun h => by have := hf _ h; rw [HWS.out] at this; omega) a b c d
    exact ⟨y, yo, yv, yn, yp, ky, yc, rfl, he, r1, hc, fun b' hb' => by have := hf b' hb'; rw [HWS.out] at this; omega, r2⟩
  have HJ3 : Hid (W.cell? ⟨w.heap.size, 3, none⟩ = some (.slice p k1 c)) := by show W.cell? _ = _; rw [← hWd]; simp
  have HWd := hide' hWd
  clear x3 hk1 hx ih hz hs hv g1 g2 hG hgx h4 hop hWd
  go_enter Try.func32, Try.ntmps32
  go_wp2_with fail
  rw [HWd.out]
  go_loopw [5, 12] (fun a u wr => ∃ (i : Nat) (Q : List Kl.Fv), u = .int .i64 i ∧ i ≤ k1 ∧ Hid (Kl.Tg (fun x => Kl.rs vs (Kl.ct x)) W l i Q a wr)) (fun _ u _ => k1 - (RowKit.intOf u).toNat)
  case atStart => exact ⟨0, [], rfl, Nat.zero_le _, ⟨.inl ⟨rfl, rfl⟩, rfl, (fun x hx => by cases hx), (fun g hg => by cases hg), (fun b hb => by simp [Kl.fps] at hb), Below.refl _ _⟩⟩
  case round =>
    obtain ⟨i, Q, rfl, hi, HP⟩ := hrel
    obtain ⟨pa, ca, hf, la1, la2⟩ := HP.out.row.form
    subst hf
    obtain ⟨ka, hka⟩ : ∃ k, Q.length = k := ⟨_, rfl⟩
    have HKI : Hid (ka = min i k1) := by
      have := congrArg List.length HP.out.con
      rw [List.length_map, List.length_map, List.length_take, hka, K1.out] at this
      exact this
    have HKA := hide' hka
    rw [hka] at la1 HP
    simp only [hka]
    clear hka
    have hzw : w.heap.size + 1 < wr.heap.size := (HDC.out _ HP.out.bel).2.2
    by_cases hlt : i < k1
    · have t1 : (i : Int) < (k1 : Int) := by omega
      obtain ⟨b, o1, rfl, kx⟩ := X3.out (by omega)
      obtain ⟨x, hx⟩ := Kl.some_of (l := l) (i := i) (by rw [K1.out]; exact hlt)
      obtain ⟨rx, ox⟩ := kx i x hx
      have HX := hide' hx
      have hml := List.mem_of_getElem? hx
      have cL : Calls Try.prog 32 #[.agg x.enc.toArray, .slice pv nv cv] (wr.alloc (.cells x.enc.toArray 37)) fun r w' => ∃ (y : Kl.Fv) (yo yv yn : Int) (yp : Option Addr) (ky yc : Nat), r = .returned (.agg #[.int .i64 yo, .int .i64 yv, .int .i64 yn, .slice yp ky yc]) ∧ Hid (y.enc = [.int .i64 yo, .int .i64 yv, .int .i64 yn, .slice yp ky yc]) ∧ Hid (Kl.Ok w' y ∧ Kl.ct y = Kl.rs vs (Kl.ct x) ∧ (∀ b ∈ Kl.fp y, wr.heap.size ≤ b) ∧ Below wr.heap.size wr w') := by
        have hb1 : Below wr.heap.size wr (wr.alloc (.cells x.enc.toArray 37)) := (Below.refl _ _).alloc (Nat.le_refl _) _
        have hb2 := (HUP.out _ HP.out.bel).trans (hb1.mono (HUP.out _ HP.out.bel).size)
        refine (IH.out x hml _ (HGX.out x hml) (HSZ.out x hml) (ox.below hb2) (HTS.out.below hb2)).mono fun r w' h => ?_
        obtain ⟨y, yo, yv, yn, yp, ky, yc, h1, h2, h3, h4, h5, h6⟩ := h
        exact ⟨y, yo, yv, yn, yp, ky, yc, h1, h2, h3, h4, fun b hb => by have := h5 b hb; simp at this; omega, hb1.trans (h6.mono hb1.size)⟩
      obtain ⟨f, hf⟩ : ∃ f, x = f := ⟨_, rfl⟩
      rw [hf] at HX
      have hct := congrArg Kl.ct hf
      rw [hct] at cL
      clear hct
      obtain ⟨xo, xv, xn, xp, xc, xl⟩ := x
      obtain ⟨kx', hkx⟩ : ∃ k, xl.length = k := ⟨_, rfl⟩
      obtain ⟨a0, a1, a2, a3⟩ := Kl.cells4 rx
      have hcr : ∀ {a : Addr} {u : Value}, w.cell? a = some u → wr.cell? a = some u := fun {a u} h => ((HUP.out _ HP.out.bel).cell (p := a) (block_lt_of_cell h)).trans h
      have q0 := hcr a0
      have q1 := hcr a1
      have q2 := hcr a2
      have q3 := hcr a3
      have ex : (Kl.Fv.mk xo xv xn xp xc xl).enc.toArray = #[.int .i64 xo, .int .i64 xv, .int .i64 xn, .slice xp kx' xc] := by simp only [Kl.Fv.enc, hkx]
      simp only [hkx] at q3
      simp only [ex] at cL
      have CL := hide' cL
      clear a0 a1 a2 a3 rx ox kx hx hf hcr hkx ex cL hml X3 IH HRES HDC HIN HSM HFS HRL HZ H4 HOP CV HN
      go_wp2_with fail
      refine CL.out.mono ?_
      rintro r w1 ⟨y, yo, yv, yn, yp, ky, yc, rfl, HYE, HY⟩
      clear q0 q1 q2 q3 CL
      go_wp2_with (first | (at_builtin; refine Kl.wpList_app rfl (.tmp 16) (.tmp 20) rfl (.slice pa ka ca) (.slice (some ⟨w1.heap.size, 0, none⟩) 1 1) Q [y] rfl rfl ?c1 ?c2 ?c3 ?_))
      case c1 => exact (HP.out.grow (HY.out.2.2.2.alloc HY.out.2.2.2.size _)).row
      case c2 => exact .inr ⟨_, 0, 1, rfl, fun j z hz => by
        match j, hz with
        | 0, hz =>
          simp at hz
          subst hz
          rw [HYE.out]
          intro t u hu
          match t, hu with
          | 0, hu => simp at hu; subst hu; simp
          | 1, hu => simp at hu; subst hu; simp
          | 2, hu => simp at hu; subst hu; simp
          | 3, hu => simp at hu; subst hu; simp
          | t + 4, hu => simp at hu⟩
      case c3 => have := HKI.out; rw [HKA.out]; simp; omega
      intro v' w2 ap gb hat
      have HSP : Hid (Kl.Tg (fun x => Kl.rs vs (Kl.ct x)) W l (i + 1) (Q ++ [y]) v' w2) := HP.out.put HX.out (HY.out.2.2.2.alloc HY.out.2.2.2.size _) (HY.out.1.below ((Below.refl _ _).alloc (Nat.le_refl _) _)) HY.out.2.1 HY.out.2.2.1 ap gb (by simpa using hat)
      clear ap gb hat HYE HY
      go_wp2_with fail
      go_roundw
      case rel => exact ⟨i + 1, Q ++ [y], by go_num, by omega, HSP⟩
      case measure => simp [RowKit.intOf]; omega
    · have t1 : ¬ (i : Int) < (k1 : Int) := by omega
      have hii : i = k1 := by omega
      have HQC : Hid (Q.map Kl.ct = l.map (fun x => Kl.rs vs (Kl.ct x))) := by
        have := HP.out.con
        rw [List.take_of_length_le (by rw [K1.out]; omega)] at this
        exact this
      have HQ1 : Hid (ka = k1) := by have := HKI.out; show ka = k1; omega
      obtain ⟨e0, e1, e2⟩ := HIN.out _ HP.out.bel
      have HB := hide' HP.out.bel
      have HVR := hide' (fun h0 => CV.out h0 wr (HUP.out _ HP.out.bel))
      clear X3 IH CV HIN hii
      rcases HOP.out with rfl | rfl | rfl | rfl | rfl
      · have HZ0 : Hid (Kl.cons v = z) := HZ.out
        clear HZ H4 HFS HSM HRL HVR HP
        go_wp2_with fail
        refine (klRefConst v _).mono ?_
        rintro r w5 ⟨rfl, hb⟩
        clear e0 e1 e2
        have HB5 := hide' (HB.out.trans (hb.mono HB.out.size))
        clear hb
        obtain ⟨⟨d0, d1, d2, d3⟩, d4, hz5⟩ := HDC.out _ HB5.out
        go_wp2_with fail
        refine bodyPost_ret (v := .agg #[.int .i64 0, .int .i64 v, .int .i64 0, .slice none 0 0]) (by simp [results, Try.results32, go_sem, d0, d1, d2, d3]) rfl ?_
        exact HRES.out _ (.mk 0 v 0 none 0 []) HB5.out (Kl.Ok.leaf _ _ _ _) (by rw [← HZ0.out]; rfl) (by rw [Kl.fp_leaf]; simp) _ _ _ _ _ _ rfl _ _ _ _
      · have HZ1 : Hid (Kl.varF n (Kl.valL vs n) = z) := HZ.out
        have CV2 := hide' (HVR.out (HN.out rfl))
        obtain ⟨t, ht⟩ : ∃ t, Kl.valL vs n = t := ⟨_, rfl⟩
        rw [ht] at HZ1 CV2
        clear ht HZ H4 HFS HSM HRL HVR HP
        go_wp2_with fail
        refine CV2.out.mono ?_
        rintro r w4 ⟨rfl, rfl⟩
        clear CV2
        by_cases c : t = 1
        · subst c
          have HZ0 : Hid (Kl.Fm.mk 1 0 n [] = z) := HZ1.out
          obtain ⟨⟨d0, d1, d2, d3⟩, d4, hz5⟩ := HDC.out _ HB.out
          go_wp2_with fail
          refine bodyPost_ret (v := .agg #[.int .i64 1, .int .i64 0, .int .i64 n, .slice none 0 0]) (by simp [results, Try.results32, go_sem, d0, d1, d2, d3]) rfl ?_
          exact HRES.out _ (.mk 1 0 n none 0 []) HB.out (Kl.Ok.leaf _ _ _ _) (by rw [← HZ0.out]; simp [Kl.ct, Kl.cts]) (by rw [Kl.fp_leaf]; simp) _ _ _ _ _ _ rfl _ _ _ _
        · have b1 : (t != 1) = true := by simpa using c
          have HZ0 : Hid (Kl.cons t = z) := by have := HZ1.out; unfold Kl.varF at this; rw [if_neg c] at this; exact this
          clear HZ1 c
          go_wp2_with fail
          refine (klRefConst t _).mono ?_
          rintro r w5 ⟨rfl, hb⟩
          clear e0 e1 e2
          have HB5 := hide' (HB.out.trans (hb.mono HB.out.size))
          clear hb
          obtain ⟨⟨d0, d1, d2, d3⟩, d4, hz5⟩ := HDC.out _ HB5.out
          go_wp2_with fail
          refine bodyPost_ret (v := .agg #[.int .i64 0, .int .i64 t, .int .i64 0, .slice none 0 0]) (by simp [results, Try.results32, go_sem, d0, d1, d2, d3]) rfl ?_
          exact HRES.out _ (.mk 0 t 0 none 0 []) HB5.out (Kl.Ok.leaf _ _ _ _) (by rw [← HZ0.out]; rfl) (by rw [Kl.fp_leaf]; simp) _ _ _ _ _ _ rfl _ _ _ _
      · have HZ0 : Hid (Kl.jnM 2 2 0 (Q.map Kl.ct) = z) := by show _ = z; rw [← HRL.out Q HQC.out]; exact HZ.out
        have CJ := hide' (klJoinedAnd (.slice pa ka ca) Q wr HP.out.row.src HP.out.ok (HFS.out Q HQC.out _) (by rw [HKA.out, HQ1.out]; exact hk))
        have HLB := hide' HP.out.lowb
        clear HP HKA HZ H4 HFS HSM HRL HVR
        go_wp2_with fail
        refine CJ.out.mono ?_
        rintro r w5 ⟨y, yo, yv, yn, yp, ky, yc, rfl, HYE, HY⟩
        have HB5 := hide' (HB.out.trans (HY.out.2.2.2.mono HB.out.size))
        obtain ⟨⟨d0, d1, d2, d3⟩, d4, hz5⟩ := HDC.out _ HB5.out
        go_wp2_with fail
        refine bodyPost_ret (v := .agg #[.int .i64 yo, .int .i64 yv, .int .i64 yn, .slice yp ky yc]) (by simp [results, Try.results32, go_sem, d0, d1, d2, d3]) rfl ?_
        exact HRES.out _ y HB5.out HY.out.1 (by rw [HY.out.2.1]; exact HZ0.out) (fun b hb => by
          rcases HY.out.2.2.1 b hb with k | k
          · exact HLB.out b k
          · exact Nat.le_trans HB.out.size k) _ _ _ _ _ _ HYE.out _ _ _ _
      · have HZ0 : Hid (Kl.jnM 3 0 2 (Q.map Kl.ct) = z) := by show _ = z; rw [← HRL.out Q HQC.out]; exact HZ.out
        have CJ := hide' (klJoinedOr (.slice pa ka ca) Q wr HP.out.row.src HP.out.ok (HFS.out Q HQC.out _) (by rw [HKA.out, HQ1.out]; exact hk))
        have HLB := hide' HP.out.lowb
        clear HP HKA HZ H4 HFS HSM HRL HVR
        go_wp2_with fail
        refine CJ.out.mono ?_
        rintro r w5 ⟨y, yo, yv, yn, yp, ky, yc, rfl, HYE, HY⟩
        have HB5 := hide' (HB.out.trans (HY.out.2.2.2.mono HB.out.size))
        obtain ⟨⟨d0, d1, d2, d3⟩, d4, hz5⟩ := HDC.out _ HB5.out
        go_wp2_with fail
        refine bodyPost_ret (v := .agg #[.int .i64 yo, .int .i64 yv, .int .i64 yn, .slice yp ky yc]) (by simp [results, Try.results32, go_sem, d0, d1, d2, d3]) rfl ?_
        exact HRES.out _ y HB5.out HY.out.1 (by rw [HY.out.2.1]; exact HZ0.out) (fun b hb => by
          rcases HY.out.2.2.1 b hb with k | k
          · exact HLB.out b k
          · exact Nat.le_trans HB.out.size k) _ _ _ _ _ _ HYE.out _ _ _ _
      · obtain rfl := H4.out rfl
        obtain rfl : ka = 1 := HQ1.out
        obtain ⟨q, rfl⟩ : ∃ q, Q = [q] := by
          have := HKA.out
          match Q, this with
          | [y], _ => exact ⟨y, rfl⟩
        have HZ1 : Hid (Kl.den (Kl.ct q) = z) := by
          have h1 := HRL.out [q] HQC.out
          have h2 : Kl.den ((Kl.rss vs (Kl.cts l)).headD default) = z := HZ.out
          rw [h1] at h2
          exact h2
        have HSQ := hide' (HSM.out [q] HQC.out q (by simp))
        obtain ⟨gb, go, rfl, rr⟩ : ∃ b o, pa = some ⟨b, o, none⟩ ∧ wr.rangeAt b o q.enc := by
          rcases HP.out.row.src with ⟨_, e⟩ | ⟨b, o, c, e, k⟩
          · cases e
          · cases e
            exact ⟨b, o, rfl, by have := k 0 q rfl; rwa [Nat.zero_mul, Nat.add_zero] at this⟩
        have HQO := hide' (HP.out.ok q (by simp))
        have HQF : Hid (∀ b ∈ Kl.fp q, W.heap.size ≤ b) := fun b hb => HP.out.lowb b (by simp [Kl.fps, hb])
        have HQR := hide' HP.out
        obtain ⟨⟨d0, d1, d2, d3⟩, d4, hz5⟩ := HDC.out _ HB.out
        obtain ⟨q0, hq0⟩ : ∃ q0, q = q0 := ⟨_, rfl⟩
        have HQ0 := hide' hq0
        rw [hq0] at HZ1 HSQ HQO HQF HQR
        clear hq0
        obtain ⟨qo, qv, qn, qp, qc, ql⟩ := q
        obtain ⟨c0, c1, c2, c3⟩ := Kl.cells4 rr
        obtain ⟨kq, hkq⟩ : ∃ k, ql.length = k := ⟨_, rfl⟩
        have HKQ := hide' hkq
        rw [hkq] at c3
        have HOPQ : Hid ((Kl.ct q0).op = qo ∧ (Kl.ct q0).va = qv) := by rw [← HQ0.out, Kl.ct]; exact ⟨rfl, rfl⟩
        clear rr hkq HP HKA HZ H4 HFS HSM HRL HVR
        by_cases o0 : qo = 0
        · subst o0
          obtain ⟨t, ht⟩ : ∃ t, Kl.notT qv = t := ⟨_, rfl⟩
          have HZ0 : Hid (Kl.cons t = z) := by
            have := HZ1.out
            unfold Kl.den at this
            rw [if_pos HOPQ.out.1, HOPQ.out.2, ht] at this
            exact this
          have CN := hide' (refTurned qv wr)
          rw [ht] at CN
          clear ht HZ1 c2 c3
          go_wp2_with fail
          refine CN.out.mono ?_
          rintro r w4 ⟨rfl, rfl⟩
          clear CN
          go_wp2_with fail
          refine (klRefConst t _).mono ?_
          rintro r w5 ⟨rfl, hb⟩
          clear e0 e1 e2 c0 c1 d0 d1 d2 d3 d4 hz5
          have HB5 := hide' (HB.out.trans (hb.mono HB.out.size))
          clear hb
          obtain ⟨⟨d0, d1, d2, d3⟩, d4, hz5⟩ := HDC.out _ HB5.out
          go_wp2_with fail
          refine bodyPost_ret (v := .agg #[.int .i64 0, .int .i64 t, .int .i64 0, .slice none 0 0]) (by simp [results, Try.results32, go_sem, d0, d1, d2, d3]) rfl ?_
          exact HRES.out _ (.mk 0 t 0 none 0 []) HB5.out (Kl.Ok.leaf _ _ _ _) (by rw [← HZ0.out]; rfl) (by rw [Kl.fp_leaf]; simp) _ _ _ _ _ _ rfl _ _ _ _
        · have b0 : (qo == 0) = false := by simpa using o0
          by_cases o4 : qo = 4
          · subst o4
            obtain ⟨x, hx, _⟩ := HSQ.out.inv4 HOPQ.out.1
            have hq1 : Kl.ct (.mk 4 qv qn qp qc ql) = .mk 4 0 0 [x] := by rw [HQ0.out]; exact hx
            rw [Kl.ct, Kl.cts_map] at hq1
            simp only [Kl.Fm.mk.injEq] at hq1
            obtain ⟨y, rfl, hy⟩ : ∃ y, ql = [y] ∧ Kl.ct y = x := by
              match ql, hq1.2.2.2 with
              | [y], h => simp at h; exact ⟨y, rfl, h⟩
              | [], h => simp at h
              | _ :: _ :: _, h => simp at h
            have HYC : Hid (Kl.ct y = z) := by show _ = z; rw [hy, ← HZ1.out, hx]; rfl
            obtain rfl : 1 = kq := HKQ.out
            have hrow := HQO.out
            rw [← HQ0.out] at hrow
            obtain ⟨_, _, k8⟩ := hrow.row
            obtain ⟨b3, o3, e8, k9⟩ := k8 (by simp)
            subst e8
            obtain ⟨ry, oy⟩ := k9 0 y rfl
            rw [Nat.zero_mul, Nat.add_zero] at ry
            have HYF : Hid (∀ b ∈ Kl.fp y, W.heap.size ≤ b) := fun b hb => HQF.out b (by rw [← HQ0.out, Kl.fp]; exact List.mem_append_right _ (by simp [Kl.fps, hb]))
            have HFIN := hide' (fun yo yv yn yp ky yc he => HRES.out wr y HB.out oy HYC.out HYF.out yo yv yn yp ky yc he)
            clear hx hq1 hy hrow k8 k9 oy o0
            obtain ⟨yo, yv, yn, yp, yc, yl⟩ := y
            obtain ⟨f0, f1, f2, f3⟩ := Kl.cells4 ry
            obtain ⟨ky, hky⟩ : ∃ k, yl.length = k := ⟨_, rfl⟩
            rw [hky] at f3
            have HFIN2 := hide' (HFIN.out yo yv yn yp ky yc (by simp only [Kl.Fv.enc, hky]))
            clear ry hky HFIN HYF HYC HQ0 HKQ HOPQ HSQ HQO HQF HQR HZ1
            go_wp2_with fail
            refine bodyPost_ret (v := .agg #[.int .i64 yo, .int .i64 yv, .int .i64 yn, .slice yp ky yc]) (by simp [results, Try.results32, go_sem, d0, d1, d2, d3]) rfl ?_
            exact HFIN2.out _ _ _ _
          · have b4 : (qo == 4) = false := by simpa using o4
            have HYC : Hid (Kl.ct (.mk 4 0 0 (some ⟨gb, go, none⟩) ca [q0]) = z) := by
              show _ = z
              rw [← HZ1.out]
              unfold Kl.den
              rw [HOPQ.out.1, if_neg o0, if_neg o4]
              simp [Kl.ct, Kl.cts]
            have HYO : Hid (Kl.Ok wr (.mk 4 0 0 (some ⟨gb, go, none⟩) ca [q0])) := Kl.OR.ok (L := [q0]) HQR.out.row HQR.out.ok _ _ _
            have HYF : Hid (∀ b ∈ Kl.fp (.mk 4 0 0 (some ⟨gb, go, none⟩) ca [q0]), W.heap.size ≤ b) := fun b hb => by
              rw [Kl.fp] at hb
              rcases List.mem_append.1 hb with hb | hb
              · obtain ⟨hl, a, e, rfl⟩ := Kl.pb_of hb
                cases e
                rcases HQR.out.row with ⟨e, _⟩ | ⟨g, cap, e, _⟩
                · cases e
                · cases e; exact (HQR.out.gp _ rfl).2
              · exact HQR.out.lowb b hb
            have HFIN2 := hide' (HRES.out wr _ HB.out HYO.out HYC.out HYF.out 4 0 0 (some ⟨gb, go, none⟩) 1 ca rfl)
            clear HYC HYO HYF HQ0 HKQ HOPQ HSQ HQO HQF HQR HZ1 o0 o4
            go_wp2_with fail
            refine bodyPost_ret (v := .agg #[.int .i64 4, .int .i64 0, .int .i64 0, .slice (some ⟨gb, go, none⟩) 1 ca]) (by simp [results, Try.results32, go_sem, d0, d1, d2, d3]) rfl ?_
            exact HFIN2.out _ _ _ _
theorem klRefSimplify (vv : Value) (vs : List Int) (x : Kl.Fv) (hv : ∃ p n c, vv = .slice p n c) : Kl.RsmE vv vs x := by
  obtain ⟨p, n, c, rfl⟩ := hv
  exact Kl.Fv.ind (fun o v n' p' c' l ih => klRefSimplify1 p n c vs o v n' p' c' l ih) x
end Go.Proofs.Ytipnhfnjoaoceaa
