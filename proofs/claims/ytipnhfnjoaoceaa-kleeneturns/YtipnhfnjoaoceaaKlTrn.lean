/-
  What KleeneTurns keeps to: a formula in a box; gimletlaw14.not; the mathematics.
-/
import Derived.Test.YtipnhfnjoaoceaaKlSmM
import Derived.Test.YtipnhfnjoaoceaaKlGrwM
import Derived.Test.YtipnhfnjoaoceaaKlSimB
namespace Go.Proofs.Ytipnhfnjoaoceaa
open Go.RowKit Go.Lib Go.Sort
namespace Kl
/-- a formula in a box -/
def BoxF (w : World) (T : Nat) (F : Fm) : Prop := ∃ y : Fv, ct y = F ∧ w.rangeAt T 0 y.enc ∧ Ok w y
theorem range_bel {w w' : World} {b o : Nat} {l : List Value} (h : w.rangeAt b o l) (hb : Below w.heap.size w w') : w'.rangeAt b o l := fun i v hi => (hb.cell (p := ⟨b, o + i, none⟩) (block_lt_of_cell (h i v hi))).trans (h i v hi)
theorem BoxF.below {w w' : World} {T : Nat} {F : Fm} (h : BoxF w T F) (hb : Below w.heap.size w w') : BoxF w' T F := by
  obtain ⟨y, h1, h2, h3⟩ := h
  exact ⟨y, h1, range_bel h2 hb, h3.below hb⟩
theorem BoxF.lt {w : World} {T : Nat} {F : Fm} (h : BoxF w T F) : T < w.heap.size := by
  obtain ⟨y, _, h2, _⟩ := h
  obtain ⟨o, v, n, p, c, l⟩ := y
  exact block_lt_of_cell (cells4 h2).1
/-- three formulas in a new block make a row -/
theorem ok_three {w : World} {b : Nat} {y1 y2 y3 : Fv} (h : w.rangeAt b 0 (y1.enc ++ (y2.enc ++ y3.enc))) (h1 : Ok w y1) (h2 : Ok w y2) (h3 : Ok w y3) (o v n : Int) : Ok w (.mk o v n (some ⟨b, 0, none⟩) 3 [y1, y2, y3]) := by
  refine Ok.mk' (by simp) (by omega) fun _ => ⟨b, 0, rfl, fun i x hx => ?_⟩
  have l1 := y1.len
  have l2 := y2.len
  match i, hx with
  | 0, hx =>
    simp at hx; subst hx
    refine ⟨fun j u hj => ?_, h1⟩
    have hlt := (List.getElem?_eq_some_iff.1 hj).1
    have := h j u (by rw [List.getElem?_append_left hlt]; exact hj)
    simpa using this
  | 1, hx =>
    simp at hx; subst hx
    refine ⟨fun j u hj => ?_, h2⟩
    have hlt := (List.getElem?_eq_some_iff.1 hj).1
    have := h (4 + j) u (by rw [List.getElem?_append_right (by omega), List.getElem?_append_left (by omega), l1, Nat.add_sub_cancel_left]; exact hj)
    simpa [Nat.add_assoc] using this
  | 2, hx =>
    simp at hx; subst hx
    refine ⟨fun j u hj => ?_, h3⟩
    have := h (8 + j) u (by rw [List.getElem?_append_right (by omega), List.getElem?_append_right (by omega), l1, l2, show 8 + j - 4 - 4 = j by omega]; exact hj)
    simpa [Nat.add_assoc] using this
  | i + 3, hx => simp at hx
theorem ok_two {w : World} {b : Nat} {y1 y2 : Fv} (h : w.rangeAt b 0 (y1.enc ++ y2.enc)) (h1 : Ok w y1) (h2 : Ok w y2) (o v n : Int) : Ok w (.mk o v n (some ⟨b, 0, none⟩) 2 [y1, y2]) := by
  refine Ok.mk' (by simp) (by omega) fun _ => ⟨b, 0, rfl, fun i x hx => ?_⟩
  have l1 := y1.len
  match i, hx with
  | 0, hx =>
    simp at hx; subst hx
    refine ⟨fun j u hj => ?_, h1⟩
    have hlt := (List.getElem?_eq_some_iff.1 hj).1
    have := h j u (by rw [List.getElem?_append_left hlt]; exact hj)
    simpa using this
  | 1, hx =>
    simp at hx; subst hx
    refine ⟨fun j u hj => ?_, h2⟩
    have := h (4 + j) u (by rw [List.getElem?_append_right (by omega), l1, Nat.add_sub_cancel_left]; exact hj)
    simpa [Nat.add_assoc] using this
  | i + 2, hx => simp at hx
/-- a box that is written -/
theorem box_put {w : World} {T : Nat} {y : Fv} {a b c d : Value} (he : y.enc = [a, b, c, d]) (hr : ∃ v0 v1 v2 v3, w.cell? ⟨T, 0, none⟩ = some v0 ∧ w.cell? ⟨T, 1, none⟩ = some v1 ∧ w.cell? ⟨T, 2, none⟩ = some v2 ∧ w.cell? ⟨T, 3, none⟩ = some v3) (hy : Ok w y) (hT : T ∉ fp y) :
    BoxF ((((w.setCell ⟨T, 0, none⟩ a).setCell ⟨T, 1, none⟩ b).setCell ⟨T, 2, none⟩ c).setCell ⟨T, 3, none⟩ d) T (ct y) := by
  have hc : Chs [T] w ((((w.setCell ⟨T, 0, none⟩ a).setCell ⟨T, 1, none⟩ b).setCell ⟨T, 2, none⟩ c).setCell ⟨T, 3, none⟩ d) := by
    refine Chs.setc (Chs.setc (Chs.setc (Chs.setc (Chs.of_below (Below.refl _ _)) (.inr ?_) _) (.inr ?_) _) (.inr ?_) _) (.inr ?_) _
    all_goals simp
  obtain ⟨v0, v1, v2, v3, h0, h1, h2, h3⟩ := hr
  refine ⟨y, rfl, ?_, hc.ok hy fun b hb c => by simp at c; subst c; exact hT hb⟩
  rw [he]
  intro j u hj
  have hjl := (List.getElem?_eq_some_iff.1 hj).1
  have hs : ∀ j, j < [a, b, c, d].length → (w.cell? ⟨T, 0 + j, none⟩).isSome = true := fun j hj => by
    match j, hj with
    | 0, _ => rw [Nat.add_zero, h0]; rfl
    | 1, _ => rw [Nat.zero_add, h1]; rfl
    | 2, _ => rw [Nat.zero_add, h2]; rfl
    | 3, _ => rw [Nat.zero_add, h3]; rfl
  have := World.cell?_setCells_in T [a, b, c, d] 0 w hs j hjl
  rw [(List.getElem?_eq_some_iff.1 hj).2] at this
  exact this
/-- what not answers -/
def NotR (f : Fm) (w : World) (r : Ending) (w' : World) : Prop :=
  ∃ (y : Fv) (yo yv yn : Int) (yp : Option Addr) (ky yc : Nat), r = .returned (.agg #[.int .i64 yo, .int .i64 yv, .int .i64 yn, .slice yp ky yc]) ∧ Hid (y.enc.toArray = #[.int .i64 yo, .int .i64 yv, .int .i64 yn, .slice yp ky yc]) ∧ Hid (Ok w' y) ∧ Hid (ct y = .mk 4 0 0 [f]) ∧ Hid (∀ b ∈ fp y, w.heap.size ≤ b) ∧ Hid (Below w.heap.size w w')
theorem isG_not {f : Fm} (h : isG f = true) : isG (.mk 4 0 0 [f]) = true := by rw [isG, if_neg (by decide), if_neg (by decide), if_neg (by decide), if_pos rfl, areG, areG, h]; rfl
theorem isG_jn {op : Int} (ho : op = 2 ∨ op = 3) {l : List Fm} (h : ∀ x ∈ l, isG x = true) : isG (.mk op 0 0 l) = true := by rw [isG, if_neg (by omega), if_neg (by omega), if_pos ho, areG_all.2 h]; rfl
theorem rs_jn (vs : List Int) {op : Int} (l : List Fm) (ho : op = 2) : rs vs (.mk op 0 0 l) = jnM 2 2 0 (l.map (rs vs)) := by rw [rs, if_neg (by omega), if_neg (by omega), if_neg (by omega), if_pos ho, rss_map]
theorem ev_turn {vs : List Int} (hg : goodL vs = true) {X Y Z : Fm} (hx : isG X = true) (hy : isG Y = true) (hz : isG Z = true) :
    ev vs (.mk 2 0 0 [X, Y, Z]) = ev vs (.mk 2 0 0 [.mk 2 0 0 [Z, X], Y, X]) ∧ notT (ev vs (.mk 2 0 0 [X, Y, Z])) = ev vs (.mk 3 0 0 [.mk 4 0 0 [X], .mk 4 0 0 [Y], .mk 4 0 0 [Z]]) := by
  have e2 : ∀ l, ev vs (.mk 2 0 0 l) = andL (evs vs l) := fun l => by rw [ev, if_neg (by decide), if_neg (by decide), if_pos rfl]
  have e3 : ∀ l, ev vs (.mk 3 0 0 l) = orL (evs vs l) := fun l => by rw [ev, if_neg (by decide), if_neg (by decide), if_neg (by decide), if_pos rfl]
  have e4 : ∀ f, ev vs (.mk 4 0 0 [f]) = notT (ev vs f) := fun f => by rw [ev, if_neg (by decide), if_neg (by decide), if_neg (by decide), if_neg (by decide)]; rfl
  have gx := ev_g3 hg X hx
  have gy := ev_g3 hg Y hy
  have gz := ev_g3 hg Z hz
  simp only [e2, e3, evs, e4]
  generalize ev vs X = a at gx
  generalize ev vs Y = b at gy
  generalize ev vs Z = c at gz
  rcases gx with rfl | rfl | rfl <;> rcases gy with rfl | rfl | rfl <;> rcases gz with rfl | rfl | rfl <;> decide
/-- the simple formulas are one -/
theorem rs_turn {vs : List Int} {X Y Z : Fm} (hx : isG X = true) (hz : isG Z = true) : rs vs (.mk 2 0 0 [X, Y, Z]) = rs vs (.mk 2 0 0 [.mk 2 0 0 [Z, X], Y, X]) := by
  rw [rs_jn vs _ rfl, rs_jn vs _ rfl]
  simp only [List.map_cons, List.map_nil]
  rw [rs_jn vs _ rfl]
  exact jnM_group (.inl ⟨rfl, rfl, rfl⟩) (rs_sm vs X hx) (rs_sm vs Z hz)
theorem rs_not2 {vs : List Int} (hg : goodL vs = true) {X : Fm} (hx : isG X = true) : rs vs (.mk 4 0 0 [.mk 4 0 0 [X]]) = rs vs X := by
  have e4 : ∀ f, rs vs (.mk 4 0 0 [f]) = den (rs vs f) := fun f => by rw [rs, if_neg (by decide), if_neg (by decide), if_pos rfl]; rfl
  rw [e4, e4]
  exact den_two (rs_sm vs X hx) (rs_pd hg X hx).1
end Kl
set_option maxRecDepth 100000 in
set_option maxHeartbeats 1000000 in
theorem lawNot14 (x : Kl.Fv) (w : World) (hx : Kl.Ok w x) (hs : Kl.sz (Kl.ct x) ≤ 1048576) : Calls Try.prog 34 #[.agg x.enc.toArray] w (Kl.NotR (Kl.ct x) w) := by
  have CT := hide' (fun w' (g : Below w.heap.size w w') => Kl.twA (x := x) hs (hx.below g))
  obtain ⟨f, hf⟩ : ∃ f, Kl.ct x = f := ⟨_, rfl⟩
  simp only [hf] at CT ⊢
  obtain ⟨xo, xv, xn, xp, xc, xl⟩ := x
  obtain ⟨kx, hkx⟩ : ∃ k, xl.length = k := ⟨_, rfl⟩
  simp only [Kl.Fv.enc, hkx] at CT ⊢
  obtain ⟨W, hWd⟩ : ∃ W, (w.alloc (.cells #[.int .i64 xo, .int .i64 xv, .int .i64 xn, .slice xp kx xc] 37)).alloc (.cells #[.int .i64 0, .int .i64 0, .int .i64 0, .slice none 0 0] 37) = W := ⟨_, rfl⟩
  have HBW : Hid (Below w.heap.size w W) := by rw [← hWd]; exact ((Below.refl _ _).alloc (Nat.le_refl _) _).alloc (by simp) _
  have HZ : Hid (W.heap.size = w.heap.size + 2) := by show W.heap.size = _; rw [← hWd]; simp
  have HD : Hid (W.cell? ⟨w.heap.size + 1, 0, none⟩ = some (.int .i64 0) ∧ W.cell? ⟨w.heap.size + 1, 1, none⟩ = some (.int .i64 0) ∧ W.cell? ⟨w.heap.size + 1, 2, none⟩ = some (.int .i64 0) ∧ W.cell? ⟨w.heap.size + 1, 3, none⟩ = some (.slice none 0 0)) := by rw [← hWd]; refine ⟨?_, ?_, ?_, ?_⟩ <;> simp
  have HDF : Hid (∀ o, W.frozen? ⟨w.heap.size + 1, o, none⟩ = false) := fun o => by rw [← hWd]; simp
  have HWd := hide' hWd
  clear hx hf hkx hWd hs
  go_enter Try.func34, Try.ntmps34
  go_wp2_with fail
  rw [HWd.out]
  refine (CT.out W HBW.out).mono ?_
  rintro r w1 ⟨y, yo, yv, yn, yp, ky, yc, rfl, HY, HO, HC, HFP, hb⟩
  have hlt : w.heap.size + 1 < W.heap.size := by rw [HZ.out]; omega
  obtain ⟨g0, g1, g2, g3⟩ := HD.out
  have d0 := (hb.out.cell (p := ⟨w.heap.size + 1, 0, none⟩) hlt).trans g0
  have d1 := (hb.out.cell (p := ⟨w.heap.size + 1, 1, none⟩) hlt).trans g1
  have d2 := (hb.out.cell (p := ⟨w.heap.size + 1, 2, none⟩) hlt).trans g2
  have d3 := (hb.out.cell (p := ⟨w.heap.size + 1, 3, none⟩) hlt).trans g3
  have d4 : ∀ o, w1.frozen? ⟨w.heap.size + 1, o, none⟩ = false := fun o => (hb.out.frozen (p := ⟨w.heap.size + 1, o, none⟩) hlt).trans (HDF.out o)
  have d5 : w.heap.size + 1 < w1.heap.size := Nat.lt_of_lt_of_le hlt hb.out.size
  have HB1 := hide' (HBW.out.trans (hb.out.mono HBW.out.size))
  have HS1 := hide' hb.out.size
  clear g0 g1 g2 g3 hb CT hlt
  go_wp2_with fail
  have hT : w.heap.size + 1 ∉ Kl.fp y := fun h => by have := HFP.out _ h; rw [HZ.out] at this; omega
  obtain ⟨w2, hw2⟩ : ∃ w2, (((w1.setCell ⟨w.heap.size + 1, 0, none⟩ (.int .i64 4)).setCell ⟨w.heap.size + 1, 1, none⟩ (.int .i64 0)).setCell ⟨w.heap.size + 1, 2, none⟩ (.int .i64 0)).setCell ⟨w.heap.size + 1, 3, none⟩ (.slice (some ⟨w1.heap.size, 0, none⟩) 1 1) = w2 := ⟨_, rfl⟩
  have hc : Kl.Chs [w.heap.size + 1] w1 w2 := by
    rw [← hw2]
    refine Kl.Chs.setc (Kl.Chs.setc (Kl.Chs.setc (Kl.Chs.setc (Kl.Chs.of_below (Below.refl _ _)) (.inr ?_) _) (.inr ?_) _) (.inr ?_) _) (.inr ?_) _
    all_goals simp
  have hz2 : w2.heap.size = w1.heap.size := by rw [← hw2]; simp [World.setCell]
  have hy2 : Kl.Ok w2 y := hc.ok HO.out fun b hb c => by simp at c; subst c; exact hT hb
  have hb2 : Below w.heap.size w w2 := HB1.out.trans ⟨hc.os, hc.tape, hc.output, hc.size, fun k hk => hc.block k (by omega) (by simp; omega)⟩
  have hcl : ∀ j (v : Value), [Value.int .i64 4, .int .i64 0, .int .i64 0, .slice (some ⟨w1.heap.size, 0, none⟩) 1 1][j]? = some v → (w2.alloc (.cells #[.int .i64 yo, .int .i64 yv, .int .i64 yn, .slice yp ky yc] 37)).cell? ⟨w.heap.size + 1, j, none⟩ = some v := fun j v hj => by
    have hjl := (List.getElem?_eq_some_iff.1 hj).1
    have hs : ∀ j, j < [Value.int .i64 4, .int .i64 0, .int .i64 0, .slice (some ⟨w1.heap.size, 0, none⟩) 1 1].length → (w1.cell? ⟨w.heap.size + 1, 0 + j, none⟩).isSome = true := fun j hj => by
      match j, hj with
      | 0, _ => rw [Nat.add_zero, d0]; rfl
      | 1, _ => rw [Nat.zero_add, d1]; rfl
      | 2, _ => rw [Nat.zero_add, d2]; rfl
      | 3, _ => rw [Nat.zero_add, d3]; rfl
    have := World.cell?_setCells_in (w.heap.size + 1) [.int .i64 4, .int .i64 0, .int .i64 0, .slice (some ⟨w1.heap.size, 0, none⟩) 1 1] 0 w1 hs j hjl
    rw [(List.getElem?_eq_some_iff.1 hj).2, Nat.zero_add] at this
    have h2 : w2.cell? ⟨w.heap.size + 1, j, none⟩ = some v := by rw [← hw2]; exact this
    exact ((Kl.Gr.refl w2).alloc _).cell h2
  have c0 := hcl 0 _ rfl
  have c1 := hcl 1 _ rfl
  have c2 := hcl 2 _ rfl
  have c3 := hcl 3 _ rfl
  rw [hw2]
  refine bodyPost_ret (v := .agg #[.int .i64 4, .int .i64 0, .int .i64 0, .slice (some ⟨w1.heap.size, 0, none⟩) 1 1]) (by simp [results, Try.results34, go_sem, c0, c1, c2, c3]) rfl ?_
  have hb3 : Below w2.heap.size w2 (w2.alloc (.cells #[.int .i64 yo, .int .i64 yv, .int .i64 yn, .slice yp ky yc] 37)) := (Below.refl _ _).alloc (Nat.le_refl _) _
  refine ⟨.mk 4 0 0 (some ⟨w1.heap.size, 0, none⟩) 1 [y], 4, 0, 0, some ⟨w1.heap.size, 0, none⟩, 1, 1, rfl, rfl, ?_, ?_, ?_, hb2.trans (hb3.mono hb2.size)⟩
  · refine Kl.Ok.mk' (by simp) (by omega) fun _ => ⟨w1.heap.size, 0, rfl, fun i x hx => ?_⟩
    match i, hx with
    | 0, hx =>
      simp at hx
      subst hx
      refine ⟨fun j u hu => ?_, hy2.below hb3⟩
      have he : y.enc = [.int .i64 yo, .int .i64 yv, .int .i64 yn, .slice yp ky yc] := List.toArray_inj (by rw [HY.out])
      rw [he] at hu
      rw [← hz2]
      match j, hu with
      | 0, hu => simp at hu; subst hu; simp
      | 1, hu => simp at hu; subst hu; simp
      | 2, hu => simp at hu; subst hu; simp
      | 3, hu => simp at hu; subst hu; simp
      | j + 4, hu => simp at hu
    | i + 1, hx => simp at hx
  · show _ = _; rw [Kl.ct, Kl.cts_map, List.map_cons, List.map_nil, HC.out]
  · intro b hb
    rw [Kl.fp] at hb
    rcases List.mem_append.1 hb with hb | hb
    · obtain ⟨_, a, e, rfl⟩ := Kl.pb_of hb
      cases e
      have := hb2.size
      show w.heap.size ≤ w1.heap.size
      omega
    · obtain ⟨z, hz, hb9⟩ := (Kl.fps_mem _ b).1 hb
      have hz : z = y := by simpa using hz
      rw [hz] at hb9
      have := HFP.out b hb9
      rw [HZ.out] at this
      omega
end Go.Proofs.Ytipnhfnjoaoceaa
