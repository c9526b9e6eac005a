/-
  THE WALK over kleene.ordered at a NotOf, and at any loose formula.
-/
import Derived.Test.YtmpmlccomgepjaaKlOrd
namespace Go.Proofs.Ytmpmlccomgepjaa
open Go.RowKit Go.Lib Go.Sort
namespace Kl
theorem len2 {l : List Fv} (h : 2 ≤ (sr (l.map ct)).length) : 2 ≤ l.length := by have := sr_len (l.map ct); rw [List.length_map] at this; omega
theorem Lo1.ok {w : World} {x : Fv} (h : Lo1 w x) : Ok w x := by
  obtain ⟨o, v, n, p, c, l⟩ := x
  rcases h with ⟨rfl, rfl, rfl, _⟩ | ⟨_, _, g, rfl, hr⟩
  · exact Ok.leaf w o v n
  · exact hr.ok o v n
theorem Lo1.dp {w : World} {x : Fv} (h : Lo1 w x) : Dp w x := by
  obtain ⟨o, v, n, p, c, l⟩ := x
  rcases h with ⟨rfl, rfl, rfl, _⟩ | ⟨_, hl, g, rfl, hr⟩
  · exact Dp.leaf w o v n
  · exact hr.dp (by have := len2 hl; omega) o v n
theorem Lo1.keep {w w' : World} {x : Fv} (h : Lo1 w x) {L : List Nat} (hc : Chs L w w') (hx : ∀ b ∈ fp x, b ∉ L) : Lo1 w' x := by
  obtain ⟨o, v, n, p, c, l⟩ := x
  rcases h with ⟨rfl, rfl, rfl, ho⟩ | ⟨ho, hl, g, rfl, hr⟩
  · exact .inl ⟨rfl, rfl, rfl, ho⟩
  · exact .inr ⟨ho, hl, g, rfl, hr.keep hc (hx g (fp_row o v n g c (by have := len2 hl; omega))) fun b hb => hx b (fp_in o v n _ c hb)⟩
theorem Lo.ok {w : World} {x : Fv} (h : Lo w x) : Ok w x := by
  rcases h with h | ⟨y, g, c, rfl, h1, _, h3, _⟩
  · exact h.ok
  · exact h3.ok 4 0 0 [y] rfl (fun k x e => by
      match k, e with
      | 0, e => simpa using e) (fun x hx => by simp at hx; rw [hx]; exact h1.ok)
theorem Lo.dp {w : World} {x : Fv} (h : Lo w x) : Dp w x := by
  rcases h with h | ⟨y, g, c, rfl, h1, _, h3, h4⟩
  · exact h.dp
  · unfold Dp
    refine .inr ⟨by simp, g, rfl, h3.few (Nat.le_refl _) fun k hk => ?_, by simpa [fps] using h4, Dj.one y, Dps.all.2 fun x hx => ?_⟩
    · have hk : k < 1 := hk
      obtain rfl : k = 0 := by omega
      rfl
    · simp at hx
      rw [hx]
      exact h1.dp
theorem Lo.keep {w w' : World} {x : Fv} (h : Lo w x) {L : List Nat} (hc : Chs L w w') (hx : ∀ b ∈ fp x, b ∉ L) : Lo w' x := by
  rcases h with h | ⟨y, g, c, rfl, h1, h2, h3, h4⟩
  · exact .inl (h.keep hc hx)
  · exact .inr ⟨y, g, c, rfl, h1.keep hc fun b hb => hx b (fp_in 4 0 0 _ c (by simp [fps, hb])), h2, h3.keep (hc.block g h3.lt (hx g (fp_row 4 0 0 g c (by simp)))), h4⟩
theorem ct_mk (o v n : Int) (p : Option Addr) (c : Nat) (l : List Fv) : ct (.mk o v n p c l) = .mk o v n (l.map ct) := by rw [ct, cts_map]
theorem Chs.trans' {L : List Nat} {a b c : World} (h : Chs L a b) (k : Chs L b c) : Chs L a c := h.trans k
theorem chs_rules {L : List Nat} {w w' : World} (h : Chs L w w') {B : Nat} (hB : B < w.heap.size) (hg : B ∉ L) : (∀ o, w'.cell? ⟨B, o, none⟩ = w.cell? ⟨B, o, none⟩) ∧ ∀ o, w'.frozen? ⟨B, o, none⟩ = w.frozen? ⟨B, o, none⟩ := by
  have hb := h.block B hB hg
  exact ⟨fun o => World.cell?_of_block (a := ⟨B, o, none⟩) hb, fun o => World.frozen?_of_block (a := ⟨B, o, none⟩) hb⟩
theorem Chs.setc {L : List Nat} {w b : World} (h : Chs L w b) {p : Addr} (hp : w.heap.size ≤ p.block ∨ p.block ∈ L) (v : Value) : Chs L w (b.setCell p v) :=
  ⟨h.os, h.tape, h.output, by have := h.size; simpa [World.setCell] using this, fun k hk hn => (Below.heap_setCell _ p _ k (hp.elim (fun h => by omega) fun h c => hn (c ▸ h))).trans (h.block k hk hn)⟩
theorem Ok.setc {w : World} {x : Fv} (h : Ok w x) {p : Addr} (hp : p.block ∉ fp x) (v : Value) : Ok (w.setCell p v) x :=
  h.imp x fun a _ ha e => (World.cell?_of_block (a := a) (Below.heap_setCell w p v a.block fun c => hp (c ▸ ha))).trans e
theorem cell_setc {w : World} {p a : Addr} (h : ¬ a.block = p.block) (v : Value) : (w.setCell p v).cell? a = w.cell? a := World.cell?_of_block (Below.heap_setCell w p v a.block h)
theorem Rw.setc {w : World} {g cap n : Nat} {R : Nat → Fv} (h : Rw w g cap n R) {p : Addr} (hp : p.block ≠ g) (v : Value) : Rw (w.setCell p v) g cap n R := h.keep (Below.heap_setCell _ _ _ _ (Ne.symm hp))
end Kl
set_option maxRecDepth 100000 in
theorem klOrd1 (x : Kl.Fv) (w : World) (h : Kl.Lo1 w x) (hn : x.ar.length < 4611686018427387904) : Calls Try.prog 17 #[.agg x.enc.toArray] w fun r w' => Kl.OrdE1 x (Kl.ord1 (Kl.ct x)) w r w' := by
  obtain ⟨o, v, n, p, c, l⟩ := x
  rcases h with ⟨rfl, rfl, rfl, ho⟩ | ⟨ho, hl, g, rfl, hr⟩
  · refine (klOrdLeaf o v n w ho).mono fun r w' h => ?_
    refine ⟨.mk o v n none 0 [], h.1, .inl ⟨rfl, rfl, rfl, ho⟩, ?_, fun b hb => hb, Kl.Chs.of_below h.2⟩
    rw [Kl.ct_mk]
    unfold Kl.ord1
    rw [if_neg (by simp only [Kl.Fm.op]; omega)]
  · have hl2 := Kl.len2 hl
    refine (klOrdRow o v n g c l w ho hr hn).mono fun r w' h => ?_
    obtain ⟨m, h1, h2, h3, h4, h5⟩ := h
    refine ⟨.mk o v n (some ⟨g, 0, none⟩) c m, h1, .inr ⟨ho, by rw [h2, Kl.sr_sr]; exact hl, g, rfl, h4⟩, ?_, fun b hb => ?_, h5.chs (Kl.fp_row o v n g c (by omega))⟩
    · rw [Kl.ct_mk, Kl.ct_mk, h2]
      unfold Kl.ord1
      rw [if_pos (by simp only [Kl.Fm.op]; exact ho)]
      rfl
    · unfold Kl.fp at hb
      rcases List.mem_append.1 hb with hb | hb
      · obtain ⟨_, a, e, rfl⟩ := Kl.pb_of hb
        cases e
        exact Kl.fp_row o v n g c (by omega)
      · obtain ⟨x, hx, hb⟩ := (Kl.fps_mem m b).1 hb
        exact Kl.fp_in o v n _ c ((Kl.fps_mem l b).2 ⟨x, h3 x hx, hb⟩)
set_option maxRecDepth 100000 in
set_option maxHeartbeats 2000000 in
theorem klOrdNot (y : Kl.Fv) (g c : Nat) (w : World) (h1 : Kl.Lo1 w y) (h3 : Kl.Rw w g c 1 (fun _ => y)) (h4 : g ∉ Kl.fp y) (hn : y.ar.length < 4611686018427387904) :
    Calls Try.prog 17 #[.agg #[.int .i64 4, .int .i64 0, .int .i64 0, .slice (some ⟨g, 0, none⟩) 1 c]] w fun r w' => ∃ z : Kl.Fv, r = .returned (.agg #[.int .i64 4, .int .i64 0, .int .i64 0, .slice (some ⟨g, 0, none⟩) 1 c]) ∧ Kl.ct z = Kl.ord1 (Kl.ct y) ∧ (∀ b ∈ Kl.fp z, b ∈ Kl.fp y) ∧ Kl.Lo1 w' z ∧ Kl.Rw w' g c 1 (fun _ => z) ∧ Kl.Chs (g :: Kl.fp y) w w' := by
  have cO : ∀ W, Below w.heap.size w W → Calls Try.prog 17 #[.agg y.enc.toArray] W fun r w' => Kl.OrdE1 y (Kl.ord1 (Kl.ct y)) W r w' := fun W hb => klOrd1 y W (h1.keep (Kl.Chs.of_below (L := []) hb) (fun _ _ => by simp)) hn
  have hg := h3.lt
  have hlt := h1.ok.lt y
  have hr := h3.rng 0 (by omega)
  have h3' := hide' h3
  have CO := hide' cO
  have HLT := hide' hlt
  have HG4 := hide' h4
  have hgB : ¬ w.heap.size = g := by omega
  have hgB1 : ¬ w.heap.size + 1 = g := by omega
  obtain ⟨yo, yv, yn, yp, yc, yl⟩ := y
  obtain ⟨q0, q1, q2, q3⟩ := Kl.cells4 hr
  obtain ⟨ky, hky⟩ : ∃ k, yl.length = k := ⟨_, rfl⟩
  simp only [Kl.Fv.enc, hky] at CO
  rw [hky] at q3
  simp only [Nat.zero_mul, Nat.zero_add] at q0 q1 q2 q3
  clear cO hlt hr h1 h3 h4 hn hky
  go_enter Try.func17, Try.ntmps17
  go_wp2_with fail
  generalize hW : (w.alloc (.cells #[.int .i64 4, .int .i64 0, .int .i64 0, .slice (some ⟨g, 0, none⟩) 1 c] 26)).alloc (.cells #[.int .i64 0, .int .i64 0, .int .i64 0, .slice none 0 0] 26) = W
  have HBW : Hid (Below w.heap.size w W) := by rw [← hW]; exact ((Below.refl _ _).alloc (Nat.le_refl _) _).alloc (by simp) _
  have HZ : Hid (W.heap.size = w.heap.size + 2) := by show W.heap.size = _; rw [← hW]; simp
  have b0 : W.cell? ⟨w.heap.size, 0, none⟩ = some (.int .i64 4) := by rw [← hW]; simp
  have b1 : W.cell? ⟨w.heap.size, 1, none⟩ = some (.int .i64 0) := by rw [← hW]; simp
  have b2 : W.cell? ⟨w.heap.size, 2, none⟩ = some (.int .i64 0) := by rw [← hW]; simp
  have b3 : W.cell? ⟨w.heap.size, 3, none⟩ = some (.slice (some ⟨g, 0, none⟩) 1 c) := by rw [← hW]; simp
  have d0 : W.cell? ⟨w.heap.size + 1, 0, none⟩ = some (.int .i64 0) := by rw [← hW]; simp
  have d1 : W.cell? ⟨w.heap.size + 1, 1, none⟩ = some (.int .i64 0) := by rw [← hW]; simp
  have d2 : W.cell? ⟨w.heap.size + 1, 2, none⟩ = some (.int .i64 0) := by rw [← hW]; simp
  have d3 : W.cell? ⟨w.heap.size + 1, 3, none⟩ = some (.slice none 0 0) := by rw [← hW]; simp
  have e0 : ∀ o, W.frozen? ⟨w.heap.size + 1, o, none⟩ = false := fun o => by rw [← hW]; simp
  have HB := hide' (And.intro b0 (And.intro b1 (And.intro b2 (And.intro b3 (And.intro d0 (And.intro d1 (And.intro d2 (And.intro d3 e0))))))))
  have p0 := (HBW.out.cell (p := ⟨g, 0, none⟩) hg).trans q0
  have p1 := (HBW.out.cell (p := ⟨g, 1, none⟩) hg).trans q1
  have p2 := (HBW.out.cell (p := ⟨g, 2, none⟩) hg).trans q2
  have p3 := (HBW.out.cell (p := ⟨g, 3, none⟩) hg).trans q3
  obtain ⟨S, hSd⟩ : ∃ S : World → Prop, S = fun w' => w'.cell? ⟨w.heap.size, 3, none⟩ = some (.slice (some ⟨g, 0, none⟩) 1 c) := ⟨_, rfl⟩
  have HSO : Hid (∀ W', S W' → W'.cell? ⟨w.heap.size, 3, none⟩ = some (.slice (some ⟨g, 0, none⟩) 1 c)) := fun W' h => by rw [hSd] at h; exact h
  have HSI : Hid (∀ W', W'.cell? ⟨w.heap.size, 3, none⟩ = some (.slice (some ⟨g, 0, none⟩) 1 c) → S W') := fun W' h => by rw [hSd]; exact h
  have hS0 : S W.drew := HSI.out _ b3
  clear hW hSd b0 b1 b2 b3 d0 d1 d2 d3 e0 q0 q1 q2 q3
  refine wp_region_held_drew (S := S) (by kernel_rfl) hS0 (fun hHeld => ?_)
  simp only [List.size_toArray, List.length_cons, List.length_nil, Nat.reduceAdd]
  refine wpAnyH_take (i := 0) (v := .pointer (some ⟨w.heap.size, 3, none⟩)) rfl (by kernel_rfl) (by kernel_rfl) (by kernel_rfl) (fun _ _ _ h => h) (Or.inl ⟨by rfl, ?y0⟩) (by assumption) ?_
  case y0 => (intro w' hSw; have hb3 := HSO.out w' hSw; go_simp)
  try simp only [List.getElem_toArray, List.getElem_cons_zero, Act.put, List.setIfInBounds_toArray, List.set_cons_zero, List.set_cons_succ]
  refine wpAnyH_take (i := 1) (v := .slice (some ⟨g, 0, none⟩) 1 c) rfl (by kernel_rfl) (by kernel_rfl) (by kernel_rfl) (fun _ _ _ h => h) (Or.inl ⟨by rfl, ?y1⟩) (by assumption) ?_
  case y1 => (intro w' hSw; have hb3 := HSO.out w' hSw; go_simp)
  try simp only [List.getElem_toArray, List.getElem_cons_zero, List.getElem_cons_succ, Act.put, List.setIfInBounds_toArray, List.set_cons_zero, List.set_cons_succ]
  refine wpAnyH_take (i := 2) (v := .pointer (some ⟨w.heap.size, 3, none⟩)) rfl (by kernel_rfl) (by kernel_rfl) (by kernel_rfl) (fun _ _ _ h => h) (Or.inl ⟨by rfl, ?y2⟩) (by assumption) ?_
  case y2 => (intro w' hSw; have hb3 := HSO.out w' hSw; go_simp)
  try simp only [List.getElem_toArray, List.getElem_cons_zero, List.getElem_cons_succ, Act.put, List.setIfInBounds_toArray, List.set_cons_zero, List.set_cons_succ]
  refine wpAnyH_take (i := 3) (v := .slice (some ⟨g, 0, none⟩) 1 c) rfl (by kernel_rfl) (by kernel_rfl) (by kernel_rfl) (fun _ _ _ h => h) (Or.inl ⟨by rfl, ?y3⟩) (by assumption) ?_
  case y3 => (intro w' hSw; have hb3 := HSO.out w' hSw; go_simp)
  try simp only [List.getElem_toArray, List.getElem_cons_zero, List.getElem_cons_succ, Act.put, List.setIfInBounds_toArray, List.set_cons_zero, List.set_cons_succ]
  refine wpAnyH_take (i := 4) (v := .pointer (some ⟨g, 0, none⟩)) rfl (by kernel_rfl) (by kernel_rfl) (by kernel_rfl) (fun _ _ _ h => h) (Or.inl ⟨by rfl, ?y4⟩) (by assumption) ?_
  case y4 => (intro w' hSw; have hb3 := HSO.out w' hSw; go_simp)
  try simp only [List.getElem_toArray, List.getElem_cons_zero, List.getElem_cons_succ, Act.put, List.setIfInBounds_toArray, List.set_cons_zero, List.set_cons_succ]
  refine wpAnyH_ready (rs := [5]) (by kernel_rfl) (by simp) ?_
  refine AllReadyH.cons rfl (fun K hK => ?_) AllReadyH.nil
  try simp only [List.getElem_toArray, List.getElem_cons_zero, List.getElem_cons_succ, Act.put, List.setIfInBounds_toArray, List.set_cons_zero, List.set_cons_succ]
  go_simp
  refine hK.out _ _ hS0 (fun hHeld9 => ?_)
  clear hK K
  try simp only [List.getElem_toArray, List.getElem_cons_zero, List.getElem_cons_succ, Act.put, List.setIfInBounds_toArray, List.set_cons_zero, List.set_cons_succ]
  refine wpAnyH_ready (rs := [6]) (by kernel_rfl) (by simp) ?_
  refine AllReadyH.cons rfl (fun K hK => ?_) AllReadyH.nil
  try simp only [List.getElem_toArray, List.getElem_cons_zero, List.getElem_cons_succ, Act.put, List.setIfInBounds_toArray, List.set_cons_zero, List.set_cons_succ]
  go_simp
  refine (CO.out W.drew HBW.out.drew).mono ?_
  rintro r w1 ⟨z, rfl, z1, z2, z3, z4⟩
  have hfy : ∀ B, w.heap.size ≤ B → B ∉ Kl.fp (.mk yo yv yn yp yc yl) := fun B hB hb => by have := HLT.out B hb; omega
  obtain ⟨B0, B1, B2, B3, D0, D1, D2, D3, E0⟩ := HB.out
  obtain ⟨r1, f1⟩ := Kl.chs_rules z4 (B := w.heap.size) (by show _ < W.heap.size; rw [HZ.out]; omega) (hfy _ (by omega))
  obtain ⟨r2, f2⟩ := Kl.chs_rules z4 (B := w.heap.size + 1) (by show _ < W.heap.size; rw [HZ.out]; omega) (hfy _ (by omega))
  obtain ⟨r3, f3⟩ := Kl.chs_rules z4 (B := g) (by show _ < W.heap.size; rw [HZ.out]; omega) HG4.out
  have hS1 : S w1 := HSI.out w1 ((r1 3).trans B3)
  have g0 := (r3 0).trans p0
  have g1 := (r3 1).trans p1
  have g2 := (r3 2).trans p2
  have g3 := (r3 3).trans p3
  have k0 := (r1 0).trans B0
  have k1 := (r1 1).trans B1
  have k2 := (r1 2).trans B2
  have k3 := (r1 3).trans B3
  have l0 := (r2 0).trans D0
  have l1 := (r2 1).trans D1
  have l2 := (r2 2).trans D2
  have l3 := (r2 3).trans D3
  have fg : ∀ o, w1.frozen? ⟨g, o, none⟩ = false := fun o => by
    rw [f3 o]
    obtain ⟨cur, hc1, _⟩ := h3'.out.blk
    exact Lib.frozen_of_heap ((HBW.out.block g hg).trans hc1) o
  have fr : ∀ o, w1.frozen? ⟨w.heap.size + 1, o, none⟩ = false := fun o => (f2 o).trans (E0 o)
  have HRW : Hid (Kl.Rw w1 g c 1 fun _ => .mk yo yv yn yp yc yl) := h3'.out.keep ((z4.block g (by show _ < W.heap.size; rw [HZ.out]; omega) HG4.out).trans (HBW.out.block g hg))
  have Z1 := hide' z1
  have Z2 := hide' z2
  have Z3 := hide' z3
  have Z4 := hide' z4
  have HFY := hide' hfy
  obtain ⟨zo, zv, zn, zp, zc, zl⟩ := z
  obtain ⟨kz, hkz⟩ : ∃ k, zl.length = k := ⟨_, rfl⟩
  have HKZ := hide' hkz
  simp only [Kl.Fv.enc, hkz]
  clear hkz z1 z2 z3 z4 hfy r1 r2 r3 f1 f2 f3 B0 B1 B2 B3 D0 D1 D2 D3 E0 HB p0 p1 p2 p3 CO
  refine hK.out _ _ hS1 (fun hHeld8 => ?_)
  clear hK K
  try simp only [List.getElem_toArray, List.getElem_cons_zero, List.getElem_cons_succ, Act.put, List.setIfInBounds_toArray, List.set_cons_zero, List.set_cons_succ]
  refine wpAnyH_take (i := 7) (v := .pointer (some ⟨g, 0, none⟩)) rfl (by kernel_rfl) (by kernel_rfl) (by kernel_rfl) (fun _ _ _ h => h) (Or.inl ⟨by rfl, ?y7⟩) (by assumption) ?_
  case y7 => (intro w' hSw; have hb3 := HSO.out w' hSw; go_simp)
  try simp only [List.getElem_toArray, List.getElem_cons_zero, List.getElem_cons_succ, Act.put, List.setIfInBounds_toArray, List.set_cons_zero, List.set_cons_succ]
  refine wpAnyH_ready (rs := [8]) (by kernel_rfl) (by simp) ?_
  refine AllReadyH.cons rfl (fun K hK => ?_) AllReadyH.nil
  try simp only [List.getElem_toArray, List.getElem_cons_zero, List.getElem_cons_succ, Act.put]
  go_simp
  refine hK.out _ _ ?hS2 (fun hHeld7 => ?_)
  case hS2 =>
    refine HSI.out _ ?_
    refine (Kl.cell_setc ?_ _).trans ((Kl.cell_setc ?_ _).trans ((Kl.cell_setc ?_ _).trans ((Kl.cell_setc ?_ _).trans k3))) <;> exact hgB
  clear hK K
  try simp only [List.getElem_toArray, List.getElem_cons_zero, List.getElem_cons_succ, Act.put, List.setIfInBounds_toArray, List.set_cons_zero, List.set_cons_succ]
  refine wpAnyH_done (by kernel_rfl) ?_ _
  go_wp2_with fail
  have hzf : ∀ b ∈ Kl.fp (.mk zo zv zn zp zc zl), b < w.heap.size ∧ b ≠ g := fun b hb => ⟨HLT.out b (Z3.out b hb), fun e => HG4.out (e ▸ Z3.out b hb)⟩
  refine bodyPost_ret (v := .agg #[.int .i64 4, .int .i64 0, .int .i64 0, .slice (some ⟨g, 0, none⟩) 1 c]) (by simp [results, Try.results17, go_sem, l0, l1, l2, l3]) rfl ⟨.mk zo zv zn zp zc zl, rfl, Z2.out, Z3.out, ?_, ?_, ?_⟩
  · have z6 : Kl.Chs (g :: (w.heap.size + 1) :: []) w1 w1 := Kl.Chs.of_below (Below.refl _ _)
    refine Z1.out.keep (Kl.Chs.setc (Kl.Chs.setc (Kl.Chs.setc (Kl.Chs.setc (Kl.Chs.setc (Kl.Chs.setc (Kl.Chs.setc (Kl.Chs.setc z6 (.inr (by simp)) _) (.inr (by simp)) _) (.inr (by simp)) _) (.inr (by simp)) _) (.inr (by simp)) _) (.inr (by simp)) _) (.inr (by simp)) _) (.inr (by simp)) _) fun b hb => ?_
    have := hzf b hb
    simp
    omega
  · refine Kl.Rw.setc (Kl.Rw.setc (Kl.Rw.setc (Kl.Rw.setc ?_ hgB1 _) hgB1 _) hgB1 _) hgB1 _
    have := HRW.out.set (i := 0) (by omega) (.mk zo zv zn zp zc zl)
    simp only [Kl.Fv.enc, HKZ.out, Nat.zero_mul] at this
    exact this.few (Nat.le_refl _) fun k hk => by rw [if_pos (by omega)]
  · have z5 : Kl.Chs (g :: Kl.fp (.mk yo yv yn yp yc yl)) w w1 := (Kl.Chs.of_below HBW.out.drew).trans' (Z4.out.more fun k hk => List.mem_cons_of_mem _ hk)
    refine Kl.Chs.setc (Kl.Chs.setc (Kl.Chs.setc (Kl.Chs.setc (Kl.Chs.setc (Kl.Chs.setc (Kl.Chs.setc (Kl.Chs.setc z5 (.inr (by simp)) _) (.inr (by simp)) _) (.inr (by simp)) _) (.inr (by simp)) _) (.inl ?_) _) (.inl ?_) _) (.inl ?_) _) (.inl ?_) _
    all_goals exact Nat.le_succ _
end Go.Proofs.Ytmpmlccomgepjaa
