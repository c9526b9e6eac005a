import Derived.Test.YtcnagbkdckipnaaGreatDoorAkSt
/-
  THE WALK over the parser's some (gen_akso.py writes this text).
-/
namespace Go.Proofs.YtcnagbkdckipnaaGreatDoor
open Go.RowKit Go.Lib Go.Sort
namespace Ak
/-- an expression that asks for a node, in memory -/
theorem XV.some {B : Nat} {w w' : World} {p : Option Addr} {k c : Nat} {l : List Sv} (h : LS B w (.slice p k c) l) (hk : ∀ (a : Addr) v, B ≤ a.block → w.cell? a = some v → w'.cell? a = some v) (aa : ByteArray) : XV B (.mk 3 [] (cSs l) aa 0 ⟨#[]⟩ 0) (.agg #[.int .i64 3, .slice none 0 0, .slice p k c, .string aa, .int .i64 0, .string ⟨#[]⟩, .int .i64 0]) w' := by
  obtain ⟨rfl, h1, h2, h3⟩ := h.row
  have hlo : ∀ b ∈ fX (.mk 3 none 0 [] p c l aa 0 ⟨#[]⟩ 0), B ≤ b := fun b hb => by
    unfold fX at hb
    rcases List.mem_append.1 hb with hb | hb
    · simp [Ak.pb, fXs] at hb
    · rcases List.mem_append.1 hb with hb | hb
      · exact h2 b hb
      · obtain ⟨x, hx, hb⟩ := (fSs_mem l b).1 hb
        exact h3 x hx b hb
  exact ⟨.mk 3 none 0 [] p c l aa 0 ⟨#[]⟩ 0, by simp [cX, cXs], rfl, (OkX.of (RowX.nil w) h1).imp _ fun a v ha e => hk a v (hlo _ ha) e, hlo⟩
/-- a row of one step, made in one stroke -/
theorem LS.one {B : Nat} {w : World} {y : Sv} {cs : Array Value} (hy : OkS w y) (hd : ∀ b ∈ fS y, B ≤ b) (he : y.enc.toArray = cs) (hB : B ≤ w.heap.size) : LS B (w.alloc (.cells cs 61)) (.slice (some ⟨w.heap.size, 0, none⟩) 1 1) [y] := by
  have hb : Below w.heap.size w (w.alloc (.cells cs 61)) := (Below.refl _ _).alloc (Nat.le_refl _) _
  have hl := y.len
  refine ⟨⟨by rw [flS_len], .inr ⟨w.heap.size, 1, cs, rfl, Nat.zero_le _, heap_new _ _, Nat.le_refl _, by unfold maxLen; omega, by rw [← he]; simp [hl], by rw [← he]; simp only [flS, List.flatMap_cons, List.flatMap_nil, List.append_nil]; exact List.take_of_length_le (by simp [hl])⟩⟩, fun x hx => ?_, fun x hx b hb2 => ?_, fun b hb2 => ?_⟩
  · rw [List.mem_singleton.1 hx]; exact hy.below hb
  · rw [List.mem_singleton.1 hx] at hb2
    refine ⟨hd b hb2, fun e => ?_⟩
    have := hy.lt y b hb2
    have := Option.some.inj e
    simp at this
    omega
  · cases hb2; exact hB
end Ak
set_option maxRecDepth 100000 in
set_option maxHeartbeats 8000000 in
theorem akSomePath (W : World) (P : Nat) (qv wv : Value) (n : Nat) (ws : Nat → Ak.Wo) (en : Ak.Wo) (at_ op mo : Nat) (h0 : Ak.Ps W P qv wv n ws at_ op mo) (hg : Ak.GU P qv wv n ws en) (wi : Ak.RX) (hmw : Ak.Mo wi) (hno : Ak.sgB n ws at_ ⟨#[64]⟩ = false)
    (hf : ∀ W1 a, Ak.Pb P W W1 → Ak.Ps W1 P qv wv n ws a op mo → Calls Tryz.prog 74 #[.pointer (some ⟨P, 0, none⟩)] W1 (Ak.PrE P qv wv n ws en op mo W1 (Ak.SV W1.heap.size) (Ak.stepR n ws wi a))) :
    Calls Tryz.prog 147 #[.pointer (some ⟨P, 0, none⟩)] W (Ak.PrE P qv wv n ws en op mo W (Ak.XV W.heap.size) (Ak.someR n ws wi at_)) := by
  obtain ⟨W1, hW1⟩ : ∃ X, X = (W.alloc (.cells #[.int .i64 0, .slice none 0 0, .slice none 0 0, .string ⟨#[]⟩, .int .i64 0, .string ⟨#[]⟩, .int .i64 0] 121)).alloc (.cells #[.int .i64 3, .slice none 0 0, .slice none 0 0, .string ⟨#[]⟩, .int .i64 0, .string ⟨#[]⟩, .int .i64 0] 121) := ⟨_, rfl⟩
  have hb : Below W.heap.size W W1 := by rw [hW1]; exact ((Below.refl _ _).alloc (Nat.le_refl _) _).alloc (by simp) _
  have hs : W1.heap.size = W.heap.size + 2 := by rw [hW1]; simp
  have hz : W1.heap[W.heap.size]? = some (.cells #[.int .i64 0, .slice none 0 0, .slice none 0 0, .string ⟨#[]⟩, .int .i64 0, .string ⟨#[]⟩, .int .i64 0] 121 (0, 0)) := by
    rw [hW1]
    exact (((Below.refl _ _).alloc (Nat.le_refl _) (.cells #[.int .i64 3, .slice none 0 0, .slice none 0 0, .string ⟨#[]⟩, .int .i64 0, .string ⟨#[]⟩, .int .i64 0] 121)).block W.heap.size (by simp)).trans (Ak.heap_new _ _)
  have hm : W1.heap[W.heap.size + 1]? = some (.cells #[.int .i64 3, .slice none 0 0, .slice none 0 0, .string ⟨#[]⟩, .int .i64 0, .string ⟨#[]⟩, .int .i64 0] 121 (0, 0)) := by
    rw [hW1]
    have := Ak.heap_new (W.alloc (.cells #[.int .i64 0, .slice none 0 0, .slice none 0 0, .string ⟨#[]⟩, .int .i64 0, .string ⟨#[]⟩, .int .i64 0] 121)) (.cells #[.int .i64 3, .slice none 0 0, .slice none 0 0, .string ⟨#[]⟩, .int .i64 0, .string ⟨#[]⟩, .int .i64 0] 121)
    rwa [World.size_alloc] at this
  have CI := hide' (hno ▸ akIs W1 P qv wv n ws at_ op mo (h0.below hb) ⟨#[64]⟩)
  have CP := hide' (fun (w : World) (hw : Ak.Pb P W w) (hp : Ak.Ps w P qv wv n ws at_ op mo) => akPath w w P qv wv n ws en at_ op mo w.heap.size true (.slice none 0 0) [] at_ hp ⟨hp, .refl P w, .nil _ _⟩ hp.c.lt (Nat.le_refl _) (Nat.le_refl _) (by simp) hg wi (Ak.stepR_mo hmw) (fun W2 a q h => hf W2 a (hw.trans q) h) (n + 1) (by omega))
  obtain ⟨J, hJ⟩ : ∃ J, Ak.someR n ws wi at_ = J := ⟨_, rfl⟩
  rw [hJ]
  unfold Ak.someR at hJ
  rw [if_neg (by rw [hno]; decide)] at hJ
  obtain ⟨R, hR⟩ : ∃ R, Ak.pathR n ws wi true (n + 1) at_ [] = R := ⟨_, rfl⟩
  rw [hR] at hJ
  have HR : Hid (Ak.pathR n ws wi true (n + 1) at_ (Ak.cSs []) = R) := hide' (by rw [show Ak.cSs [] = [] by simp [Ak.cSs]]; exact hR)
  have H0 := hide' h0
  have HW1 := hide' hW1
  have HB := hide' hb
  have HZ := hide' hz
  have HM := hide' hm
  have hPl : P < W.heap.size := h0.c.lt
  obtain ⟨N, hN⟩ : ∃ N, W.heap.size = N := ⟨_, rfl⟩
  clear hW1 hb hz hm h0 hf hg hmw hR hno
  cases R with
  | bad a why =>
    obtain rfl : J = .bad a why := hJ.symm
    clear hJ
    go_enter Tryz.func147, Tryz.ntmps147
    go_wp2_with fail
    change Calls _ _ _ ((W.alloc (.cells #[.int .i64 0, .slice none 0 0, .slice none 0 0, .string ⟨#[]⟩, .int .i64 0, .string ⟨#[]⟩, .int .i64 0] 121)).alloc (.cells #[.int .i64 3, .slice none 0 0, .slice none 0 0, .string ⟨#[]⟩, .int .i64 0, .string ⟨#[]⟩, .int .i64 0] 121)) _
    rw [← HW1.out]
    refine CI.out.mono ?_
    rintro e w4 ⟨rfl, hb4⟩
    have hs4 := hb4.size
    have HB4 := hide' ((Ak.Pb.of_below (b := P) HB.out).trans (.of_below hb4))
    have HP4 := hide' ((H0.out.below HB.out).below hb4)
    have HZ4 := hide' ((hb4.block N (by omega)).trans (hN ▸ HZ.out))
    have HM4 := hide' ((hb4.block (N + 1) (by omega)).trans (hN ▸ HM.out))
    clear hb4 CI
    go_wp2_with fail
    refine (HR.out ▸ CP.out w4 HB4.out HP4.out).mono ?_
    rintro e w5 hv
    obtain ⟨d, rfl, h1, h2, h3⟩ := hv
    have HV := hide' (Ak.PrE.of_bad (qv := qv) (wv := wv) (op := op) (mo := mo) (V := Ak.XV N) (Ak.GvE.pre ⟨d, rfl, h1, h2, h3⟩ HB4.out))
    clear h1 h2 h3
    go_wp2_with fail
    exact ⟨rfl, HV.out⟩
  | ok r a =>
    obtain ⟨sts, nm⟩ := r
    obtain rfl : J = .ok (.mk 3 [] sts nm 0 ⟨#[]⟩ 0) a := hJ.symm
    clear hJ
    go_enter Tryz.func147, Tryz.ntmps147
    go_wp2_with fail
    change Calls _ _ _ ((W.alloc (.cells #[.int .i64 0, .slice none 0 0, .slice none 0 0, .string ⟨#[]⟩, .int .i64 0, .string ⟨#[]⟩, .int .i64 0] 121)).alloc (.cells #[.int .i64 3, .slice none 0 0, .slice none 0 0, .string ⟨#[]⟩, .int .i64 0, .string ⟨#[]⟩, .int .i64 0] 121)) _
    rw [← HW1.out]
    refine CI.out.mono ?_
    rintro e w4 ⟨rfl, hb4⟩
    have hs4 := hb4.size
    have HB4 := hide' ((Ak.Pb.of_below (b := P) HB.out).trans (.of_below hb4))
    have HP4 := hide' ((H0.out.below HB.out).below hb4)
    have HZ4 := hide' ((hb4.block N (by omega)).trans (hN ▸ HZ.out))
    have HM4 := hide' ((hb4.block (N + 1) (by omega)).trans (hN ▸ HM.out))
    clear hb4 CI
    go_wp2_with fail
    refine (HR.out ▸ CP.out w4 HB4.out HP4.out).mono ?_
    rintro e w5 ⟨v, rfl, hpv, hb5, hp5⟩
    obtain ⟨v1, lv, rfl, hl, hc⟩ := hpv
    obtain ⟨pv, cv, rfl, _⟩ := hl.own.form
    have hz5 := (hb5.block N (by omega) (by omega)).trans HZ4.out
    have hm5 := (hb5.block (N + 1) (by omega) (by omega)).trans HM4.out
    have m0 : w5.cell? ⟨N + 1, 0, none⟩ = some (.int .i64 3) := by rw [Lib.cell_of_heap hm5]; rfl
    have mf0 : w5.frozen? ⟨N + 1, 0, none⟩ = false := Lib.frozen_of_heap hm5 0
    have m1 : w5.cell? ⟨N + 1, 1, none⟩ = some (.slice none 0 0) := by rw [Lib.cell_of_heap hm5]; rfl
    have mf1 : w5.frozen? ⟨N + 1, 1, none⟩ = false := Lib.frozen_of_heap hm5 1
    have m2 : w5.cell? ⟨N + 1, 2, none⟩ = some (.slice none 0 0) := by rw [Lib.cell_of_heap hm5]; rfl
    have mf2 : w5.frozen? ⟨N + 1, 2, none⟩ = false := Lib.frozen_of_heap hm5 2
    have m3 : w5.cell? ⟨N + 1, 3, none⟩ = some (.string ⟨#[]⟩) := by rw [Lib.cell_of_heap hm5]; rfl
    have mf3 : w5.frozen? ⟨N + 1, 3, none⟩ = false := Lib.frozen_of_heap hm5 3
    have m4 : w5.cell? ⟨N + 1, 4, none⟩ = some (.int .i64 0) := by rw [Lib.cell_of_heap hm5]; rfl
    have mf4 : w5.frozen? ⟨N + 1, 4, none⟩ = false := Lib.frozen_of_heap hm5 4
    have m5 : w5.cell? ⟨N + 1, 5, none⟩ = some (.string ⟨#[]⟩) := by rw [Lib.cell_of_heap hm5]; rfl
    have mf5 : w5.frozen? ⟨N + 1, 5, none⟩ = false := Lib.frozen_of_heap hm5 5
    have m6 : w5.cell? ⟨N + 1, 6, none⟩ = some (.int .i64 0) := by rw [Lib.cell_of_heap hm5]; rfl
    have mf6 : w5.frozen? ⟨N + 1, 6, none⟩ = false := Lib.frozen_of_heap hm5 6
    have hm6 := Go.Joins.block_setCell (i := 2) hm5 (.slice pv lv.length cv)
    simp only [List.setIfInBounds_toArray, List.set_cons_succ, List.set_cons_zero] at hm6
    have hm7 := Go.Joins.block_setCell (i := 3) hm6 (.string nm)
    simp only [List.setIfInBounds_toArray, List.set_cons_succ, List.set_cons_zero] at hm7
    have hz7 := (Below.heap_setCell (w5.setCell ⟨N + 1, 2, none⟩ (.slice pv lv.length cv)) ⟨N + 1, 3, none⟩ (.string nm) N (by show N ≠ N + 1; omega)).trans ((Below.heap_setCell w5 ⟨N + 1, 2, none⟩ (.slice pv lv.length cv) N (by show N ≠ N + 1; omega)).trans hz5)
    have z0 : w5.cell? ⟨N, 0, none⟩ = some (.int .i64 0) := by rw [Lib.cell_of_heap hz5]; rfl
    have zf0 : w5.frozen? ⟨N, 0, none⟩ = false := Lib.frozen_of_heap hz5 0
    have z1 : w5.cell? ⟨N, 1, none⟩ = some (.slice none 0 0) := by rw [Lib.cell_of_heap hz5]; rfl
    have zf1 : w5.frozen? ⟨N, 1, none⟩ = false := Lib.frozen_of_heap hz5 1
    have z2 : w5.cell? ⟨N, 2, none⟩ = some (.slice none 0 0) := by rw [Lib.cell_of_heap hz5]; rfl
    have zf2 : w5.frozen? ⟨N, 2, none⟩ = false := Lib.frozen_of_heap hz5 2
    have z3 : w5.cell? ⟨N, 3, none⟩ = some (.string ⟨#[]⟩) := by rw [Lib.cell_of_heap hz5]; rfl
    have zf3 : w5.frozen? ⟨N, 3, none⟩ = false := Lib.frozen_of_heap hz5 3
    have z4 : w5.cell? ⟨N, 4, none⟩ = some (.int .i64 0) := by rw [Lib.cell_of_heap hz5]; rfl
    have zf4 : w5.frozen? ⟨N, 4, none⟩ = false := Lib.frozen_of_heap hz5 4
    have z5 : w5.cell? ⟨N, 5, none⟩ = some (.string ⟨#[]⟩) := by rw [Lib.cell_of_heap hz5]; rfl
    have zf5 : w5.frozen? ⟨N, 5, none⟩ = false := Lib.frozen_of_heap hz5 5
    have z6 : w5.cell? ⟨N, 6, none⟩ = some (.int .i64 0) := by rw [Lib.cell_of_heap hz5]; rfl
    have zf6 : w5.frozen? ⟨N, 6, none⟩ = false := Lib.frozen_of_heap hz5 6
    have HZ7 := hide' hz7
    have HB7 := hide' (((HB4.out.trans hb5).far (N := N + 1) (by omega) 2 (.slice pv lv.length cv)).far (N := N + 1) (by omega) 3 (.string nm))
    have HC7 := hide' ((hp5.c.far (N := N + 1) (by omega) 2 (.slice pv lv.length cv)).far (N := N + 1) (by omega) 3 (.string nm))
    have HP5 := hide' hp5
    have HL := hide' hl
    have HCl := hide' hc
    clear hm5 hm6 hm7 hz5 hz7 hb5 hp5 hl hc
    have hPN : P ≠ N := by omega
    go_wp2_with fail
    have hWN : W.heap.size ≤ N := by omega
    obtain ⟨f1, f2, f3⟩ := Ak.far7e HB7.out hWN HC7.out hPN (.int .i64 3) (.slice none 0 0) (.slice pv lv.length cv) (.string nm) (.int .i64 0) (.string ⟨#[]⟩) (.int .i64 0)
    have l7 := Ak.load7e HZ7.out (.int .i64 3) (.slice none 0 0) (.slice pv lv.length cv) (.string nm) (.int .i64 0) (.string ⟨#[]⟩) (.int .i64 0)
    revert f1 f2 f3 l7
    generalize World.setCell _ ⟨N, 6, none⟩ (.int .i64 0) = WF
    intro f1 f2 f3 l7
    refine bodyPost_ret (Ak.results_cell Tryz.results147 _ ⟨N, 0, none⟩ rfl _ _ l7) rfl ?_
    refine Ak.PrE.of_ok ?_ f1 (H0.out.go f1 f2 HP5.out.atn HP5.out.opm)
    obtain rfl : Ak.cSs lv = sts := HCl.out
    exact (Ak.XV.some HL.out (fun a v ha e => (World.cell?_of_block ((f3 a.block (by omega)).trans ((Below.heap_setCell _ ⟨N + 1, 3, none⟩ _ a.block (by show a.block ≠ N + 1; omega)).trans (Below.heap_setCell w5 ⟨N + 1, 2, none⟩ _ a.block (by show a.block ≠ N + 1; omega))))).trans e) nm).mono (by omega)
set_option maxRecDepth 100000 in
set_option maxHeartbeats 8000000 in
theorem akSomeAttr (W : World) (P : Nat) (qv wv : Value) (n : Nat) (ws : Nat → Ak.Wo) (en : Ak.Wo) (at_ op mo : Nat) (h0 : Ak.Ps W P qv wv n ws at_ op mo) (hg : Ak.GU P qv wv n ws en) (wi : Ak.RX) (hno : Ak.sgB n ws at_ ⟨#[64]⟩ = true) :
    Calls Tryz.prog 147 #[.pointer (some ⟨P, 0, none⟩)] W (Ak.PrE P qv wv n ws en op mo W (Ak.XV W.heap.size) (Ak.someR n ws wi at_)) := by
  obtain ⟨W1, hW1⟩ : ∃ X, X = (W.alloc (.cells #[.int .i64 0, .slice none 0 0, .slice none 0 0, .string ⟨#[]⟩, .int .i64 0, .string ⟨#[]⟩, .int .i64 0] 121)).alloc (.cells #[.int .i64 3, .slice none 0 0, .slice none 0 0, .string ⟨#[]⟩, .int .i64 0, .string ⟨#[]⟩, .int .i64 0] 121) := ⟨_, rfl⟩
  have hb : Below W.heap.size W W1 := by rw [hW1]; exact ((Below.refl _ _).alloc (Nat.le_refl _) _).alloc (by simp) _
  have hs : W1.heap.size = W.heap.size + 2 := by rw [hW1]; simp
  have hz : W1.heap[W.heap.size]? = some (.cells #[.int .i64 0, .slice none 0 0, .slice none 0 0, .string ⟨#[]⟩, .int .i64 0, .string ⟨#[]⟩, .int .i64 0] 121 (0, 0)) := by
    rw [hW1]
    exact (((Below.refl _ _).alloc (Nat.le_refl _) (.cells #[.int .i64 3, .slice none 0 0, .slice none 0 0, .string ⟨#[]⟩, .int .i64 0, .string ⟨#[]⟩, .int .i64 0] 121)).block W.heap.size (by simp)).trans (Ak.heap_new _ _)
  have hm : W1.heap[W.heap.size + 1]? = some (.cells #[.int .i64 3, .slice none 0 0, .slice none 0 0, .string ⟨#[]⟩, .int .i64 0, .string ⟨#[]⟩, .int .i64 0] 121 (0, 0)) := by
    rw [hW1]
    have := Ak.heap_new (W.alloc (.cells #[.int .i64 0, .slice none 0 0, .slice none 0 0, .string ⟨#[]⟩, .int .i64 0, .string ⟨#[]⟩, .int .i64 0] 121)) (.cells #[.int .i64 3, .slice none 0 0, .slice none 0 0, .string ⟨#[]⟩, .int .i64 0, .string ⟨#[]⟩, .int .i64 0] 121)
    rwa [World.size_alloc] at this
  have CI := hide' (hno ▸ akIs W1 P qv wv n ws at_ op mo (h0.below hb) ⟨#[64]⟩)
  have CT := hide' (fun (w : World) (hp : Ak.Ps w P qv wv n ws at_ op mo) => akAttr w P qv wv n ws en at_ op mo hp hg)
  obtain ⟨J, hJ⟩ : ∃ J, Ak.someR n ws wi at_ = J := ⟨_, rfl⟩
  rw [hJ]
  unfold Ak.someR at hJ
  rw [if_pos hno] at hJ
  obtain ⟨R, hR⟩ : ∃ R, Ak.attrR n ws at_ = R := ⟨_, rfl⟩
  rw [hR] at hJ
  rw [hR] at CT
  have H0 := hide' h0
  have HW1 := hide' hW1
  have HB := hide' hb
  have HZ := hide' hz
  have HM := hide' hm
  have hPl : P < W.heap.size := h0.c.lt
  obtain ⟨N, hN⟩ : ∃ N, W.heap.size = N := ⟨_, rfl⟩
  clear hW1 hb hz hm h0 hg hR hno
  cases R with
  | bad a why =>
    obtain rfl : J = .bad a why := hJ.symm
    clear hJ
    go_enter Tryz.func147, Tryz.ntmps147
    go_wp2_with fail
    change Calls _ _ _ ((W.alloc (.cells #[.int .i64 0, .slice none 0 0, .slice none 0 0, .string ⟨#[]⟩, .int .i64 0, .string ⟨#[]⟩, .int .i64 0] 121)).alloc (.cells #[.int .i64 3, .slice none 0 0, .slice none 0 0, .string ⟨#[]⟩, .int .i64 0, .string ⟨#[]⟩, .int .i64 0] 121)) _
    rw [← HW1.out]
    refine CI.out.mono ?_
    rintro e w4 ⟨rfl, hb4⟩
    go_wp2_with fail
    refine (akHere w4).mono ?_
    rintro e w5 ⟨rfl, hb5⟩
    unfold Ak.stC
    have hs4 := hb4.size
    have hs5 := hb5.size
    obtain ⟨K, hK⟩ : ∃ K, w5.heap.size = K := ⟨_, rfl⟩
    have hbk : Below w5.heap.size w5 (w5.alloc (.cells #[.int .i64 3, .int .i64 3, .string ⟨#[]⟩, .slice none 0 0] 61)) := (Below.refl _ _).alloc (Nat.le_refl _) _
    have hbb : Below W1.heap.size W1 (w5.alloc (.cells #[.int .i64 3, .int .i64 3, .string ⟨#[]⟩, .slice none 0 0] 61)) := (hb4.trans (hb5.mono hs4)).trans (hbk.mono (by omega))
    have HB6 := hide' ((Ak.Pb.of_below (b := P) HB.out).trans (.of_below hbb))
    have HP6 := hide' ((H0.out.below HB.out).below hbb)
    have HZ6 := hide' ((hbb.block N (by omega)).trans (hN ▸ HZ.out))
    have HM6 := hide' ((hbb.block (N + 1) (by omega)).trans (hN ▸ HM.out))
    have HL6 := hide' (hK ▸ Ak.LS.one (B := N + 2) (w := w5) (y := .mk 3 3 ⟨#[]⟩ none 0 []) (cs := #[.int .i64 3, .int .i64 3, .string ⟨#[]⟩, .slice none 0 0]) (Ak.OkS.of (Ak.RowX.nil w5)) (fun b hb => by simp [Ak.fS, Ak.pb, Ak.fXs] at hb) rfl (by omega))
    have s6 : (w5.alloc (.cells #[.int .i64 3, .int .i64 3, .string ⟨#[]⟩, .slice none 0 0] 61)).heap.size = K + 1 := by simp [hK]
    clear hb4 hb5 hbk hbb CI
    go_wp2_with fail
    refine (CT.out _ HP6.out).mono ?_
    rintro e w7 hv
    obtain ⟨d, rfl, h1, h2, h3⟩ := hv
    have HV := hide' (Ak.PrE.of_bad (qv := qv) (wv := wv) (op := op) (mo := mo) (V := Ak.XV N) (Ak.GvE.pre ⟨d, rfl, h1, h2, h3⟩ HB6.out))
    clear h1 h2 h3
    go_wp2_with fail
    exact ⟨rfl, HV.out⟩
  | ok r a =>
    obtain rfl : J = .ok (.mk 3 [] [Ak.hereP] r 0 ⟨#[]⟩ 0) a := hJ.symm
    clear hJ
    go_enter Tryz.func147, Tryz.ntmps147
    go_wp2_with fail
    change Calls _ _ _ ((W.alloc (.cells #[.int .i64 0, .slice none 0 0, .slice none 0 0, .string ⟨#[]⟩, .int .i64 0, .string ⟨#[]⟩, .int .i64 0] 121)).alloc (.cells #[.int .i64 3, .slice none 0 0, .slice none 0 0, .string ⟨#[]⟩, .int .i64 0, .string ⟨#[]⟩, .int .i64 0] 121)) _
    rw [← HW1.out]
    refine CI.out.mono ?_
    rintro e w4 ⟨rfl, hb4⟩
    go_wp2_with fail
    refine (akHere w4).mono ?_
    rintro e w5 ⟨rfl, hb5⟩
    unfold Ak.stC
    have hs4 := hb4.size
    have hs5 := hb5.size
    obtain ⟨K, hK⟩ : ∃ K, w5.heap.size = K := ⟨_, rfl⟩
    have hbk : Below w5.heap.size w5 (w5.alloc (.cells #[.int .i64 3, .int .i64 3, .string ⟨#[]⟩, .slice none 0 0] 61)) := (Below.refl _ _).alloc (Nat.le_refl _) _
    have hbb : Below W1.heap.size W1 (w5.alloc (.cells #[.int .i64 3, .int .i64 3, .string ⟨#[]⟩, .slice none 0 0] 61)) := (hb4.trans (hb5.mono hs4)).trans (hbk.mono (by omega))
    have HB6 := hide' ((Ak.Pb.of_below (b := P) HB.out).trans (.of_below hbb))
    have HP6 := hide' ((H0.out.below HB.out).below hbb)
    have HZ6 := hide' ((hbb.block N (by omega)).trans (hN ▸ HZ.out))
    have HM6 := hide' ((hbb.block (N + 1) (by omega)).trans (hN ▸ HM.out))
    have HL6 := hide' (hK ▸ Ak.LS.one (B := N + 2) (w := w5) (y := .mk 3 3 ⟨#[]⟩ none 0 []) (cs := #[.int .i64 3, .int .i64 3, .string ⟨#[]⟩, .slice none 0 0]) (Ak.OkS.of (Ak.RowX.nil w5)) (fun b hb => by simp [Ak.fS, Ak.pb, Ak.fXs] at hb) rfl (by omega))
    have s6 : (w5.alloc (.cells #[.int .i64 3, .int .i64 3, .string ⟨#[]⟩, .slice none 0 0] 61)).heap.size = K + 1 := by simp [hK]
    clear hb4 hb5 hbk hbb CI
    go_wp2_with fail
    refine (CT.out _ HP6.out).mono ?_
    rintro e w7 ⟨v, rfl, rfl, hb7, hp7⟩
    have hz5 := (hb7.block N (by omega) (by omega)).trans HZ6.out
    have hm5 := (hb7.block (N + 1) (by omega) (by omega)).trans HM6.out
    have m0 : w7.cell? ⟨N + 1, 0, none⟩ = some (.int .i64 3) := by rw [Lib.cell_of_heap hm5]; rfl
    have mf0 : w7.frozen? ⟨N + 1, 0, none⟩ = false := Lib.frozen_of_heap hm5 0
    have m1 : w7.cell? ⟨N + 1, 1, none⟩ = some (.slice none 0 0) := by rw [Lib.cell_of_heap hm5]; rfl
    have mf1 : w7.frozen? ⟨N + 1, 1, none⟩ = false := Lib.frozen_of_heap hm5 1
    have m2 : w7.cell? ⟨N + 1, 2, none⟩ = some (.slice none 0 0) := by rw [Lib.cell_of_heap hm5]; rfl
    have mf2 : w7.frozen? ⟨N + 1, 2, none⟩ = false := Lib.frozen_of_heap hm5 2
    have m3 : w7.cell? ⟨N + 1, 3, none⟩ = some (.string ⟨#[]⟩) := by rw [Lib.cell_of_heap hm5]; rfl
    have mf3 : w7.frozen? ⟨N + 1, 3, none⟩ = false := Lib.frozen_of_heap hm5 3
    have m4 : w7.cell? ⟨N + 1, 4, none⟩ = some (.int .i64 0) := by rw [Lib.cell_of_heap hm5]; rfl
    have mf4 : w7.frozen? ⟨N + 1, 4, none⟩ = false := Lib.frozen_of_heap hm5 4
    have m5 : w7.cell? ⟨N + 1, 5, none⟩ = some (.string ⟨#[]⟩) := by rw [Lib.cell_of_heap hm5]; rfl
    have mf5 : w7.frozen? ⟨N + 1, 5, none⟩ = false := Lib.frozen_of_heap hm5 5
    have m6 : w7.cell? ⟨N + 1, 6, none⟩ = some (.int .i64 0) := by rw [Lib.cell_of_heap hm5]; rfl
    have mf6 : w7.frozen? ⟨N + 1, 6, none⟩ = false := Lib.frozen_of_heap hm5 6
    have hm6 := Go.Joins.block_setCell (i := 2) hm5 (.slice (some ⟨K, 0, none⟩) 1 1)
    simp only [List.setIfInBounds_toArray, List.set_cons_succ, List.set_cons_zero] at hm6
    have hm7 := Go.Joins.block_setCell (i := 3) hm6 (.string r)
    simp only [List.setIfInBounds_toArray, List.set_cons_succ, List.set_cons_zero] at hm7
    have hz7 := (Below.heap_setCell (w7.setCell ⟨N + 1, 2, none⟩ (.slice (some ⟨K, 0, none⟩) 1 1)) ⟨N + 1, 3, none⟩ (.string r) N (by show N ≠ N + 1; omega)).trans ((Below.heap_setCell w7 ⟨N + 1, 2, none⟩ (.slice (some ⟨K, 0, none⟩) 1 1) N (by show N ≠ N + 1; omega)).trans hz5)
    have z0 : w7.cell? ⟨N, 0, none⟩ = some (.int .i64 0) := by rw [Lib.cell_of_heap hz5]; rfl
    have zf0 : w7.frozen? ⟨N, 0, none⟩ = false := Lib.frozen_of_heap hz5 0
    have z1 : w7.cell? ⟨N, 1, none⟩ = some (.slice none 0 0) := by rw [Lib.cell_of_heap hz5]; rfl
    have zf1 : w7.frozen? ⟨N, 1, none⟩ = false := Lib.frozen_of_heap hz5 1
    have z2 : w7.cell? ⟨N, 2, none⟩ = some (.slice none 0 0) := by rw [Lib.cell_of_heap hz5]; rfl
    have zf2 : w7.frozen? ⟨N, 2, none⟩ = false := Lib.frozen_of_heap hz5 2
    have z3 : w7.cell? ⟨N, 3, none⟩ = some (.string ⟨#[]⟩) := by rw [Lib.cell_of_heap hz5]; rfl
    have zf3 : w7.frozen? ⟨N, 3, none⟩ = false := Lib.frozen_of_heap hz5 3
    have z4 : w7.cell? ⟨N, 4, none⟩ = some (.int .i64 0) := by rw [Lib.cell_of_heap hz5]; rfl
    have zf4 : w7.frozen? ⟨N, 4, none⟩ = false := Lib.frozen_of_heap hz5 4
    have z5 : w7.cell? ⟨N, 5, none⟩ = some (.string ⟨#[]⟩) := by rw [Lib.cell_of_heap hz5]; rfl
    have zf5 : w7.frozen? ⟨N, 5, none⟩ = false := Lib.frozen_of_heap hz5 5
    have z6 : w7.cell? ⟨N, 6, none⟩ = some (.int .i64 0) := by rw [Lib.cell_of_heap hz5]; rfl
    have zf6 : w7.frozen? ⟨N, 6, none⟩ = false := Lib.frozen_of_heap hz5 6
    have HZ7 := hide' hz7
    have HB7 := hide' (((HB6.out.trans hb7).far (N := N + 1) (by omega) 2 (.slice (some ⟨K, 0, none⟩) 1 1)).far (N := N + 1) (by omega) 3 (.string r))
    have HC7 := hide' ((hp7.c.far (N := N + 1) (by omega) 2 (.slice (some ⟨K, 0, none⟩) 1 1)).far (N := N + 1) (by omega) 3 (.string r))
    have HP5 := hide' hp7
    have HL := hide' (HL6.out.keepP hb7 (by omega))
    clear hm5 hm6 hm7 hz5 hz7 hb7 hp7
    have hPN : P ≠ N := by omega
    go_wp2_with fail
    have hWN : W.heap.size ≤ N := by omega
    obtain ⟨f1, f2, f3⟩ := Ak.far7e HB7.out hWN HC7.out hPN (.int .i64 3) (.slice none 0 0) (.slice (some ⟨K, 0, none⟩) 1 1) (.string r) (.int .i64 0) (.string ⟨#[]⟩) (.int .i64 0)
    have l7 := Ak.load7e HZ7.out (.int .i64 3) (.slice none 0 0) (.slice (some ⟨K, 0, none⟩) 1 1) (.string r) (.int .i64 0) (.string ⟨#[]⟩) (.int .i64 0)
    revert f1 f2 f3 l7
    generalize World.setCell _ ⟨N, 6, none⟩ (.int .i64 0) = WF
    intro f1 f2 f3 l7
    refine bodyPost_ret (Ak.results_cell Tryz.results147 _ ⟨N, 0, none⟩ rfl _ _ l7) rfl ?_
    refine Ak.PrE.of_ok ?_ f1 (H0.out.go f1 f2 HP5.out.atn HP5.out.opm)
    rw [show [Ak.hereP] = Ak.cSs [.mk 3 3 ⟨#[]⟩ none 0 []] by simp [Ak.cSs, Ak.cS, Ak.cXs, Ak.hereP]]
    exact (Ak.XV.some HL.out (fun a v ha e => (World.cell?_of_block ((f3 a.block (by omega)).trans ((Below.heap_setCell _ ⟨N + 1, 3, none⟩ _ a.block (by show a.block ≠ N + 1; omega)).trans (Below.heap_setCell w7 ⟨N + 1, 2, none⟩ _ a.block (by show a.block ≠ N + 1; omega))))).trans e) r).mono (by omega)
end Go.Proofs.YtcnagbkdckipnaaGreatDoor
/-
  An expression in memory whose comparison is written anew; what string-length's brackets come to.
-/
namespace Go.Proofs.YtcnagbkdckipnaaGreatDoor
open Go.RowKit Go.Lib
theorem woNum (W : World) (k : Int) (tx : ByteArray) (nu p0 p1 p2 p3 : Int) : (Instr.field 86 (.agg #[.int .i64 k, .string tx, .int .i64 nu, .int .i64 p0, .int .i64 p1, .int .i64 p2, .int .i64 p3]) 2).run Tryz.prog W = .ok (.int .i64 nu) W := by kernel_rfl
namespace Ak
/-- what stands behind the name string-length -/
def lenR (n : Nat) (ws : Nat → Wo) (wi : RX) (i : Nat) : Res Xp :=
  (wi i).bind fun x a => match cmF n ws a 6 3 with
    | some c => (takeR n ws (a + 1) 2).bind fun w a => .ok (cmpN c w.nu x) a
    | none => .bad a 105
theorem cmpX {B : Nat} {x : Xp} {v : Value} {w : World} (h : XV B x v w) : ∃ (o : Int) (p : Option Addr) (l c : Nat) (sp : Option Addr) (sl sc : Nat) (aa : ByteArray) (cm : Int) (tx : ByteArray) (nu : Int), v = .agg #[.int .i64 o, .slice p l c, .slice sp sl sc, .string aa, .int .i64 cm, .string tx, .int .i64 nu] ∧
    ∀ w' : World, (∀ (a : Addr) v, B ≤ a.block → w.cell? a = some v → w'.cell? a = some v) →
      XV B x (.agg #[.int .i64 o, .slice p l c, .slice sp sl sc, .string aa, .int .i64 cm, .string tx, .int .i64 nu]) w' ∧
      (∀ (k : Nat) t, XV B (cmpT k t x) (.agg #[.int .i64 o, .slice p l c, .slice sp sl sc, .string aa, .int .i64 (k : Nat), .string t, .int .i64 nu]) w') ∧ (∀ (k : Nat) z, XV B (cmpN k z x) (.agg #[.int .i64 o, .slice p l c, .slice sp sl sc, .string aa, .int .i64 (k : Nat), .string tx, .int .i64 z]) w') := by
  obtain ⟨⟨op, p, c, ar, sp, sc, st, aa, cm, tx, nu⟩, h1, rfl, h3, h4⟩ := h
  refine ⟨op, p, ar.length, c, sp, st.length, sc, aa, cm, tx, nu, rfl, fun w' hk => ?_⟩
  have h5 := h3.imp (w' := w') _ fun a v ha e => hk a v (h4 _ ha) e
  refine ⟨⟨_, h1, rfl, h5, h4⟩, fun k t => ⟨.mk op p c ar sp sc st aa k t nu, ?_, rfl, ?_, ?_⟩, fun k z => ⟨.mk op p c ar sp sc st aa k tx z, ?_, rfl, ?_, ?_⟩⟩
  · rw [← h1]; simp [cX, cmpT]
  · unfold OkX at h5 ⊢; exact h5
  · unfold fX at h4 ⊢; exact h4
  · rw [← h1]; simp [cX, cmpN]
  · unfold OkX at h5 ⊢; exact h5
  · unfold fX at h4 ⊢; exact h4
/-- a field of a block of one's own, and where else it leaves things as they are -/
theorem set_else {w : World} {N i : Nat} {v : Value} {k : Nat} (hk : k ≠ N) : (w.setCell ⟨N, i, none⟩ v).heap[k]? = w.heap[k]? := Below.heap_setCell w ⟨N, i, none⟩ v k hk
end Ak
end Go.Proofs.YtcnagbkdckipnaaGreatDoor
