/-
  THE WALK over gimletlaw10.LexisWords: a query that is no words.
-/
import Derived.Test.YtoccedbnnafjcaaDoorLxRwV
import Derived.BigGuard
namespace Go.Proofs.YtoccedbnnafjcaaDoor
open Go.RowKit Go.Lib
set_option maxRecDepth 1000000 in
set_option maxHeartbeats 8000000 in
theorem lawWords_bad (f : Nat → Nat) (n : Nat) (v : Value) (w : World) (hT : Lib.Utf8Tabs 1 2 w) (hS : Spans w) (hG : Signs w) (hE : Er.ETab w) (a : Nat) (why : Int) (hx : Lx.flt f n = some (a, why)) (hf : ∀ j, f j < 256) (hn : n ≤ 1048576) (hq : ArgS w f n v) :
    Calls Tryd.prog 3 #[v] w fun e w' => e = .returned (.bool true) ∧ Below w.heap.size w w' := by
  have cA := lxAwake_any w hT hS hG
  have cQ : ∀ W v, Below w.heap.size w W → ArgS W f n v → _ := fun W v hb h => words_arg f n v W (tabs_below hT hb (Nat.le_refl _)) (hS.below hb (Nat.le_refl _)) (hG.below hb (Nat.le_refl _)) hf (by omega) h
  have CQ := hide' cQ
  have HQ := hide' hq
  obtain ⟨pa, cq, rfl, q1, q2, _, _⟩ := arg_parts hq
  have q3 : cq ≤ 9223372036854775807 := by unfold maxLen at q2; omega
  have hx := hide' hx
  have HE := hide' hE
  clear hE
  clear hT hS hG cQ hq q2
  go_enter Tryd.func3, Tryd.ntmps3
  go_wp2_with fail
  refine cA.mono ?_
  rintro e w1 ⟨rfl, hb1⟩
  have hA1 := HQ.out.below (hb1.alloc hb1.size (.cells #[] 5)) (Nat.le_refl _)
  clear cA
  go_wp2_with (at_builtin; refine append_argS rfl _ _ rfl w1.heap.size _ _ 0 n [] f rfl (owns_none w1) rfl hA1 (by omega) (by simp) ?_)
  intro v1 w2 hown hgrow
  have hB12 : Below w1.heap.size w1 w2 := ((Below.refl w1.heap.size w1).alloc (Nat.le_refl _) _).grown hgrow (by simp) (fun k hk => by simp [Value.ownBlock] at hk; omega)
  have hown2 : w2.ownsRow w1.heap.size 5 1 v1 n (bs f n) := by simpa using hown
  clear hgrow hown hA1
  have hs12 := hB12.size
  go_wp2_with (at_builtin; refine append_argS rfl _ _ rfl w1.heap.size _ _ n 1 (bs f n) (fun _ => 71) rfl (hown2.alloc _) rfl (Lx.arg_one w2) (by omega) (by simp; omega) ?_)
  intro v2 w3 hown hgrow
  rw [Lx.bs_qx] at hown
  have hB3 : Below w.heap.size w w3 := hb1.trans (((hB12.alloc (by omega) _).grown hgrow (by simp; omega) (fun k hk => (hown2.lt k hk).1)).mono hb1.size)
  obtain ⟨g, cap, rfl, hBq⟩ := Lx.Bq.of hown
  have b1 := hBq.le
  have b2 : cap ≤ 9223372036854775807 := by have := hBq.mx; unfold maxLen at this; omega
  have b3 : (n : Int) ≤ (cap : Int) := by omega
  have hgw : w.heap.size ≤ g := Nat.le_trans hb1.size hBq.lo
  have cW := CQ.out w3 _ hB3 hBq.arg
  have HB3 := hide' hB3
  have HQ3 := hide' hBq
  clear hgrow hown hown2 hB12 hs12 hb1 hB3 hBq
  go_wp2_with fail
  refine cW.mono ?_
  clear cW
  intro e w4 hE
  obtain ⟨d, rfl, hd, hF4, hb4⟩ := Lx.words_bad hx.out hE
  have hB4 := HB3.out.trans (hb4.mono HB3.out.size)
  have cW := CQ.out w4 _ hB4 (HQ3.out.below hb4 (Nat.le_refl _)).arg
  have HB4 := hide' hB4
  have HQ4 := hide' (HQ3.out.below hb4 (Nat.le_refl _))
  have HF4 := hide' (And.intro hd hF4)
  clear hE hb4 hB4 HB3 HQ3 hd hF4
  go_wp2_with fail
  refine cW.mono ?_
  clear cW
  intro e w5 hE
  obtain ⟨d2, rfl, hd2, hF5, hb5⟩ := Lx.words_bad hx.out hE
  have hB5 := HB4.out.trans (hb5.mono HB4.out.size)
  have cR := refWords10 f n (.slice pa n cq) w5 hf (by omega) (HQ.out.below hB5 (Nat.le_refl _))
  have hdl : d < w4.heap.size := (Array.getElem?_eq_some_iff.1 HF4.out.2).1
  have HF5 := hide' (show Lx.FaultAt w5 d a f n why from (hb5.block d hdl).trans HF4.out.2)
  have HB5 := hide' hB5
  have HQ5 := hide' (HQ4.out.below hb5 (Nat.le_refl _))
  clear hE hb5 hB5 HB4 HQ4 hF5 hd2 HF4 hdl
  go_wp2_with fail
  refine cR.mono ?_
  clear cR
  intro e w6 hE
  obtain ⟨rfl, hb6⟩ := Lx.ref_bad hx.out hE
  have hB6 := HB5.out.trans (hb6.mono HB5.out.size)
  have hdl : d < w5.heap.size := (Array.getElem?_eq_some_iff.1 HF5.out).1
  have HF6 := hide' (show Lx.FaultAt w6 d a f n why from (hb6.block d hdl).trans HF5.out)
  have HB6 := hide' hB6
  have HQ6 := hide' (HQ5.out.below hb6 (Nat.le_refl _))
  clear hE hb6 hB6 HB5 HQ5 HF5 hdl
  obtain ⟨z1, h1⟩ : ∃ z1, (Rn.plc f n a).1 = z1 := ⟨_, rfl⟩
  obtain ⟨z2, h2⟩ : ∃ z2, (Rn.plc f n a).2.1 = z2 := ⟨_, rfl⟩
  obtain ⟨z3, h3⟩ : ∃ z3, (Rn.plc f n a).2.2 = z3 := ⟨_, rfl⟩
  obtain ⟨W7, hW7⟩ : ∃ W7, W7 = w6.alloc (.cells #[.int .i64 (a : Nat), .int .i64 (z1 : Nat), .int .i64 (z2 : Nat), .int .i64 (z3 : Nat)] 30) := ⟨_, rfl⟩
  have hb7 : Below w6.heap.size w6 W7 := by rw [hW7]; exact (Below.refl _ _).alloc (Nat.le_refl _) _
  have hP7 : W7.heap[w6.heap.size]? = some (.cells #[.int .i64 (a : Nat), .int .i64 (z1 : Nat), .int .i64 (z2 : Nat), .int .i64 (z3 : Nat)] 30 (0, 0)) := by rw [hW7]; exact Er.heap_new _ _
  have hdl : d < w6.heap.size := (Array.getElem?_eq_some_iff.1 HF6.out).1
  have hF7 : W7.heap[d]? = some (.cells #[.int .i64 (a : Nat), .int .i64 (z1 : Nat), .int .i64 (z2 : Nat), .int .i64 (z3 : Nat), .int .i64 why] 40 (0, 0)) := by
    have h := HF6.out
    unfold Lx.FaultAt at h
    rw [h1, h2, h3] at h
    exact (hb7.block d hdl).trans h
  have hB7 := HB6.out.trans (hb7.mono HB6.out.size)
  have hQ7 := HQ6.out.below hb7 (Nat.le_refl _)
  unfold Lx.plA
  rw [h1, h2, h3]
  have hW := hide' hW7
  clear h1 h2 h3 hW7
  go_wp2_with fail
  rw [← hW.out]
  have cK : ∀ j, Calls Tryd.prog 10 #[.slice none 0 0, .slice none 0 0, .bool true] (W7.drewN j) fun e w' => e = .returned (.bool true) ∧ ∃ q, w' = (W7.drewN j).drewN q := fun j => lxAlikeQ _ _ 0 (fun _ => ⟨0, ⟨#[]⟩, 0, 0, 0, 0, 0⟩) _ (Lx.wrow_nil _ _) (Lx.wrow_nil _ _)
  have kb := fun j => (hQ7.arg.below (below_drewN (Below.refl W7.heap.size W7) j) (Nat.le_refl _)).text hf
  have kq := fun j => ((HQ.out.below hB7 (Nat.le_refl _)).below (below_drewN (Below.refl W7.heap.size W7) j) (Nat.le_refl _)).text hf
  have cl := hQ7.last
  have hw0 : (why == 0) = false := by rcases Lx.flt_why hx.out with h | h <;> rw [h] <;> rfl
  have t1 : (n : Int) < (n : Int) + 1 := by omega
  have H7 := hide' (And.intro hP7 (And.intro hF7 (And.intro hB7 hQ7)))
  clear hW HF6 HB6 HQ6 hb7 hP7 hF7 hB7 hQ7
  go_quiet (first | (go_at_call 10; with_reducible refine Calls.quiet_of (cK _)))
  clear cK kb kq cl
  go_wp2_with fail
  obtain ⟨hP7, hF7, hB7, hQ7⟩ := H7.out
  obtain ⟨W8, hW8⟩ : ∃ W8, W8 = (W7.drewN nq).alloc (.cells #[.pointer none] 34) := ⟨_, rfl⟩
  have hb8 : Below W7.heap.size W7 W8 := by rw [hW8]; exact (below_drewN (Below.refl _ _) nq).alloc (Nat.le_refl _) _
  have hX8 : W8.heap[W7.heap.size]? = some (.cells #[.pointer none] 34 (0, 0)) := by rw [hW8]; exact Er.heap_new (W7.drewN nq) _
  have hPl : w6.heap.size < W7.heap.size := (Array.getElem?_eq_some_iff.1 hP7).1
  have hdl7 : d < W7.heap.size := (Array.getElem?_eq_some_iff.1 hF7).1
  have hP8 := (hb8.block _ hPl).trans hP7
  have hF8 := (hb8.block _ hdl7).trans hF7
  have hB8 := hB7.trans (hb8.mono hB7.size)
  rw [← hW8]
  have hE8 : Er.ETab W8 := (hB8.cell (p := ⟨0, 0, none⟩) (block_lt_of_cell HE.out)).trans HE.out
  have hwy : Er.isE why why = true ∧ Er.isE 100 why = true := by rcases Lx.flt_why hx.out with h | h <;> rw [h] <;> decide
  have cI := errorsIs_any d a z1 z2 z3 why why W8.drew hF8
  have cJ := errorsIs_any d a z1 z2 z3 why 100 W8.drew hF8
  rw [hwy.1] at cI
  rw [hwy.2] at cJ
  obtain ⟨F, hFe⟩ : ∃ F, F = W7.heap.size := ⟨_, rfl⟩
  obtain ⟨P, hPe⟩ : ∃ P, P = w6.heap.size := ⟨_, rfl⟩
  rw [← hFe] at hX8 hPl hdl7 ⊢
  rw [← hPe] at hPl hP8 ⊢
  have cS := errorsAs_P d F (.pointer none) W8.drew hE8 hX8
  have hwF : w.heap.size ≤ F := by rw [hFe]; exact hB7.size
  have CI := hide' cI
  have CJ := hide' cJ
  have CS := hide' cS
  have H8 := hide' (And.intro hP8 (And.intro hF8 (And.intro hB8 (And.intro hPl (And.intro hdl7 hwF)))))
  clear hP7 hF7 hB7 hQ7 H7 hW8 hb8 hX8 hPl hdl7 hP8 hF8 hB8 hE8 cI cJ cS hFe hPe hdl hwF HE hwy
  refine wp_region_held_drew (S := fun _ => True) (by kernel_rfl) trivial (fun hHeld => ?_)
  simp only [List.size_toArray, List.length_cons, List.length_nil, Nat.reduceAdd]
  obtain ⟨W0, hW0⟩ : ∃ W0, W0 = W8.drew := ⟨_, rfl⟩
  rw [← hW0] at CI CJ CS ⊢
  have HW0 := hide' hW0
  clear hW0
  refine wpAnyH_take (i := 0) (v := .iface 34 (.pointer (some ⟨d, 0, none⟩))) rfl (by kernel_rfl) (by kernel_rfl) (by kernel_rfl) (fun _ _ _ h => h) (Or.inl ⟨by rfl, ?y0⟩) (by assumption) ?_
  case y0 => (intro w' hSw; go_simp; (try rfl))
  try simp only [List.getElem_toArray, List.getElem_cons_zero, Act.put, List.setIfInBounds_toArray, List.set_cons_zero, List.set_cons_succ]
  refine wpAnyH_take (i := 1) (v := .int .i64 why) rfl (by kernel_rfl) (by kernel_rfl) (by kernel_rfl) (fun _ _ _ h => h) (Or.inl ⟨by rfl, ?y1⟩) (by assumption) ?_
  case y1 => (intro w' hSw; go_simp; (try rfl))
  try simp only [List.getElem_toArray, List.getElem_cons_zero, List.getElem_cons_succ, Act.put, List.setIfInBounds_toArray, List.set_cons_zero, List.set_cons_succ]
  refine wpAnyH_take (i := 2) (v := .iface 36 (.int .i64 why)) rfl (by kernel_rfl) (by kernel_rfl) (by kernel_rfl) (fun _ _ _ h => h) (Or.inl ⟨by rfl, ?y2⟩) (by assumption) ?_
  case y2 => (intro w' hSw; go_simp; (try rfl))
  try simp only [List.getElem_toArray, List.getElem_cons_zero, List.getElem_cons_succ, Act.put, List.setIfInBounds_toArray, List.set_cons_zero, List.set_cons_succ]
  refine wpAnyH_ready (rs := [3]) (by kernel_rfl) (by simp) ?_
  refine AllReadyH.cons rfl (fun K hK => ?_) AllReadyH.nil
  try simp only [List.getElem_toArray, List.getElem_cons_zero, List.getElem_cons_succ]
  go_simp
  refine CI.out.mono ?_
  rintro e W9 ⟨rfl, hw⟩
  rw [hw]
  clear hw W9
  clear CI
  go_wp2_with fail
  refine hK.out _ _ trivial (fun hHeld => ?_)
  clear hK K
  try simp only [List.getElem_toArray, List.getElem_cons_zero, List.getElem_cons_succ, Act.put, List.setIfInBounds_toArray, List.set_cons_zero, List.set_cons_succ]
  refine wpAnyH_take (i := 4) (v := .bool true) rfl (by kernel_rfl) (by kernel_rfl) (by kernel_rfl) (fun _ _ _ h => h) (Or.inl ⟨by rfl, ?y4⟩) (by assumption) ?_
  case y4 => (intro w' hSw; go_simp; (try rfl))
  try simp only [List.getElem_toArray, List.getElem_cons_zero, List.getElem_cons_succ, Act.put, List.setIfInBounds_toArray, List.set_cons_zero, List.set_cons_succ]
  refine wpAnyH_take (i := 5) (v := .iface 34 (.pointer (some ⟨d, 0, none⟩))) rfl (by kernel_rfl) (by kernel_rfl) (by kernel_rfl) (fun _ _ _ h => h) (Or.inl ⟨by rfl, ?y5⟩) (by assumption) ?_
  case y5 => (intro w' hSw; go_simp; (try rfl))
  try simp only [List.getElem_toArray, List.getElem_cons_zero, List.getElem_cons_succ, Act.put, List.setIfInBounds_toArray, List.set_cons_zero, List.set_cons_succ]
  refine wpAnyH_take (i := 6) (v := .iface 36 (.int .i64 100)) rfl (by kernel_rfl) (by kernel_rfl) (by kernel_rfl) (fun _ _ _ h => h) (Or.inl ⟨by rfl, ?y6⟩) (by assumption) ?_
  case y6 => (intro w' hSw; go_simp; (try rfl))
  try simp only [List.getElem_toArray, List.getElem_cons_zero, List.getElem_cons_succ, Act.put, List.setIfInBounds_toArray, List.set_cons_zero, List.set_cons_succ]
  refine wpAnyH_ready (rs := [7]) (by kernel_rfl) (by simp) ?_
  refine AllReadyH.cons rfl (fun K hK => ?_) AllReadyH.nil
  try simp only [List.getElem_toArray, List.getElem_cons_zero, List.getElem_cons_succ]
  go_simp
  refine CJ.out.mono ?_
  rintro e W9 ⟨rfl, hw⟩
  rw [hw]
  clear hw W9
  clear CJ
  go_wp2_with fail
  refine hK.out _ _ trivial (fun hHeld => ?_)
  clear hK K
  try simp only [List.getElem_toArray, List.getElem_cons_zero, List.getElem_cons_succ, Act.put, List.setIfInBounds_toArray, List.set_cons_zero, List.set_cons_succ]
  refine wpAnyH_take (i := 8) (v := .bool true) rfl (by kernel_rfl) (by kernel_rfl) (by kernel_rfl) (fun _ _ _ h => h) (Or.inl ⟨by rfl, ?y8⟩) (by assumption) ?_
  case y8 => (intro w' hSw; go_simp; (try rfl))
  try simp only [List.getElem_toArray, List.getElem_cons_zero, List.getElem_cons_succ, Act.put, List.setIfInBounds_toArray, List.set_cons_zero, List.set_cons_succ]
  refine wpAnyH_take (i := 9) (v := .bool true) rfl (by kernel_rfl) (by kernel_rfl) (by kernel_rfl) (fun _ _ _ h => h) (Or.inl ⟨by rfl, ?y9⟩) (by assumption) ?_
  case y9 => (intro w' hSw; go_simp; (try rfl))
  try simp only [List.getElem_toArray, List.getElem_cons_zero, List.getElem_cons_succ, Act.put, List.setIfInBounds_toArray, List.set_cons_zero, List.set_cons_succ]
  refine wpAnyH_take (i := 10) (v := .iface 34 (.pointer (some ⟨d, 0, none⟩))) rfl (by kernel_rfl) (by kernel_rfl) (by kernel_rfl) (fun _ _ _ h => h) (Or.inl ⟨by rfl, ?y10⟩) (by assumption) ?_
  case y10 => (intro w' hSw; go_simp; (try rfl))
  try simp only [List.getElem_toArray, List.getElem_cons_zero, List.getElem_cons_succ, Act.put, List.setIfInBounds_toArray, List.set_cons_zero, List.set_cons_succ]
  refine wpAnyH_take (i := 11) (v := .iface 38 (.pointer (some ⟨F, 0, none⟩))) rfl (by kernel_rfl) (by kernel_rfl) (by kernel_rfl) (fun _ _ _ h => h) (Or.inl ⟨by rfl, ?y11⟩) (by assumption) ?_
  case y11 => (intro w' hSw; go_simp; (try rfl))
  try simp only [List.getElem_toArray, List.getElem_cons_zero, List.getElem_cons_succ, Act.put, List.setIfInBounds_toArray, List.set_cons_zero, List.set_cons_succ]
  refine wpAnyH_ready (rs := [12]) (by kernel_rfl) (by simp) ?_
  refine AllReadyH.cons rfl (fun K hK => ?_) AllReadyH.nil
  try simp only [List.getElem_toArray, List.getElem_cons_zero, List.getElem_cons_succ]
  go_simp
  refine CS.out.mono ?_
  rintro e W9 ⟨rfl, hF9, hB9⟩
  clear CS
  go_wp2_with fail
  refine hK.out _ _ trivial (fun _ => ?_)
  clear hK K hHeld
  try simp only [List.getElem_toArray, List.getElem_cons_zero, List.getElem_cons_succ, Act.put, List.setIfInBounds_toArray, List.set_cons_zero, List.set_cons_succ]
  obtain ⟨hP8, hF8, hB8, hPl, hdl7, hwF⟩ := H8.out
  rw [show W8.heap = W0.heap by rw [HW0.out]; rfl] at hP8 hF8
  have hP9 := (hB9.block P (Array.getElem?_eq_some_iff.1 hP8).1 (by omega)).trans hP8
  have hD9 := (hB9.block d (Array.getElem?_eq_some_iff.1 hF8).1 (by omega)).trans hF8
  have e0 : W9.cell? ⟨F, 0, none⟩ = some (.pointer (some ⟨d, 0, none⟩)) := by rw [Lib.cell_of_heap hF9]; rfl
  have e1 : W9.cell? ⟨d, 0, none⟩ = some (.int .i64 (a : Nat)) := by rw [Lib.cell_of_heap hD9]; rfl
  have e2 : W9.cell? ⟨d, 1, none⟩ = some (.int .i64 (z1 : Nat)) := by rw [Lib.cell_of_heap hD9]; rfl
  have e3 : W9.cell? ⟨d, 2, none⟩ = some (.int .i64 (z2 : Nat)) := by rw [Lib.cell_of_heap hD9]; rfl
  have e4 : W9.cell? ⟨d, 3, none⟩ = some (.int .i64 (z3 : Nat)) := by rw [Lib.cell_of_heap hD9]; rfl
  have e5 : W9.cell? ⟨d, 4, none⟩ = some (.int .i64 why) := by rw [Lib.cell_of_heap hD9]; rfl
  have e6 : W9.cell? ⟨P, 0, none⟩ = some (.int .i64 (a : Nat)) := by rw [Lib.cell_of_heap hP9]; rfl
  have e7 : W9.cell? ⟨P, 1, none⟩ = some (.int .i64 (z1 : Nat)) := by rw [Lib.cell_of_heap hP9]; rfl
  have e8 : W9.cell? ⟨P, 2, none⟩ = some (.int .i64 (z2 : Nat)) := by rw [Lib.cell_of_heap hP9]; rfl
  have e9 : W9.cell? ⟨P, 3, none⟩ = some (.int .i64 (z3 : Nat)) := by rw [Lib.cell_of_heap hP9]; rfl
  have hEnd : Below w.heap.size w W9 := by
    have h0 : Below w.heap.size w W0 := by rw [HW0.out]; exact hB8.drew
    refine ⟨hB9.os.trans h0.os, hB9.tape.trans h0.tape, hB9.output.trans h0.output, Nat.le_trans h0.size hB9.size, fun k hk => ?_⟩
    exact (hB9.block k (by have := h0.size; omega) (by omega)).trans (h0.block k hk)
  have HEND := hide' hEnd
  clear hP8 hF8 hB8 hPl hdl7 hwF hP9 hD9 hF9 hB9 hEnd HW0 H8
  refine Lx.wpAnyH_over (S' := fun w' => w' = W9) (fun _ _ => trivial) _ _ _ _ ?_
  have hHeld : W9 = W9 := rfl
  refine wpAnyH_take (i := 13) (v := .bool true) rfl (by kernel_rfl) (by kernel_rfl) (by kernel_rfl) (fun _ _ _ h => h) (Or.inl ⟨by rfl, ?y13⟩) (by assumption) ?_
  case y13 => (intro w' hSw; subst hSw; go_simp; (try rfl))
  try simp only [List.getElem_toArray, List.getElem_cons_zero, List.getElem_cons_succ, Act.put, List.setIfInBounds_toArray, List.set_cons_zero, List.set_cons_succ]
  refine wpAnyH_take (i := 14) (v := .bool true) rfl (by kernel_rfl) (by kernel_rfl) (by kernel_rfl) (fun _ _ _ h => h) (Or.inl ⟨by rfl, ?y14⟩) (by assumption) ?_
  case y14 => (intro w' hSw; subst hSw; go_simp; (try rfl))
  try simp only [List.getElem_toArray, List.getElem_cons_zero, List.getElem_cons_succ, Act.put, List.setIfInBounds_toArray, List.set_cons_zero, List.set_cons_succ]
  refine wpAnyH_take (i := 15) (v := .pointer (some ⟨d, 0, none⟩)) rfl (by kernel_rfl) (by kernel_rfl) (by kernel_rfl) (fun _ _ _ h => h) (Or.inl ⟨by rfl, ?y15⟩) (by assumption) ?_
  case y15 => (intro w' hSw; subst hSw; go_simp; (try rfl))
  try simp only [List.getElem_toArray, List.getElem_cons_zero, List.getElem_cons_succ, Act.put, List.setIfInBounds_toArray, List.set_cons_zero, List.set_cons_succ]
  refine wpAnyH_take (i := 16) (v := .bool true) rfl (by kernel_rfl) (by kernel_rfl) (by kernel_rfl) (fun _ _ _ h => h) (Or.inl ⟨by rfl, ?y16⟩) (by assumption) ?_
  case y16 => (intro w' hSw; subst hSw; go_simp; (try rfl))
  try simp only [List.getElem_toArray, List.getElem_cons_zero, List.getElem_cons_succ, Act.put, List.setIfInBounds_toArray, List.set_cons_zero, List.set_cons_succ]
  refine wpAnyH_take (i := 17) (v := .bool true) rfl (by kernel_rfl) (by kernel_rfl) (by kernel_rfl) (fun _ _ _ h => h) (Or.inl ⟨by rfl, ?y17⟩) (by assumption) ?_
  case y17 => (intro w' hSw; subst hSw; go_simp; (try rfl))
  try simp only [List.getElem_toArray, List.getElem_cons_zero, List.getElem_cons_succ, Act.put, List.setIfInBounds_toArray, List.set_cons_zero, List.set_cons_succ]
  refine wpAnyH_take (i := 18) (v := .bool true) rfl (by kernel_rfl) (by kernel_rfl) (by kernel_rfl) (fun _ _ _ h => h) (Or.inl ⟨by rfl, ?y18⟩) (by assumption) ?_
  case y18 => (intro w' hSw; subst hSw; go_simp; (try rfl))
  try simp only [List.getElem_toArray, List.getElem_cons_zero, List.getElem_cons_succ, Act.put, List.setIfInBounds_toArray, List.set_cons_zero, List.set_cons_succ]
  refine wpAnyH_take (i := 19) (v := .pointer (some ⟨d, 0, none⟩)) rfl (by kernel_rfl) (by kernel_rfl) (by kernel_rfl) (fun _ _ _ h => h) (Or.inl ⟨by rfl, ?y19⟩) (by assumption) ?_
  case y19 => (intro w' hSw; subst hSw; go_simp; (try rfl))
  try simp only [List.getElem_toArray, List.getElem_cons_zero, List.getElem_cons_succ, Act.put, List.setIfInBounds_toArray, List.set_cons_zero, List.set_cons_succ]
  refine wpAnyH_take (i := 20) (v := .pointer (some ⟨d, 0, none⟩)) rfl (by kernel_rfl) (by kernel_rfl) (by kernel_rfl) (fun _ _ _ h => h) (Or.inl ⟨by rfl, ?y20⟩) (by assumption) ?_
  case y20 => (intro w' hSw; subst hSw; go_simp; (try rfl))
  try simp only [List.getElem_toArray, List.getElem_cons_zero, List.getElem_cons_succ, Act.put, List.setIfInBounds_toArray, List.set_cons_zero, List.set_cons_succ]
  refine wpAnyH_take (i := 21) (v := .pointer (some ⟨d, 0, none⟩)) rfl (by kernel_rfl) (by kernel_rfl) (by kernel_rfl) (fun _ _ _ h => h) (Or.inl ⟨by rfl, ?y21⟩) (by assumption) ?_
  case y21 => (intro w' hSw; subst hSw; go_simp; (try rfl))
  try simp only [List.getElem_toArray, List.getElem_cons_zero, List.getElem_cons_succ, Act.put, List.setIfInBounds_toArray, List.set_cons_zero, List.set_cons_succ]
  refine wpAnyH_take (i := 22) (v := .agg #[.int .i64 (a : Nat), .int .i64 (z1 : Nat), .int .i64 (z2 : Nat), .int .i64 (z3 : Nat)]) rfl (by kernel_rfl) (by kernel_rfl) (by kernel_rfl) (fun _ _ _ h => h) (Or.inl ⟨by rfl, ?y22⟩) (by assumption) ?_
  case y22 => (intro w' hSw; subst hSw; go_simp; (try rfl))
  try simp only [List.getElem_toArray, List.getElem_cons_zero, List.getElem_cons_succ, Act.put, List.setIfInBounds_toArray, List.set_cons_zero, List.set_cons_succ]
  refine wpAnyH_take (i := 23) (v := .agg #[.int .i64 (a : Nat), .int .i64 (z1 : Nat), .int .i64 (z2 : Nat), .int .i64 (z3 : Nat)]) rfl (by kernel_rfl) (by kernel_rfl) (by kernel_rfl) (fun _ _ _ h => h) (Or.inl ⟨by rfl, ?y23⟩) (by assumption) ?_
  case y23 => (intro w' hSw; subst hSw; go_simp; (try rfl))
  try simp only [List.getElem_toArray, List.getElem_cons_zero, List.getElem_cons_succ, Act.put, List.setIfInBounds_toArray, List.set_cons_zero, List.set_cons_succ]
  refine wpAnyH_take (i := 24) (v := .bool true) rfl (by kernel_rfl) (by kernel_rfl) (by kernel_rfl) (fun _ _ _ h => h) (Or.inl ⟨by rfl, ?y24⟩) (by assumption) ?_
  case y24 => (intro w' hSw; subst hSw; go_simp; (try rfl))
  try simp only [List.getElem_toArray, List.getElem_cons_zero, List.getElem_cons_succ, Act.put, List.setIfInBounds_toArray, List.set_cons_zero, List.set_cons_succ]
  refine wpAnyH_take (i := 25) (v := .bool true) rfl (by kernel_rfl) (by kernel_rfl) (by kernel_rfl) (fun _ _ _ h => h) (Or.inl ⟨by rfl, ?y25⟩) (by assumption) ?_
  case y25 => (intro w' hSw; subst hSw; go_simp; (try rfl))
  try simp only [List.getElem_toArray, List.getElem_cons_zero, List.getElem_cons_succ, Act.put, List.setIfInBounds_toArray, List.set_cons_zero, List.set_cons_succ]
  refine wpAnyH_take (i := 26) (v := .bool true) rfl (by kernel_rfl) (by kernel_rfl) (by kernel_rfl) (fun _ _ _ h => h) (Or.inl ⟨by rfl, ?y26⟩) (by assumption) ?_
  case y26 => (intro w' hSw; subst hSw; go_simp; (try rfl))
  try simp only [List.getElem_toArray, List.getElem_cons_zero, List.getElem_cons_succ, Act.put, List.setIfInBounds_toArray, List.set_cons_zero, List.set_cons_succ]
  refine wpAnyH_take (i := 27) (v := .pointer (some ⟨d, 0, none⟩)) rfl (by kernel_rfl) (by kernel_rfl) (by kernel_rfl) (fun _ _ _ h => h) (Or.inl ⟨by rfl, ?y27⟩) (by assumption) ?_
  case y27 => (intro w' hSw; subst hSw; go_simp; (try rfl))
  try simp only [List.getElem_toArray, List.getElem_cons_zero, List.getElem_cons_succ, Act.put, List.setIfInBounds_toArray, List.set_cons_zero, List.set_cons_succ]
  refine wpAnyH_take (i := 28) (v := .pointer (some ⟨d, 0, none⟩)) rfl (by kernel_rfl) (by kernel_rfl) (by kernel_rfl) (fun _ _ _ h => h) (Or.inl ⟨by rfl, ?y28⟩) (by assumption) ?_
  case y28 => (intro w' hSw; subst hSw; go_simp; (try rfl))
  try simp only [List.getElem_toArray, List.getElem_cons_zero, List.getElem_cons_succ, Act.put, List.setIfInBounds_toArray, List.set_cons_zero, List.set_cons_succ]
  refine wpAnyH_take (i := 29) (v := .pointer (some ⟨d, 4, none⟩)) rfl (by kernel_rfl) (by kernel_rfl) (by kernel_rfl) (fun _ _ _ h => h) (Or.inl ⟨by rfl, ?y29⟩) (by assumption) ?_
  case y29 => (intro w' hSw; subst hSw; go_simp; (try rfl))
  try simp only [List.getElem_toArray, List.getElem_cons_zero, List.getElem_cons_succ, Act.put, List.setIfInBounds_toArray, List.set_cons_zero, List.set_cons_succ]
  refine wpAnyH_take (i := 30) (v := .int .i64 why) rfl (by kernel_rfl) (by kernel_rfl) (by kernel_rfl) (fun _ _ _ h => h) (Or.inl ⟨by rfl, ?y30⟩) (by assumption) ?_
  case y30 => (intro w' hSw; subst hSw; go_simp; (try rfl))
  try simp only [List.getElem_toArray, List.getElem_cons_zero, List.getElem_cons_succ, Act.put, List.setIfInBounds_toArray, List.set_cons_zero, List.set_cons_succ]
  refine wpAnyH_take (i := 31) (v := .int .i64 why) rfl (by kernel_rfl) (by kernel_rfl) (by kernel_rfl) (fun _ _ _ h => h) (Or.inl ⟨by rfl, ?y31⟩) (by assumption) ?_
  case y31 => (intro w' hSw; subst hSw; go_simp; (try rfl))
  try simp only [List.getElem_toArray, List.getElem_cons_zero, List.getElem_cons_succ, Act.put, List.setIfInBounds_toArray, List.set_cons_zero, List.set_cons_succ]
  refine wpAnyH_take (i := 32) (v := .bool true) rfl (by kernel_rfl) (by kernel_rfl) (by kernel_rfl) (fun _ _ _ h => h) (Or.inl ⟨by rfl, ?y32⟩) (by assumption) ?_
  case y32 => (intro w' hSw; subst hSw; go_simp; (try rfl))
  try simp only [List.getElem_toArray, List.getElem_cons_zero, List.getElem_cons_succ, Act.put, List.setIfInBounds_toArray, List.set_cons_zero, List.set_cons_succ]
  refine wpAnyH_take (i := 33) (v := .bool true) rfl (by kernel_rfl) (by kernel_rfl) (by kernel_rfl) (fun _ _ _ h => h) (Or.inl ⟨by rfl, ?y33⟩) (by assumption) ?_
  case y33 => (intro w' hSw; subst hSw; go_simp; (try rfl))
  try simp only [List.getElem_toArray, List.getElem_cons_zero, List.getElem_cons_succ, Act.put, List.setIfInBounds_toArray, List.set_cons_zero, List.set_cons_succ]
  refine wpAnyH_take (i := 34) (v := .bool true) rfl (by kernel_rfl) (by kernel_rfl) (by kernel_rfl) (fun _ _ _ h => h) (Or.inl ⟨by rfl, ?y34⟩) (by assumption) ?_
  case y34 => (intro w' hSw; subst hSw; go_simp; (try rfl))
  try simp only [List.getElem_toArray, List.getElem_cons_zero, List.getElem_cons_succ, Act.put, List.setIfInBounds_toArray, List.set_cons_zero, List.set_cons_succ]
  refine wpAnyH_done (by kernel_rfl) ?_ _
  go_wp2
  go_ret
  exact ⟨rfl, HEND.out⟩
end Go.Proofs.YtoccedbnnafjcaaDoor
