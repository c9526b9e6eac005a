/-
  WALKS over (*tree.Tree).Events, Node, and over the calls of a nil tree.
-/
import Derived.Test.YtcmjipgigkalcaaDoorTrVal
namespace Go.Proofs.YtcmjipgigkalcaaDoor
open Go.RowKit Go.Lib
set_option maxHeartbeats 1000000 in
theorem trEvents (w : World) (B D n : Nat) (E : Nat → Tr.Ev Value) (L q cap nd : Nat) (h : Tr.TreeR w B D n E L q cap nd) (hs : ∀ i, i < n → Tr.Small (E i)) (hn : n ≤ 1466015503658) :
    Calls Tryd.prog 11 #[.pointer (some ⟨D, 0, none⟩)] w fun r w' => Tr.CopyAllE E n w r w' := by
  have c := trCopyAll _ n E w h.evs hs hn
  have c0 := h.c0
  have C := hide' c
  clear h hs c
  go_enter Tryd.func11, Tryd.ntmps11
  go_wp2_with fail
  refine C.out.mono ?_
  rintro r w1 ⟨L', E', rfl, hC⟩
  go_wp2_with fail
  go_ret
  exact ⟨L', E', rfl, hC⟩
theorem nilEvents (w : World) : Calls Tryd.prog 11 #[.pointer none] w fun r w' => r = .returned (.slice none 0 0) ∧ w' = w := by
  go_enter Tryd.func11, Tryd.ntmps11
  go_wp2
  go_ret
  exact ⟨rfl, rfl⟩
theorem nilLen (w : World) : Calls Tryd.prog 10 #[.pointer none] w fun r w' => r = .returned (.int .i64 0) ∧ w' = w := by
  go_enter Tryd.func10, Tryd.ntmps10
  go_wp2
  go_ret
  exact ⟨rfl, rfl⟩
theorem nilLacks (k least : Int) (w : World) : Calls Tryd.prog 29 #[.pointer none, .int .i64 k, .int .i64 least] w fun r w' => r = .returned (.int .i64 1) ∧ w' = w := by
  go_enter Tryd.func29, Tryd.ntmps29
  go_wp2
  go_ret
  exact ⟨rfl, rfl⟩
set_option maxHeartbeats 1000000 in
theorem nilParent (k : Int) (w : World) : Calls Tryd.prog 13 #[.pointer none, .int .i64 k] w fun r w' => r = .returned (.tuple #[.int .i64 0, .int .i64 1]) ∧ w' = w := by
  have c := nilLacks k 0 w
  go_enter Tryd.func13, Tryd.ntmps13
  go_wp2_with fail
  refine c.mono ?_
  rintro e w1 ⟨rfl, rfl⟩
  go_wp2_with fail
  go_ret2
  exact ⟨rfl, rfl⟩
set_option maxHeartbeats 1000000 in
theorem nilPrint (k : Int) (w : World) : Calls Tryd.prog 16 #[.pointer none, .int .i64 k] w fun r w' => r = .returned (.tuple #[.string ⟨#[]⟩, .int .i64 1]) ∧ w' = w := by
  have c := nilLacks k (-1) w
  go_enter Tryd.func16, Tryd.ntmps16
  go_wp2_with fail
  refine c.mono ?_
  rintro e w1 ⟨rfl, rfl⟩
  go_wp2_with fail
  go_ret2
  exact ⟨rfl, rfl⟩
set_option maxHeartbeats 2000000 in
theorem nilValue (k : Int) (w : World) : Calls Tryd.prog 15 #[.pointer none, .int .i64 k] w fun r w' => r = .returned (.tuple #[.string ⟨#[]⟩, .int .i64 1]) ∧ Below w.heap.size w w' := by
  have c := nilLacks k (-1) (w.alloc (.cells #[.pointer none] 25))
  go_enter Tryd.func15, Tryd.ntmps15
  go_wp2_with fail
  refine c.mono ?_
  rintro e w1 ⟨rfl, rfl⟩
  clear c
  go_wp2_with fail
  go_ret2
  exact ⟨rfl, (Below.refl _ _).alloc (Nat.le_refl _) _⟩
namespace Tr
theorem results_ct {P : Program} {fn : Func} {a b : Nat} {t : TypeId} (hr : fn.results = #[.cell a t, .tmp b]) (tmps : Array Value) (p : Addr) (hp : tmps[a]?.getD undef = .pointer (some p)) (v : Value) (w : World) (h : (loadVar t p).run P w = .ok v w) : (results fn tmps).run P w = .ok (.tuple #[v, tmps[b]?.getD undef]) w := by
  unfold results
  rw [hr]
  simp [asAddr, hp, h]
/-- what Node answers -/
def NodeE (e : Ev Value) (w : World) (r : Ending) (w' : World) : Prop :=
  ∃ av', r = .returned (.tuple #[.agg (Ev.cs { e with av := av' }), .int .i64 0]) ∧ AtOwn w' av' e.ats ∧ (∀ g, av'.ownBlock = some g → w.heap.size ≤ g) ∧ Below w.heap.size w w'
end Tr
set_option maxHeartbeats 1000000 in
theorem nilNode (k : Int) (w : World) : Calls Tryd.prog 12 #[.pointer none, .int .i64 k] w fun r w' => r = .returned (.tuple #[.agg #[.int .i64 0, .int .i64 0, .int .i64 0, .string ⟨#[]⟩, .slice none 0 0, .string ⟨#[]⟩, .int .i64 0, .int .i64 0], .int .i64 1]) ∧ Below w.heap.size w w' := by
  have c := nilLacks k 0 (w.alloc (.cells #[.int .i64 0, .int .i64 0, .int .i64 0, .string ⟨#[]⟩, .slice none 0 0, .string ⟨#[]⟩, .int .i64 0, .int .i64 0] 39))
  go_enter Tryd.func12, Tryd.ntmps12
  go_wp2_with fail
  refine c.mono ?_
  rintro e w1 ⟨rfl, rfl⟩
  clear c
  go_wp2_with fail
  refine bodyPost_ret (Tr.results_ct Tryd.results12 _ ⟨w.heap.size, 0, none⟩ rfl _ _ (Tr.load_box (heap_alloc_new w _) rfl)) rfl ?_
  exact ⟨rfl, (Below.refl _ _).alloc (Nat.le_refl _) _⟩
set_option maxRecDepth 100000 in
set_option maxHeartbeats 4000000 in
theorem trNode (w : World) (B D n : Nat) (E : Nat → Tr.Ev Value) (L q cap nd : Nat) (h : Tr.TreeR w B D n E L q cap nd) (hs : ∀ i, i < n → Tr.Small (E i)) (j : Nat) (hj : j < nd) :
    ∃ f : Nat, ((Tr.grun E n).nth j).fst = f ∧ f < n ∧ Calls Tryd.prog 12 #[.pointer (some ⟨D, 0, none⟩), .int .i64 (j : Nat)] w fun r w' => Tr.NodeE (E f) w r w' := by
  obtain ⟨f, ef, hf, _⟩ := h.shp.evt j hj
  refine ⟨f, ef, hf, ?_⟩
  have hb1 : Below w.heap.size w (w.alloc (.cells #[.int .i64 0, .int .i64 0, .int .i64 0, .string ⟨#[]⟩, .slice none 0 0, .string ⟨#[]⟩, .int .i64 0, .int .i64 0] 39)) := (Below.refl _ _).alloc (Nat.le_refl _) _
  have hR := h.below hb1
  have cL := trLacks _ B D n E L q cap nd hR (j : Int) 0
  rw [if_neg (by omega)] at cL
  have c0 := hR.c0
  have c1 := hR.c1
  obtain ⟨_, _, c2, _⟩ := hR.node hj
  rw [ef] at c2
  obtain ⟨b1, o1, cap1, e1, _, _, kc⟩ := hR.evs.row.at (by omega)
  cases e1
  have c3 := kc f hf
  simp only [Nat.zero_add] at c3
  obtain ⟨CE, hCE⟩ : ∃ CE : List Value, CE = (E f).cs.toList := ⟨_, rfl⟩
  have hr : (w.alloc (.cells #[.int .i64 0, .int .i64 0, .int .i64 0, .string ⟨#[]⟩, .slice none 0 0, .string ⟨#[]⟩, .int .i64 0, .int .i64 0] 39)).rangeAt L (f * 8) CE := by
    rw [hCE]
    intro k u hk
    obtain ⟨k0, k1, k2, k3, k4, k5, k6, k7⟩ := c3
    match k, hk with
    | 0, hk => simp [Tr.Ev.cs] at hk; subst hk; exact k0
    | 1, hk => simp [Tr.Ev.cs] at hk; subst hk; exact k1
    | 2, hk => simp [Tr.Ev.cs] at hk; subst hk; exact k2
    | 3, hk => simp [Tr.Ev.cs] at hk; subst hk; exact k3
    | 4, hk => simp [Tr.Ev.cs] at hk; subst hk; exact k4
    | 5, hk => simp [Tr.Ev.cs] at hk; subst hk; exact k5
    | 6, hk => simp [Tr.Ev.cs] at hk; subst hk; exact k6
    | 7, hk => simp [Tr.Ev.cs] at hk; subst hk; exact k7
    | k + 8, hk => simp [Tr.Ev.cs] at hk
  have i2 : (Tryd.prog.info? 39).map (·.size) = some CE.length := by rw [hCE]; exact Tr.evSize
  have cC := trCopyOf (E f) (w.alloc (.cells #[.int .i64 0, .int .i64 0, .int .i64 0, .string ⟨#[]⟩, .slice none 0 0, .string ⟨#[]⟩, .int .i64 0, .int .i64 0] 39)).drew (hs f hf).2.2.1 ((h.evs.att f hf).below hb1.drew (Nat.le_refl _))
  have cC2 : Calls Tryd.prog 30 #[.agg CE.toArray] (w.alloc (.cells #[.int .i64 0, .int .i64 0, .int .i64 0, .string ⟨#[]⟩, .slice none 0 0, .string ⟨#[]⟩, .int .i64 0, .int .i64 0] 39)).drew (fun r w' => ∃ CA av', r = .returned (.agg CA) ∧ CA = Tr.Ev.cs { E f with av := av' } ∧ Tr.AtOwn w' av' (E f).ats ∧ (∀ g, av'.ownBlock = some g → w.heap.size < g) ∧ Below (w.heap.size + 1) (w.alloc (.cells #[.int .i64 0, .int .i64 0, .int .i64 0, .string ⟨#[]⟩, .slice none 0 0, .string ⟨#[]⟩, .int .i64 0, .int .i64 0] 39)).drew w') := by
    rw [hCE]
    refine Calls.mono cC (fun r w' hh => ?_)
    obtain ⟨av', h1, h2, h3, h4⟩ := hh
    have hsz : (w.alloc (.cells #[.int .i64 0, .int .i64 0, .int .i64 0, .string ⟨#[]⟩, .slice none 0 0, .string ⟨#[]⟩, .int .i64 0, .int .i64 0] 39)).drew.heap.size = w.heap.size + 1 := by simp
    rw [hsz] at h4
    exact ⟨_, av', h1, rfl, h2, fun g hg => by have := h3 g hg; rw [hsz] at this; omega, h4⟩
  obtain ⟨S, hSd⟩ : ∃ S : World → Prop, S = fun W' => W'.cell? ⟨D, 0, none⟩ = some (.slice (some ⟨L, 0, none⟩) n n) ∧ W'.cell? ⟨D, 1, none⟩ = some (.slice (some ⟨q, 0, none⟩) nd cap) ∧ W'.cell? ⟨q, j * 4 + 2, none⟩ = some (.int .i64 (f : Nat)) ∧ W'.rangeAt L (f * 8) CE := ⟨_, rfl⟩
  have hS0 : S (w.alloc (.cells #[.int .i64 0, .int .i64 0, .int .i64 0, .string ⟨#[]⟩, .slice none 0 0, .string ⟨#[]⟩, .int .i64 0, .int .i64 0] 39)).drew := by rw [hSd]; exact ⟨c0, c1, c2, hr⟩
  have hSO : ∀ W', S W' → W'.cell? ⟨D, 0, none⟩ = some (.slice (some ⟨L, 0, none⟩) n n) ∧ W'.cell? ⟨D, 1, none⟩ = some (.slice (some ⟨q, 0, none⟩) nd cap) ∧ W'.cell? ⟨q, j * 4 + 2, none⟩ = some (.int .i64 (f : Nat)) := fun W' h => by rw [hSd] at h; exact ⟨h.1, h.2.1, h.2.2.1⟩
  have hSR : ∀ W', S W' → W'.rangeAt L (f * 8) CE := fun W' h => by rw [hSd] at h; exact h.2.2.2
  have hDl : D < w.heap.size := block_lt_of_cell h.c0
  have hLl : L < w.heap.size := (h.lbk (by omega)).1
  have hql : q < w.heap.size := (h.row.lt q rfl).2
  have hSB : ∀ W1 W2, S W1 → (∀ b, b < w.heap.size → W2.heap[b]? = W1.heap[b]?) → S W2 := fun W1 W2 h1 hb => by
    rw [hSd] at h1 ⊢
    exact ⟨(World.cell?_of_block (a := ⟨D, 0, none⟩) (hb D hDl)).trans h1.1, (World.cell?_of_block (a := ⟨D, 1, none⟩) (hb D hDl)).trans h1.2.1, (World.cell?_of_block (a := ⟨q, j * 4 + 2, none⟩) (hb q hql)).trans h1.2.2.1, fun k u hk => (World.cell?_of_block (a := ⟨L, f * 8 + k, none⟩) (hb L hLl)).trans (h1.2.2.2 k u hk)⟩
  have g1 : (j : Int) < (nd : Int) := by omega
  have g2 : (f : Int) < (n : Int) := by omega
  have g3 : 0 ≤ (f : Int) := by omega
  have g4 : 0 ≤ (j : Int) := by omega
  have CL := hide' cL
  have CC := hide' cC2
  have HSO := hide' hSO
  have HSR := hide' hSR
  have HSB := hide' hSB
  have HI2 := hide' i2
  have HB1 := hide' hb1
  clear cL cC cC2 hSO hSR hSB hSd i2 hb1 hR kc c3 h hs ef hCE hr hDl hLl hql c0 c1 c2
  go_enter Tryd.func12, Tryd.ntmps12
  go_wp2_with fail
  refine CL.out.mono ?_
  rintro e w1 ⟨rfl, rfl⟩
  clear CL
  go_wp2_with fail
  obtain ⟨Mid, hMid⟩ : ∃ Mid : Act → World → Prop, Mid = fun a' W' => a'.defers = [] ∧ a'.tmps[4]?.getD undef = .pointer (some ⟨w.heap.size, 0, none⟩) ∧ a'.tmps[5]?.getD undef = .int .i64 0 ∧ ∃ av', W'.rangeAt w.heap.size 0 (Tr.Ev.cs { E f with av := av' }).toList ∧ Tr.AtOwn W' av' (E f).ats ∧ (∀ g, av'.ownBlock = some g → w.heap.size ≤ g) ∧ Below w.heap.size w W' := ⟨_, rfl⟩
  have HMid := hide' hMid
  clear hMid
  refine wp_mono (Q := Exit.then Mid (fun _ _ _ => False)) ?_ ?_
  · refine wp_region_held_drew (S := S) (by kernel_rfl) hS0 (fun hHeld => ?_)
    simp only [List.size_toArray, List.length_cons, List.length_nil, Nat.reduceAdd]
    refine wpAnyH_take (i := 0) (v := .pointer (some ⟨D, 0, none⟩)) rfl (by kernel_rfl) (by kernel_rfl) (by kernel_rfl) (fun _ _ _ h => h) (Or.inl ⟨by rfl, ?y0⟩) (by assumption) ?_
    case y0 => (intro w' hSw; obtain ⟨q0, q1, q2⟩ := HSO.out w' hSw; go_simp)
    simp only [List.getElem_toArray, List.getElem_cons_zero, Act.put, List.setIfInBounds_toArray, List.set_cons_zero, List.set_cons_succ]
    refine wpAnyH_take (i := 1) (v := .pointer (some ⟨D, 0, none⟩)) rfl (by kernel_rfl) (by kernel_rfl) (by kernel_rfl) (fun _ _ _ h => h) (Or.inl ⟨by rfl, ?y1⟩) (by assumption) ?_
    case y1 => (intro w' hSw; obtain ⟨q0, q1, q2⟩ := HSO.out w' hSw; go_simp)
    simp only [List.getElem_toArray, List.getElem_cons_zero, List.getElem_cons_succ, Act.put, List.setIfInBounds_toArray, List.set_cons_zero, List.set_cons_succ]
    refine wpAnyH_take (i := 2) (v := .pointer (some ⟨D, 0, none⟩)) rfl (by kernel_rfl) (by kernel_rfl) (by kernel_rfl) (fun _ _ _ h => h) (Or.inl ⟨by rfl, ?y2⟩) (by assumption) ?_
    case y2 => (intro w' hSw; obtain ⟨q0, q1, q2⟩ := HSO.out w' hSw; go_simp)
    simp only [List.getElem_toArray, List.getElem_cons_zero, List.getElem_cons_succ, Act.put, List.setIfInBounds_toArray, List.set_cons_zero, List.set_cons_succ]
    refine wpAnyH_take (i := 3) (v := .slice (some ⟨L, 0, none⟩) n n) rfl (by kernel_rfl) (by kernel_rfl) (by kernel_rfl) (fun _ _ _ h => h) (Or.inl ⟨by rfl, ?y3⟩) (by assumption) ?_
    case y3 => (intro w' hSw; obtain ⟨q0, q1, q2⟩ := HSO.out w' hSw; go_simp)
    simp only [List.getElem_toArray, List.getElem_cons_zero, List.getElem_cons_succ, Act.put, List.setIfInBounds_toArray, List.set_cons_zero, List.set_cons_succ]
    refine wpAnyH_take (i := 4) (v := .pointer (some ⟨D, 0, none⟩)) rfl (by kernel_rfl) (by kernel_rfl) (by kernel_rfl) (fun _ _ _ h => h) (Or.inl ⟨by rfl, ?y4⟩) (by assumption) ?_
    case y4 => (intro w' hSw; obtain ⟨q0, q1, q2⟩ := HSO.out w' hSw; go_simp)
    simp only [List.getElem_toArray, List.getElem_cons_zero, List.getElem_cons_succ, Act.put, List.setIfInBounds_toArray, List.set_cons_zero, List.set_cons_succ]
    refine wpAnyH_take (i := 5) (v := .pointer (some ⟨D, 0, none⟩)) rfl (by kernel_rfl) (by kernel_rfl) (by kernel_rfl) (fun _ _ _ h => h) (Or.inl ⟨by rfl, ?y5⟩) (by assumption) ?_
    case y5 => (intro w' hSw; obtain ⟨q0, q1, q2⟩ := HSO.out w' hSw; go_simp)
    simp only [List.getElem_toArray, List.getElem_cons_zero, List.getElem_cons_succ, Act.put, List.setIfInBounds_toArray, List.set_cons_zero, List.set_cons_succ]
    refine wpAnyH_take (i := 6) (v := .pointer (some ⟨D, 1, none⟩)) rfl (by kernel_rfl) (by kernel_rfl) (by kernel_rfl) (fun _ _ _ h => h) (Or.inl ⟨by rfl, ?y6⟩) (by assumption) ?_
    case y6 => (intro w' hSw; obtain ⟨q0, q1, q2⟩ := HSO.out w' hSw; go_simp)
    simp only [List.getElem_toArray, List.getElem_cons_zero, List.getElem_cons_succ, Act.put, List.setIfInBounds_toArray, List.set_cons_zero, List.set_cons_succ]
    refine wpAnyH_take (i := 7) (v := .slice (some ⟨q, 0, none⟩) nd cap) rfl (by kernel_rfl) (by kernel_rfl) (by kernel_rfl) (fun _ _ _ h => h) (Or.inl ⟨by rfl, ?y7⟩) (by assumption) ?_
    case y7 => (intro w' hSw; obtain ⟨q0, q1, q2⟩ := HSO.out w' hSw; go_simp)
    simp only [List.getElem_toArray, List.getElem_cons_zero, List.getElem_cons_succ, Act.put, List.setIfInBounds_toArray, List.set_cons_zero, List.set_cons_succ]
    refine wpAnyH_take (i := 8) (v := .int .i64 (j : Nat)) rfl (by kernel_rfl) (by kernel_rfl) (by kernel_rfl) (fun _ _ _ h => h) (Or.inl ⟨by rfl, ?y8⟩) (by assumption) ?_
    case y8 => (intro w' hSw; obtain ⟨q0, q1, q2⟩ := HSO.out w' hSw; go_simp)
    simp only [List.getElem_toArray, List.getElem_cons_zero, List.getElem_cons_succ, Act.put, List.setIfInBounds_toArray, List.set_cons_zero, List.set_cons_succ]
    refine wpAnyH_take (i := 9) (v := .pointer (some ⟨q, j * 4, none⟩)) rfl (by kernel_rfl) (by kernel_rfl) (by kernel_rfl) (fun _ _ _ h => h) (Or.inl ⟨by rfl, ?y9⟩) (by assumption) ?_
    case y9 => (intro w' hSw; obtain ⟨q0, q1, q2⟩ := HSO.out w' hSw; go_simp)
    simp only [List.getElem_toArray, List.getElem_cons_zero, List.getElem_cons_succ, Act.put, List.setIfInBounds_toArray, List.set_cons_zero, List.set_cons_succ]
    refine wpAnyH_take (i := 10) (v := .pointer (some ⟨q, j * 4 + 2, none⟩)) rfl (by kernel_rfl) (by kernel_rfl) (by kernel_rfl) (fun _ _ _ h => h) (Or.inl ⟨by rfl, ?y10⟩) (by assumption) ?_
    case y10 => (intro w' hSw; obtain ⟨q0, q1, q2⟩ := HSO.out w' hSw; go_simp)
    simp only [List.getElem_toArray, List.getElem_cons_zero, List.getElem_cons_succ, Act.put, List.setIfInBounds_toArray, List.set_cons_zero, List.set_cons_succ]
    refine wpAnyH_take (i := 11) (v := .int .i64 (f : Nat)) rfl (by kernel_rfl) (by kernel_rfl) (by kernel_rfl) (fun _ _ _ h => h) (Or.inl ⟨by rfl, ?y11⟩) (by assumption) ?_
    case y11 => (intro w' hSw; obtain ⟨q0, q1, q2⟩ := HSO.out w' hSw; go_simp)
    simp only [List.getElem_toArray, List.getElem_cons_zero, List.getElem_cons_succ, Act.put, List.setIfInBounds_toArray, List.set_cons_zero, List.set_cons_succ]
    refine wpAnyH_take (i := 12) (v := .pointer (some ⟨L, f * 8, none⟩)) rfl (by kernel_rfl) (by kernel_rfl) (by kernel_rfl) (fun _ _ _ h => h) (Or.inl ⟨by rfl, ?y12⟩) (by assumption) ?_
    case y12 => (intro w' hSw; obtain ⟨q0, q1, q2⟩ := HSO.out w' hSw; go_simp)
    simp only [List.getElem_toArray, List.getElem_cons_zero, List.getElem_cons_succ, Act.put, List.setIfInBounds_toArray, List.set_cons_zero, List.set_cons_succ]
    refine wpAnyH_take (i := 13) (v := .agg CE.toArray) rfl (by kernel_rfl) (by kernel_rfl) (by kernel_rfl) (fun _ _ _ h => h) (yieldsIf_load_mid (by rfl) 39 (.tmp 26) rfl L (f * 8) rfl CE _ HSR.out Tryd.underlying39 rfl HI2.out) (by assumption) ?_
    simp only [List.getElem_toArray, List.getElem_cons_zero, List.getElem_cons_succ, Act.put, List.setIfInBounds_toArray, List.set_cons_zero, List.set_cons_succ]
    refine wpAnyH_ready (rs := [14]) (by kernel_rfl) (by simp) ?_
    refine AllReadyH.cons rfl (fun K hK => ?_) AllReadyH.nil
    try simp only [List.getElem_toArray, List.getElem_cons_zero, List.getElem_cons_succ]
    go_simp
    refine CC.out.mono ?_
    rintro e W1 ⟨CA, av', rfl, hCA, hA, hg, hb⟩
    have hS1 : S W1 := HSB.out _ W1 hS0 (fun b hb' => hb.block b (by omega))
    have hN : W1.heap[w.heap.size]? = some (.cells #[.int .i64 0, .int .i64 0, .int .i64 0, .string ⟨#[]⟩, .slice none 0 0, .string ⟨#[]⟩, .int .i64 0, .int .i64 0] 39) := (hb.block _ (Nat.lt_succ_self _)).trans (heap_alloc_new w _)
    have hT0 : W1.there w.heap.size 0 8 := Tr.there_of hN
    have hT : W1.there w.heap.size 0 CA.size := by rw [hCA]; exact hT0
    have hT' : W1.there w.heap.size 0 CA.toList.length := by rw [hCA]; exact hT0
    have o1 : CA.all (·.oneCell') = true := by
      rw [hCA]
      exact all_oneCell_toArray (Tr.cs_one (e := { E f with av := av' }) hA.row.one)
    have i1 : (Tryd.prog.info? 39).map (·.size) = some CA.size := by rw [hCA]; exact Tr.evSize
    have hS2 : S (W1.setCells w.heap.size 0 CA.toList) := HSB.out W1 _ hS1 (fun b hb' => Tr.heap_cells_far (by omega) _ _ _)
    have hB2 : Below w.heap.size w (W1.setCells w.heap.size 0 CA.toList) := Tr.below_cells (Nat.le_refl _) _ _ _ (HB1.out.drew.trans (hb.mono (Nat.le_succ _)))
    have hA2 : Tr.AtOwn (W1.setCells w.heap.size 0 CA.toList) av' (E f).ats := hA.keep (fun g ho _ => by
      have := hg g ho
      exact Tr.heap_cells_far (by omega) _ _ _)
    have hR2 : (W1.setCells w.heap.size 0 CA.toList).rangeAt w.heap.size 0 CA.toList := World.rangeAt_setCells_same W1 _ 0 _ hT'
    have HM2 := hide' (⟨av', by rw [← hCA]; exact hR2, hA2, fun g h9 => Nat.le_of_lt (hg g h9), hB2⟩ : ∃ av', (W1.setCells w.heap.size 0 CA.toList).rangeAt w.heap.size 0 (Tr.Ev.cs { E f with av := av' }).toList ∧ Tr.AtOwn (W1.setCells w.heap.size 0 CA.toList) av' (E f).ats ∧ (∀ g, av'.ownBlock = some g → w.heap.size ≤ g) ∧ Below w.heap.size w (W1.setCells w.heap.size 0 CA.toList))
    clear hCA hA hg hb hN hT0 hT' hB2 hA2 hR2 CC
    refine hK.out _ _ hS1 (fun hHeld9 => ?_)
    clear hK K
    try simp only [List.getElem_toArray, List.getElem_cons_zero, List.getElem_cons_succ, Act.put, List.setIfInBounds_toArray, List.set_cons_zero, List.set_cons_succ]
    refine wpAnyH_ready (rs := [15]) (by kernel_rfl) (by simp) ?_
    refine AllReadyH.cons rfl (fun K hK => ?_) AllReadyH.nil
    try simp only [List.getElem_toArray, List.getElem_cons_zero, List.getElem_cons_succ]
    rw [if_pos (by rfl)]
    refine wp_store_mid 39 (.tmp 4) (.tmp 28) ?_ w.heap.size 0 CA ?_ ?_ hT i1 o1 ?_
    · rfl
    · rfl
    · rfl
    refine hK.out _ _ hS2 (fun hHeld8 => ?_)
    clear hK K
    simp only [Act.put]
    generalize W1.setCells w.heap.size 0 CA.toList = W9 at hHeld8 HM2 ⊢
    refine wpAnyH_take (i := 16) (v := .int .i64 0) rfl (by kernel_rfl) (by kernel_rfl) (by kernel_rfl) (fun _ _ _ h => h) (Or.inl ⟨by rfl, ?y16⟩) (by assumption) ?_
    case y16 => (intro w' hSw; go_simp)
    simp only [List.getElem_toArray, List.getElem_cons_zero, List.getElem_cons_succ, Act.put, List.setIfInBounds_toArray, List.set_cons_zero, List.set_cons_succ]
    refine wpAnyH_done (by kernel_rfl) ?_ _
    show Mid _ _
    rw [HMid.out]
    exact ⟨rfl, rfl, rfl, HM2.out⟩
  · intro e a' W' he
    cases e with
    | normal =>
      have h9 : Mid a' W' := he
      rw [HMid.out] at h9
      obtain ⟨d1, d2, d3, av', r1, r2, r3, r4⟩ := h9
      obtain ⟨tm, df⟩ := a'
      dsimp only at d1 d2 d3
      subst d1
      have hl := run_loadVar_mid (P := Tryd.prog) W' w.heap.size 0 39 _ _ r1 Tryd.underlying39 rfl Tr.evSize
      have hr := Tr.results_ct Tryd.results12 tm ⟨w.heap.size, 0, none⟩ d2 _ W' hl
      rw [d3] at hr
      rename_i Q9 K9 a9
      refine a9 _ _ ?_
      apply wp_ret
      refine bodyPost_ret hr rfl ?_
      exact ⟨av', rfl, r2, r3, r4⟩
    | _ => exact he.elim
end Go.Proofs.YtcmjipgigkalcaaDoor
