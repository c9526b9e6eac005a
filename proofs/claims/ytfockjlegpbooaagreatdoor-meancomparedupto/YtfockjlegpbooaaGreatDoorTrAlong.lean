import Derived.Test.YtfockjlegpbooaaGreatDoorTrVal
import Derived.Test.YtfockjlegpbooaaGreatDoorTrIter
import Derived.RangeFuncBox
import Derived.Maps.AppendAt
import Derived.Laws.AppendOwnNone
import Derived.Deep.QuietTactic
import Derived.BigQuiet
/-
  WALKS over (*tree.Tree).Events, Node, and over the calls of a nil tree.
-/
namespace Go.Proofs.YtfockjlegpbooaaGreatDoor
open Go.RowKit Go.Lib
theorem nilLen (w : World) : Calls Tryz.prog 12 #[.pointer none] w fun r w' => r = .returned (.int .i64 0) ∧ w' = w := by
  go_enter Tryz.func12, Tryz.ntmps12
  go_wp2
  go_ret
  exact ⟨rfl, rfl⟩
theorem nilLacks (k least : Int) (w : World) : Calls Tryz.prog 84 #[.pointer none, .int .i64 k, .int .i64 least] w fun r w' => r = .returned (.int .i64 1) ∧ w' = w := by
  go_enter Tryz.func84, Tryz.ntmps84
  go_wp2
  go_ret
  exact ⟨rfl, rfl⟩
set_option maxHeartbeats 1000000 in
theorem nilParent (k : Int) (w : World) : Calls Tryz.prog 91 #[.pointer none, .int .i64 k] w fun r w' => r = .returned (.tuple #[.int .i64 0, .int .i64 1]) ∧ w' = w := by
  have c := nilLacks k 0 w
  go_enter Tryz.func91, Tryz.ntmps91
  go_wp2_with fail
  refine c.mono ?_
  rintro e w1 ⟨rfl, rfl⟩
  go_wp2_with fail
  go_ret2
  exact ⟨rfl, rfl⟩
set_option maxHeartbeats 2000000 in
theorem nilValue (k : Int) (w : World) : Calls Tryz.prog 61 #[.pointer none, .int .i64 k] w fun r w' => r = .returned (.tuple #[.string ⟨#[]⟩, .int .i64 1]) ∧ Below w.heap.size w w' := by
  have c := nilLacks k (-1) (w.alloc (.cells #[.pointer none] 27))
  go_enter Tryz.func61, Tryz.ntmps61
  go_wp2_with fail
  refine c.mono ?_
  rintro e w1 ⟨rfl, rfl⟩
  clear c
  go_wp2_with fail
  go_ret2
  exact ⟨rfl, (Below.refl _ _).alloc (Nat.le_refl _) _⟩
namespace Tr
theorem results_ct {P : Program} {fn : Func} {a b : Nat} {t : TypeId} (hr : fn.results = #[.cell a t, .tmp b]) (tmps : Array Value) (p : Addr) (hp : tmps[a]?.getD undef = .pointer (some p)) (v : Value) (w : World) (h : (loadVar t p).run P w = .ok v w) : (results fn tmps).run P w = .ok (.tuple #[v, tmps[b]?.getD undef]) w := by
  unfold results
  rw [hr]
  simp [asAddr, hp, h]
/-- what Node answers -/
def NodeE (e : Ev Value) (w : World) (r : Ending) (w' : World) : Prop :=
  ∃ av', r = .returned (.tuple #[.agg (Ev.cs { e with av := av' }), .int .i64 0]) ∧ AtOwn w' av' e.ats ∧ (∀ g, av'.ownBlock = some g → w.heap.size ≤ g) ∧ Below w.heap.size w w'
end Tr
set_option maxHeartbeats 1000000 in
theorem nilNode (k : Int) (w : World) : Calls Tryz.prog 90 #[.pointer none, .int .i64 k] w fun r w' => r = .returned (.tuple #[.agg #[.int .i64 0, .int .i64 0, .int .i64 0, .string ⟨#[]⟩, .slice none 0 0, .string ⟨#[]⟩, .int .i64 0, .int .i64 0], .int .i64 1]) ∧ Below w.heap.size w w' := by
  have c := nilLacks k 0 (w.alloc (.cells #[.int .i64 0, .int .i64 0, .int .i64 0, .string ⟨#[]⟩, .slice none 0 0, .string ⟨#[]⟩, .int .i64 0, .int .i64 0] 71))
  go_enter Tryz.func90, Tryz.ntmps90
  go_wp2_with fail
  refine c.mono ?_
  rintro e w1 ⟨rfl, rfl⟩
  clear c
  go_wp2_with fail
  refine bodyPost_ret (Tr.results_ct Tryz.results90 _ ⟨w.heap.size, 0, none⟩ rfl _ _ (Tr.load_box (heap_alloc_new w _) rfl)) rfl ?_
  exact ⟨rfl, (Below.refl _ _).alloc (Nat.le_refl _) _⟩
set_option maxRecDepth 100000 in
set_option maxHeartbeats 4000000 in
theorem trNode (w : World) (B D n : Nat) (E : Nat → Tr.Ev Value) (L q cap nd : Nat) (h : Tr.TreeR w B D n E L q cap nd) (hs : ∀ i, i < n → Tr.Small (E i)) (j : Nat) (hj : j < nd) :
    ∃ f : Nat, ((Tr.grun E n).nth j).fst = f ∧ f < n ∧ Calls Tryz.prog 90 #[.pointer (some ⟨D, 0, none⟩), .int .i64 (j : Nat)] w fun r w' => Tr.NodeE (E f) w r w' := by
  obtain ⟨f, ef, hf, _⟩ := h.shp.evt j hj
  refine ⟨f, ef, hf, ?_⟩
  have hb1 : Below w.heap.size w (w.alloc (.cells #[.int .i64 0, .int .i64 0, .int .i64 0, .string ⟨#[]⟩, .slice none 0 0, .string ⟨#[]⟩, .int .i64 0, .int .i64 0] 71)) := (Below.refl _ _).alloc (Nat.le_refl _) _
  have hR := h.below hb1
  have cL := trLacks _ B D n E L q cap nd hR (j : Int) 0
  rw [if_neg (by omega)] at cL
  have c0 := hR.c0
  have c1 := hR.c1
  obtain ⟨_, _, c2, _⟩ := hR.node hj
  rw [ef] at c2
  obtain ⟨b1, o1, cap1, e1, _, _, kc⟩ := hR.evs.row.at (by omega)
  cases e1
  have c3 := kc f hf
  simp only [Nat.zero_add] at c3
  obtain ⟨CE, hCE⟩ : ∃ CE : List Value, CE = (E f).cs.toList := ⟨_, rfl⟩
  have hr : (w.alloc (.cells #[.int .i64 0, .int .i64 0, .int .i64 0, .string ⟨#[]⟩, .slice none 0 0, .string ⟨#[]⟩, .int .i64 0, .int .i64 0] 71)).rangeAt L (f * 8) CE := by
    rw [hCE]
    intro k u hk
    obtain ⟨k0, k1, k2, k3, k4, k5, k6, k7⟩ := c3
    match k, hk with
    | 0, hk => simp [Tr.Ev.cs] at hk; subst hk; exact k0
    | 1, hk => simp [Tr.Ev.cs] at hk; subst hk; exact k1
    | 2, hk => simp [Tr.Ev.cs] at hk; subst hk; exact k2
    | 3, hk => simp [Tr.Ev.cs] at hk; subst hk; exact k3
    | 4, hk => simp [Tr.Ev.cs] at hk; subst hk; exact k4
    | 5, hk => simp [Tr.Ev.cs] at hk; subst hk; exact k5
    | 6, hk => simp [Tr.Ev.cs] at hk; subst hk; exact k6
    | 7, hk => simp [Tr.Ev.cs] at hk; subst hk; exact k7
    | k + 8, hk => simp [Tr.Ev.cs] at hk
  have i2 : (Tryz.prog.info? 71).map (·.size) = some CE.length := by rw [hCE]; exact Tr.evSize
  have cC := trCopyOf (E f) (w.alloc (.cells #[.int .i64 0, .int .i64 0, .int .i64 0, .string ⟨#[]⟩, .slice none 0 0, .string ⟨#[]⟩, .int .i64 0, .int .i64 0] 71)).drew (hs f hf).2.2.1 ((h.evs.att f hf).below hb1.drew (Nat.le_refl _))
  have cC2 : Calls Tryz.prog 57 #[.agg CE.toArray] (w.alloc (.cells #[.int .i64 0, .int .i64 0, .int .i64 0, .string ⟨#[]⟩, .slice none 0 0, .string ⟨#[]⟩, .int .i64 0, .int .i64 0] 71)).drew (fun r w' => ∃ CA av', r = .returned (.agg CA) ∧ CA = Tr.Ev.cs { E f with av := av' } ∧ Tr.AtOwn w' av' (E f).ats ∧ (∀ g, av'.ownBlock = some g → w.heap.size < g) ∧ Below (w.heap.size + 1) (w.alloc (.cells #[.int .i64 0, .int .i64 0, .int .i64 0, .string ⟨#[]⟩, .slice none 0 0, .string ⟨#[]⟩, .int .i64 0, .int .i64 0] 71)).drew w') := by
    rw [hCE]
    refine Calls.mono cC (fun r w' hh => ?_)
    obtain ⟨av', h1, h2, h3, h4⟩ := hh
    have hsz : (w.alloc (.cells #[.int .i64 0, .int .i64 0, .int .i64 0, .string ⟨#[]⟩, .slice none 0 0, .string ⟨#[]⟩, .int .i64 0, .int .i64 0] 71)).drew.heap.size = w.heap.size + 1 := by simp
    rw [hsz] at h4
    exact ⟨_, av', h1, rfl, h2, fun g hg => by have := h3 g hg; rw [hsz] at this; omega, h4⟩
  obtain ⟨S, hSd⟩ : ∃ S : World → Prop, S = fun W' => W'.cell? ⟨D, 0, none⟩ = some (.slice (some ⟨L, 0, none⟩) n n) ∧ W'.cell? ⟨D, 1, none⟩ = some (.slice (some ⟨q, 0, none⟩) nd cap) ∧ W'.cell? ⟨q, j * 4 + 2, none⟩ = some (.int .i64 (f : Nat)) ∧ W'.rangeAt L (f * 8) CE := ⟨_, rfl⟩
  have hS0 : S (w.alloc (.cells #[.int .i64 0, .int .i64 0, .int .i64 0, .string ⟨#[]⟩, .slice none 0 0, .string ⟨#[]⟩, .int .i64 0, .int .i64 0] 71)).drew := by rw [hSd]; exact ⟨c0, c1, c2, hr⟩
  have hSO : ∀ W', S W' → W'.cell? ⟨D, 0, none⟩ = some (.slice (some ⟨L, 0, none⟩) n n) ∧ W'.cell? ⟨D, 1, none⟩ = some (.slice (some ⟨q, 0, none⟩) nd cap) ∧ W'.cell? ⟨q, j * 4 + 2, none⟩ = some (.int .i64 (f : Nat)) := fun W' h => by rw [hSd] at h; exact ⟨h.1, h.2.1, h.2.2.1⟩
  have hSR : ∀ W', S W' → W'.rangeAt L (f * 8) CE := fun W' h => by rw [hSd] at h; exact h.2.2.2
  have hDl : D < w.heap.size := block_lt_of_cell h.c0
  have hLl : L < w.heap.size := (h.lbk (by omega)).1
  have hql : q < w.heap.size := (h.row.lt q rfl).2
  have hSB : ∀ W1 W2, S W1 → (∀ b, b < w.heap.size → W2.heap[b]? = W1.heap[b]?) → S W2 := fun W1 W2 h1 hb => by
    rw [hSd] at h1 ⊢
    exact ⟨(World.cell?_of_block (a := ⟨D, 0, none⟩) (hb D hDl)).trans h1.1, (World.cell?_of_block (a := ⟨D, 1, none⟩) (hb D hDl)).trans h1.2.1, (World.cell?_of_block (a := ⟨q, j * 4 + 2, none⟩) (hb q hql)).trans h1.2.2.1, fun k u hk => (World.cell?_of_block (a := ⟨L, f * 8 + k, none⟩) (hb L hLl)).trans (h1.2.2.2 k u hk)⟩
  have g1 : (j : Int) < (nd : Int) := by omega
  have g2 : (f : Int) < (n : Int) := by omega
  have g3 : 0 ≤ (f : Int) := by omega
  have g4 : 0 ≤ (j : Int) := by omega
  have CL := hide' cL
  have CC := hide' cC2
  have HSO := hide' hSO
  have HSR := hide' hSR
  have HSB := hide' hSB
  have HI2 := hide' i2
  have HB1 := hide' hb1
  clear cL cC cC2 hSO hSR hSB hSd i2 hb1 hR kc c3 h hs ef hCE hr hDl hLl hql c0 c1 c2
  go_enter Tryz.func90, Tryz.ntmps90
  go_wp2_with fail
  refine CL.out.mono ?_
  rintro e w1 ⟨rfl, rfl⟩
  clear CL
  go_wp2_with fail
  obtain ⟨Mid, hMid⟩ : ∃ Mid : Act → World → Prop, Mid = fun a' W' => a'.defers = [] ∧ a'.tmps[4]?.getD undef = .pointer (some ⟨w.heap.size, 0, none⟩) ∧ a'.tmps[5]?.getD undef = .int .i64 0 ∧ ∃ av', W'.rangeAt w.heap.size 0 (Tr.Ev.cs { E f with av := av' }).toList ∧ Tr.AtOwn W' av' (E f).ats ∧ (∀ g, av'.ownBlock = some g → w.heap.size ≤ g) ∧ Below w.heap.size w W' := ⟨_, rfl⟩
  have HMid := hide' hMid
  clear hMid
  refine wp_mono (Q := Exit.then Mid (fun _ _ _ => False)) ?_ ?_
  · refine wp_region_held_drew (S := S) (by kernel_rfl) hS0 (fun hHeld => ?_)
    simp only [List.size_toArray, List.length_cons, List.length_nil, Nat.reduceAdd]
    refine wpAnyH_take (i := 0) (v := .pointer (some ⟨D, 0, none⟩)) rfl (by kernel_rfl) (by kernel_rfl) (by kernel_rfl) (fun _ _ _ h => h) (Or.inl ⟨by rfl, ?y0⟩) (by assumption) ?_
    case y0 => (intro w' hSw; obtain ⟨q0, q1, q2⟩ := HSO.out w' hSw; go_simp)
    simp only [List.getElem_toArray, List.getElem_cons_zero, Act.put, List.setIfInBounds_toArray, List.set_cons_zero, List.set_cons_succ]
    refine wpAnyH_take (i := 1) (v := .pointer (some ⟨D, 0, none⟩)) rfl (by kernel_rfl) (by kernel_rfl) (by kernel_rfl) (fun _ _ _ h => h) (Or.inl ⟨by rfl, ?y1⟩) (by assumption) ?_
    case y1 => (intro w' hSw; obtain ⟨q0, q1, q2⟩ := HSO.out w' hSw; go_simp)
    simp only [List.getElem_toArray, List.getElem_cons_zero, List.getElem_cons_succ, Act.put, List.setIfInBounds_toArray, List.set_cons_zero, List.set_cons_succ]
    refine wpAnyH_take (i := 2) (v := .pointer (some ⟨D, 0, none⟩)) rfl (by kernel_rfl) (by kernel_rfl) (by kernel_rfl) (fun _ _ _ h => h) (Or.inl ⟨by rfl, ?y2⟩) (by assumption) ?_
    case y2 => (intro w' hSw; obtain ⟨q0, q1, q2⟩ := HSO.out w' hSw; go_simp)
    simp only [List.getElem_toArray, List.getElem_cons_zero, List.getElem_cons_succ, Act.put, List.setIfInBounds_toArray, List.set_cons_zero, List.set_cons_succ]
    refine wpAnyH_take (i := 3) (v := .slice (some ⟨L, 0, none⟩) n n) rfl (by kernel_rfl) (by kernel_rfl) (by kernel_rfl) (fun _ _ _ h => h) (Or.inl ⟨by rfl, ?y3⟩) (by assumption) ?_
    case y3 => (intro w' hSw; obtain ⟨q0, q1, q2⟩ := HSO.out w' hSw; go_simp)
    simp only [List.getElem_toArray, List.getElem_cons_zero, List.getElem_cons_succ, Act.put, List.setIfInBounds_toArray, List.set_cons_zero, List.set_cons_succ]
    refine wpAnyH_take (i := 4) (v := .pointer (some ⟨D, 0, none⟩)) rfl (by kernel_rfl) (by kernel_rfl) (by kernel_rfl) (fun _ _ _ h => h) (Or.inl ⟨by rfl, ?y4⟩) (by assumption) ?_
    case y4 => (intro w' hSw; obtain ⟨q0, q1, q2⟩ := HSO.out w' hSw; go_simp)
    simp only [List.getElem_toArray, List.getElem_cons_zero, List.getElem_cons_succ, Act.put, List.setIfInBounds_toArray, List.set_cons_zero, List.set_cons_succ]
    refine wpAnyH_take (i := 5) (v := .pointer (some ⟨D, 0, none⟩)) rfl (by kernel_rfl) (by kernel_rfl) (by kernel_rfl) (fun _ _ _ h => h) (Or.inl ⟨by rfl, ?y5⟩) (by assumption) ?_
    case y5 => (intro w' hSw; obtain ⟨q0, q1, q2⟩ := HSO.out w' hSw; go_simp)
    simp only [List.getElem_toArray, List.getElem_cons_zero, List.getElem_cons_succ, Act.put, List.setIfInBounds_toArray, List.set_cons_zero, List.set_cons_succ]
    refine wpAnyH_take (i := 6) (v := .pointer (some ⟨D, 1, none⟩)) rfl (by kernel_rfl) (by kernel_rfl) (by kernel_rfl) (fun _ _ _ h => h) (Or.inl ⟨by rfl, ?y6⟩) (by assumption) ?_
    case y6 => (intro w' hSw; obtain ⟨q0, q1, q2⟩ := HSO.out w' hSw; go_simp)
    simp only [List.getElem_toArray, List.getElem_cons_zero, List.getElem_cons_succ, Act.put, List.setIfInBounds_toArray, List.set_cons_zero, List.set_cons_succ]
    refine wpAnyH_take (i := 7) (v := .slice (some ⟨q, 0, none⟩) nd cap) rfl (by kernel_rfl) (by kernel_rfl) (by kernel_rfl) (fun _ _ _ h => h) (Or.inl ⟨by rfl, ?y7⟩) (by assumption) ?_
    case y7 => (intro w' hSw; obtain ⟨q0, q1, q2⟩ := HSO.out w' hSw; go_simp)
    simp only [List.getElem_toArray, List.getElem_cons_zero, List.getElem_cons_succ, Act.put, List.setIfInBounds_toArray, List.set_cons_zero, List.set_cons_succ]
    refine wpAnyH_take (i := 8) (v := .int .i64 (j : Nat)) rfl (by kernel_rfl) (by kernel_rfl) (by kernel_rfl) (fun _ _ _ h => h) (Or.inl ⟨by rfl, ?y8⟩) (by assumption) ?_
    case y8 => (intro w' hSw; obtain ⟨q0, q1, q2⟩ := HSO.out w' hSw; go_simp)
    simp only [List.getElem_toArray, List.getElem_cons_zero, List.getElem_cons_succ, Act.put, List.setIfInBounds_toArray, List.set_cons_zero, List.set_cons_succ]
    refine wpAnyH_take (i := 9) (v := .pointer (some ⟨q, j * 4, none⟩)) rfl (by kernel_rfl) (by kernel_rfl) (by kernel_rfl) (fun _ _ _ h => h) (Or.inl ⟨by rfl, ?y9⟩) (by assumption) ?_
    case y9 => (intro w' hSw; obtain ⟨q0, q1, q2⟩ := HSO.out w' hSw; go_simp)
    simp only [List.getElem_toArray, List.getElem_cons_zero, List.getElem_cons_succ, Act.put, List.setIfInBounds_toArray, List.set_cons_zero, List.set_cons_succ]
    refine wpAnyH_take (i := 10) (v := .pointer (some ⟨q, j * 4 + 2, none⟩)) rfl (by kernel_rfl) (by kernel_rfl) (by kernel_rfl) (fun _ _ _ h => h) (Or.inl ⟨by rfl, ?y10⟩) (by assumption) ?_
    case y10 => (intro w' hSw; obtain ⟨q0, q1, q2⟩ := HSO.out w' hSw; go_simp)
    simp only [List.getElem_toArray, List.getElem_cons_zero, List.getElem_cons_succ, Act.put, List.setIfInBounds_toArray, List.set_cons_zero, List.set_cons_succ]
    refine wpAnyH_take (i := 11) (v := .int .i64 (f : Nat)) rfl (by kernel_rfl) (by kernel_rfl) (by kernel_rfl) (fun _ _ _ h => h) (Or.inl ⟨by rfl, ?y11⟩) (by assumption) ?_
    case y11 => (intro w' hSw; obtain ⟨q0, q1, q2⟩ := HSO.out w' hSw; go_simp)
    simp only [List.getElem_toArray, List.getElem_cons_zero, List.getElem_cons_succ, Act.put, List.setIfInBounds_toArray, List.set_cons_zero, List.set_cons_succ]
    refine wpAnyH_take (i := 12) (v := .pointer (some ⟨L, f * 8, none⟩)) rfl (by kernel_rfl) (by kernel_rfl) (by kernel_rfl) (fun _ _ _ h => h) (Or.inl ⟨by rfl, ?y12⟩) (by assumption) ?_
    case y12 => (intro w' hSw; obtain ⟨q0, q1, q2⟩ := HSO.out w' hSw; go_simp)
    simp only [List.getElem_toArray, List.getElem_cons_zero, List.getElem_cons_succ, Act.put, List.setIfInBounds_toArray, List.set_cons_zero, List.set_cons_succ]
    refine wpAnyH_take (i := 13) (v := .agg CE.toArray) rfl (by kernel_rfl) (by kernel_rfl) (by kernel_rfl) (fun _ _ _ h => h) (yieldsIf_load_mid (by rfl) 71 (.tmp 26) rfl L (f * 8) rfl CE _ HSR.out Tryz.underlying71 rfl HI2.out) (by assumption) ?_
    simp only [List.getElem_toArray, List.getElem_cons_zero, List.getElem_cons_succ, Act.put, List.setIfInBounds_toArray, List.set_cons_zero, List.set_cons_succ]
    refine wpAnyH_ready (rs := [14]) (by kernel_rfl) (by simp) ?_
    refine AllReadyH.cons rfl (fun K hK => ?_) AllReadyH.nil
    try simp only [List.getElem_toArray, List.getElem_cons_zero, List.getElem_cons_succ]
    go_simp
    refine CC.out.mono ?_
    rintro e W1 ⟨CA, av', rfl, hCA, hA, hg, hb⟩
    have hS1 : S W1 := HSB.out _ W1 hS0 (fun b hb' => hb.block b (by omega))
    have hN : W1.heap[w.heap.size]? = some (.cells #[.int .i64 0, .int .i64 0, .int .i64 0, .string ⟨#[]⟩, .slice none 0 0, .string ⟨#[]⟩, .int .i64 0, .int .i64 0] 71) := (hb.block _ (Nat.lt_succ_self _)).trans (heap_alloc_new w _)
    have hT0 : W1.there w.heap.size 0 8 := Tr.there_of hN
    have hT : W1.there w.heap.size 0 CA.size := by rw [hCA]; exact hT0
    have hT' : W1.there w.heap.size 0 CA.toList.length := by rw [hCA]; exact hT0
    have o1 : CA.all (·.oneCell') = true := by
      rw [hCA]
      exact all_oneCell_toArray (Tr.cs_one (e := { E f with av := av' }) hA.row.one)
    have i1 : (Tryz.prog.info? 71).map (·.size) = some CA.size := by rw [hCA]; exact Tr.evSize
    have hS2 : S (W1.setCells w.heap.size 0 CA.toList) := HSB.out W1 _ hS1 (fun b hb' => Tr.heap_cells_far (by omega) _ _ _)
    have hB2 : Below w.heap.size w (W1.setCells w.heap.size 0 CA.toList) := Tr.below_cells (Nat.le_refl _) _ _ _ (HB1.out.drew.trans (hb.mono (Nat.le_succ _)))
    have hA2 : Tr.AtOwn (W1.setCells w.heap.size 0 CA.toList) av' (E f).ats := hA.keep (fun g ho _ => by
      have := hg g ho
      exact Tr.heap_cells_far (by omega) _ _ _)
    have hR2 : (W1.setCells w.heap.size 0 CA.toList).rangeAt w.heap.size 0 CA.toList := World.rangeAt_setCells_same W1 _ 0 _ hT'
    have HM2 := hide' (⟨av', by rw [← hCA]; exact hR2, hA2, fun g h9 => Nat.le_of_lt (hg g h9), hB2⟩ : ∃ av', (W1.setCells w.heap.size 0 CA.toList).rangeAt w.heap.size 0 (Tr.Ev.cs { E f with av := av' }).toList ∧ Tr.AtOwn (W1.setCells w.heap.size 0 CA.toList) av' (E f).ats ∧ (∀ g, av'.ownBlock = some g → w.heap.size ≤ g) ∧ Below w.heap.size w (W1.setCells w.heap.size 0 CA.toList))
    clear hCA hA hg hb hN hT0 hT' hB2 hA2 hR2 CC
    refine hK.out _ _ hS1 (fun hHeld9 => ?_)
    clear hK K
    try simp only [List.getElem_toArray, List.getElem_cons_zero, List.getElem_cons_succ, Act.put, List.setIfInBounds_toArray, List.set_cons_zero, List.set_cons_succ]
    refine wpAnyH_ready (rs := [15]) (by kernel_rfl) (by simp) ?_
    refine AllReadyH.cons rfl (fun K hK => ?_) AllReadyH.nil
    try simp only [List.getElem_toArray, List.getElem_cons_zero, List.getElem_cons_succ]
    rw [if_pos (by rfl)]
    refine wp_store_mid 71 (.tmp 4) (.tmp 28) ?_ w.heap.size 0 CA ?_ ?_ hT i1 o1 ?_
    · rfl
    · rfl
    · rfl
    refine hK.out _ _ hS2 (fun hHeld8 => ?_)
    clear hK K
    simp only [Act.put]
    generalize W1.setCells w.heap.size 0 CA.toList = W9 at hHeld8 HM2 ⊢
    refine wpAnyH_take (i := 16) (v := .int .i64 0) rfl (by kernel_rfl) (by kernel_rfl) (by kernel_rfl) (fun _ _ _ h => h) (Or.inl ⟨by rfl, ?y16⟩) (by assumption) ?_
    case y16 => (intro w' hSw; go_simp)
    simp only [List.getElem_toArray, List.getElem_cons_zero, List.getElem_cons_succ, Act.put, List.setIfInBounds_toArray, List.set_cons_zero, List.set_cons_succ]
    refine wpAnyH_done (by kernel_rfl) ?_ _
    show Mid _ _
    rw [HMid.out]
    exact ⟨rfl, rfl, rfl, HM2.out⟩
  · intro e a' W' he
    cases e with
    | normal =>
      have h9 : Mid a' W' := he
      rw [HMid.out] at h9
      obtain ⟨d1, d2, d3, av', r1, r2, r3, r4⟩ := h9
      obtain ⟨tm, df⟩ := a'
      dsimp only at d1 d2 d3
      subst d1
      have hl := run_loadVar_mid (P := Tryz.prog) W' w.heap.size 0 71 _ _ r1 Tryz.underlying71 rfl Tr.evSize
      have hr := Tr.results_ct Tryz.results90 tm ⟨w.heap.size, 0, none⟩ d2 _ W' hl
      rw [d3] at hr
      rename_i Q9 K9 a9
      refine a9 _ _ ?_
      apply wp_ret
      refine bodyPost_ret hr rfl ?_
      exact ⟨av', rfl, r2, r3, r4⟩
    | _ => exact he.elim
end Go.Proofs.YtfockjlegpbooaaGreatDoor
/-
  The mathematics of the axes: numbers one behind the other, the children of a node.
-/
namespace Go.Proofs.YtfockjlegpbooaaGreatDoor
open Go.RowKit
namespace Tr
theorem numL_app {a b c : Int} (h1 : a ≤ b) (h2 : b ≤ c) : numL a c = numL a b ++ numL b c := by
  obtain ⟨k, hk⟩ : ∃ k : Nat, b = a + k := ⟨(b - a).toNat, by omega⟩
  subst hk
  clear h1
  induction k generalizing a with
  | zero => rw [show a + ((0 : Nat) : Int) = a by omega, numL_nil (a := a) (b := a) (by omega)]; rfl
  | succ k ih =>
    have e : a + ((k + 1 : Nat) : Int) = a + 1 + (k : Nat) := by omega
    rw [e] at h2 ⊢
    rw [numL_step (show a < c by omega), numL_step (show a < a + 1 + (k : Nat) by omega), List.cons_append, ← ih h2]
theorem numL_get (a b : Int) (i : Nat) (h : i < (b - a).toNat) : (numL a b)[i]? = some (a + i) := by
  unfold numL
  rw [List.getElem?_map, List.getElem?_range h]
  rfl
theorem numL_mem {a b x : Int} : x ∈ numL a b ↔ a ≤ x ∧ x < b := by
  unfold numL
  rw [List.mem_map]
  constructor
  · rintro ⟨k, h1, rfl⟩
    have := List.mem_range.1 h1
    omega
  · rintro ⟨h1, h2⟩
    exact ⟨(x - a).toNat, List.mem_range.2 (by omega), by omega⟩
/-- the children from x on: each is found behind all that is in the one ahead of it -/
def chF (E : Nat → Ev Value) (n nd : Nat) (a b : Int) : Nat → Int → List (Num a b)
  | 0, _ => []
  | f + 1, x => if h : a ≤ x ∧ x < b then ⟨x, h⟩ :: chF E n nd a b f (bh E n nd x) else []
def chS (E : Nat → Ev Value) (n nd : Nat) (k : Int) : List (Num (k + 1) (bh E n nd k)) := chF E n nd (k + 1) (bh E n nd k) (bh E n nd k - (k + 1)).toNat (k + 1)
theorem bh_up {E : Nat → Ev Value} {n nd : Nat} (h : Shape E (grun E n) nd n) {x : Int} (h0 : -1 ≤ x) (h1 : x < nd) : x < bh E n nd x ∧ bh E n nd x ≤ nd := by
  unfold bh
  split
  · omega
  · obtain ⟨b, z, a1, _, _, _, a5, a6, _⟩ := h.beh x.toNat (by omega)
    omega
theorem bh_in {E : Nat → Ev Value} {n nd : Nat} (h : Shape E (grun E n) nd n) {k x : Int} (h0 : -1 ≤ k) (hk : k < nd) (h1 : k < x) (h2 : x < bh E n nd k) : bh E n nd x ≤ bh E n nd k := by
  have hk2 := (bh_up h h0 hk).2
  by_cases c : k < 0
  · have := (bh_up h (show -1 ≤ x by omega) (by omega)).2
    unfold bh at *
    rw [if_pos c] at *
    exact this
  · have e : bh E n nd k = ((grun E n).nth k.toNat).beh := by unfold bh; rw [if_neg c]
    have e2 : bh E n nd x = ((grun E n).nth x.toNat).beh := by unfold bh; rw [if_neg (by omega)]
    rw [e] at h2 ⊢
    rw [e2]
    exact (h.within (p := k.toNat) (m := x.toNat) (by omega) (by omega) (by omega)).1
theorem chF_fuel {E : Nat → Ev Value} {n nd : Nat} (h : Shape E (grun E n) nd n) {a b : Int} (ha : 0 ≤ a) (hb : b ≤ nd) : ∀ (f f' : Nat) (x : Int), a ≤ x → (b - x).toNat ≤ f → (b - x).toNat ≤ f' → chF E n nd a b f x = chF E n nd a b f' x
  | 0, 0, _, _, _, _ => rfl
  | 0, f' + 1, x, hx, h1, _ => by
    unfold chF
    rw [dif_neg (by omega)]
  | f + 1, 0, x, hx, _, h1 => by
    unfold chF
    rw [dif_neg (by omega)]
  | f + 1, f' + 1, x, hx, h1, h2 => by
    unfold chF
    by_cases c : a ≤ x ∧ x < b
    · rw [dif_pos c, dif_pos c]
      have := (bh_up h (show -1 ≤ x by omega) (by omega)).1
      rw [chF_fuel h ha hb f f' _ (by omega) (by omega) (by omega)]
    · rw [dif_neg c, dif_neg c]
theorem chF_step {E : Nat → Ev Value} {n nd : Nat} (h : Shape E (grun E n) nd n) {a b : Int} (ha : 0 ≤ a) (hb : b ≤ nd) {x : Int} (h1 : a ≤ x) (h2 : x < b) : chF E n nd a b (b - x).toNat x = ⟨x, h1, h2⟩ :: chF E n nd a b (b - bh E n nd x).toNat (bh E n nd x) := by
  have hu := (bh_up h (show -1 ≤ x by omega) (by omega)).1
  rw [chF_fuel h ha hb (b - x).toNat ((b - x).toNat - 1 + 1) x h1 (Nat.le_refl _) (by omega)]
  show (if h : a ≤ x ∧ x < b then _ else _) = _
  rw [dif_pos ⟨h1, h2⟩, chF_fuel h ha hb ((b - x).toNat - 1) (b - bh E n nd x).toNat _ (by omega) (by omega) (Nat.le_refl _)]
theorem chF_end {E : Nat → Ev Value} {n nd : Nat} {a b x : Int} (h : ¬ x < b) : chF E n nd a b (b - x).toNat x = [] := by
  rw [show (b - x).toNat = 0 by omega]
  rfl
/-- the children's numbers -/
def chL (E : Nat → Ev Value) (n nd : Nat) (k : Int) : List Int := (chS E n nd k).map (·.1)
/-- the children, each with what is in it, are all that is in the node -/
theorem chF_flat {E : Nat → Ev Value} {n nd : Nat} (h : Shape E (grun E n) nd n) {k : Int} (h0 : -1 ≤ k) (hk : k < nd) : ∀ (f : Nat) (x : Int), k + 1 ≤ x → x ≤ bh E n nd k → (bh E n nd k - x).toNat = f →
    ((chF E n nd (k + 1) (bh E n nd k) (bh E n nd k - x).toNat x).map (·.1)).flatMap (fun c => c :: numL (c + 1) (bh E n nd c)) = numL x (bh E n nd k) := by
  intro f
  induction f using Nat.strongRecOn with
  | _ f ih =>
    intro x h1 h2 hf
    have hb2 := (bh_up h h0 hk).2
    by_cases c : x < bh E n nd k
    · have hu := (bh_up h (show -1 ≤ x by omega) (by omega)).1
      have hi := bh_in h h0 hk (x := x) (by omega) c
      rw [chF_step h (by omega) hb2 h1 c, List.map_cons, List.flatMap_cons, ih (bh E n nd k - bh E n nd x).toNat (by omega) (bh E n nd x) (by omega) hi rfl]
      dsimp only
      rw [← numL_step hu, ← numL_app (by omega) hi]
    · rw [chF_end c, numL_nil c]
      rfl
theorem chL_flat {E : Nat → Ev Value} {n nd : Nat} (h : Shape E (grun E n) nd n) {k : Int} (h0 : -1 ≤ k) (hk : k < nd) : (chL E n nd k).flatMap (fun c => c :: numL (c + 1) (bh E n nd c)) = numL (k + 1) (bh E n nd k) :=
  chF_flat h h0 hk _ (k + 1) (Int.le_refl _) (by have := (bh_up h h0 hk).1; omega) rfl
/-- what a child's parent is -/
theorem chF_par {E : Nat → Ev Value} {n nd : Nat} (h : Shape E (grun E n) nd n) {k : Int} (h0 : -1 ≤ k) (hk : k < nd) : ∀ (f : Nat) (x : Int), k + 1 ≤ x → (x < bh E n nd k → ((grun E n).nth x.toNat).par = k) → (bh E n nd k - x).toNat = f →
    ∀ c ∈ (chF E n nd (k + 1) (bh E n nd k) (bh E n nd k - x).toNat x).map (·.1), ((grun E n).nth c.toNat).par = k := by
  intro f
  induction f using Nat.strongRecOn with
  | _ f ih =>
    intro x h1 h2 hf
    have hb2 := (bh_up h h0 hk).2
    by_cases c : x < bh E n nd k
    · have hu := bh_up h (show -1 ≤ x by omega) (by omega)
      rw [chF_step h (by omega) hb2 h1 c, List.map_cons]
      intro y hy
      rcases List.mem_cons.1 hy with rfl | hy
      · exact h2 c
      · refine ih (bh E n nd k - bh E n nd x).toNat (by omega) (bh E n nd x) (by omega) (fun hlt => ?_) rfl y hy
        by_cases c0 : k < 0
        · obtain rfl : k = -1 := by omega
          have hp := h2 c
          rcases h.par x.toNat (by omega) with ⟨e, _⟩ | ⟨p, _, e, _⟩
          · have er := h.root.1
            unfold bh at hlt
            rw [if_neg (by omega), if_pos (by omega), e, er] at hlt
            omega
          · rw [e] at hp
            omega
        · have ek : bh E n nd k = ((grun E n).nth k.toNat).beh := by unfold bh; rw [if_neg c0]
          have ex : bh E n nd x = ((grun E n).nth x.toNat).beh := by unfold bh; rw [if_neg (by omega)]
          obtain ⟨j, e1, e2, e3⟩ := h.next (p := k.toNat) (m := x.toNat) (by omega) (by omega) (by rw [h2 c]; omega) (by rw [← ek, ← ex]; exact hlt)
          rw [ex, e1, Int.toNat_natCast, e3]
          omega
    · rw [chF_end c]
      intro y hy
      cases hy
theorem chL_par {E : Nat → Ev Value} {n nd : Nat} (h : Shape E (grun E n) nd n) {k : Int} (h0 : -1 ≤ k) (hk : k < nd) : ∀ c ∈ chL E n nd k, ((grun E n).nth c.toNat).par = k := by
  refine chF_par h h0 hk _ (k + 1) (Int.le_refl _) (fun hlt => ?_) rfl
  by_cases c0 : k < 0
  · obtain rfl : k = -1 := by omega
    exact h.root.2
  · have ek : bh E n nd k = ((grun E n).nth k.toNat).beh := by unfold bh; rw [if_neg c0]
    rw [ek] at hlt
    have := h.child (p := k.toNat) (by omega) (by omega)
    rw [show (k + 1).toNat = k.toNat + 1 by omega, this]
    omega
theorem chL_mem {E : Nat → Ev Value} {n nd : Nat} {k c : Int} (hc : c ∈ chL E n nd k) : k + 1 ≤ c ∧ c < bh E n nd k := by
  unfold chL at hc
  rw [List.mem_map] at hc
  obtain ⟨⟨x, h1, h2⟩, _, rfl⟩ := hc
  exact ⟨h1, h2⟩
theorem chF_len (E : Nat → Ev Value) (n nd : Nat) (a b : Int) : ∀ (f : Nat) (x : Int), (chF E n nd a b f x).length ≤ f
  | 0, _ => Nat.le_refl _
  | f + 1, x => by
    unfold chF
    split
    · have := chF_len E n nd a b f (bh E n nd x)
      simp
      omega
    · simp
theorem chL_len {E : Nat → Ev Value} {n nd : Nat} {k : Int} : (chL E n nd k).length ≤ (bh E n nd k - (k + 1)).toNat := by
  unfold chL
  rw [List.length_map]
  exact chF_len _ _ _ _ _ _ _
end Tr
end Go.Proofs.YtfockjlegpbooaaGreatDoor
/-
  WALKS over Along and gimletlaw09.along at no tree.
-/
namespace Go.Proofs.YtfockjlegpbooaaGreatDoor
open Go.RowKit Go.Shelf Go.Lib
attribute [local go_sem] Oper.semAt_some
namespace Tr
structure NI (N : Nat) {a b : Int} (w : World) (pre : List (Num a b)) (W : World) : Prop where
  below : Below N w W
  box : W.heap[N]? = some (.cells #[.slice none 0 0] 36 (0, 0))
  big : N < W.heap.size
theorem NI.own (N : Nat) {a b : Int} (w : World) (B : Nat) (hB : N ≤ B) : OwnFrom B (NI N (a := a) (b := b) w) := by
  intro pre W W' row h hg hr
  have hk : ∀ (k : Nat) (o : Obj), W.heap[k]? = some o → o.isCells = true → W'.heap[k]? = some o := fun k o h1 h2 => kept_cells hg (fun r e => (hr r e).2) h1 h2
  refine ⟨?_, hk _ _ h.box rfl, Nat.lt_of_lt_of_le h.big hg.size⟩
  exact h.below.trans ⟨hg.os, hg.tape, hg.output, hg.size, fun k hk' => hg.block k (by have := h.big; omega) (fun e => by have := (hr k e.symm).1; omega)⟩
end Tr
set_option maxHeartbeats 1000000 in
theorem nilAlong (k ax : Int) (W : World) :
    Calls Tryz.prog 62 #[.pointer none, .int .i64 k, .int .i64 ax] W fun e w' => e = .returned (.func (.func 104) #[] #[.pointer (some ⟨W.heap.size, 0, none⟩), .pointer (some ⟨W.heap.size + 1, 0, none⟩)]) ∧ w' = (W.alloc (.cells #[.int .i64 0] 3)).alloc (.cells #[.int .i64 0] 3) := by
  have cL := nilLacks k (-1) W
  have cN := trNumbers 0 0 W
  go_enter Tryz.func62, Tryz.ntmps62
  go_wp2_with fail
  refine cL.mono ?_
  rintro e w1 ⟨rfl, rfl⟩
  clear cL
  go_wp2_with fail
  refine cN.mono ?_
  rintro e w1 ⟨rfl, rfl⟩
  go_wp2
  go_ret
  exact ⟨rfl, rfl⟩
end Go.Proofs.YtfockjlegpbooaaGreatDoor
/-
  THE WALK over gimletlaw09.along: whatever iterator Along hands back, what it gives is collected.
-/
namespace Go.Proofs.YtfockjlegpbooaaGreatDoor
open Go.RowKit Go.Shelf Go.Lib
attribute [local go_sem] Oper.semAt_some
namespace Tr
/-- numbers as cells -/
def ic (l : List Int) : List Value := l.map (.int .i64)
theorem ic_length (l : List Int) : (ic l).length = l.length := by simp [ic]
theorem ic_one (l : List Int) : ∀ u ∈ ic l, u.oneCell' = true := by
  intro u hu
  obtain ⟨j, _, rfl⟩ := List.mem_map.1 hu
  rfl
theorem ic_app (l m : List Int) : ic (l ++ m) = ic l ++ ic m := by simp [ic]
theorem ic_get (l : List Int) (i : Nat) (x : Int) (h : l[i]? = some x) : (ic l)[i]? = some (.int .i64 x) := by simp [ic, h]
theorem intInfo : (Tryz.prog.info? 3).map (fun i => (i.zero, i.size, i.bytes)) = some (some (.int .i64 0), 1, 8) := by kernel_rfl
/-- what the loop keeps: N is the box of what is collected, M where the heap ended ahead of the loop -/
structure CI (N M : Nat) {a b : Int} (w W1 : World) (pre : List (Num a b)) (W : World) : Prop where
  below : Below N w W
  same : ∀ k, k < M → k ≠ N → W.heap[k]? = W1.heap[k]?
  box : ∃ v, Boxed W N 36 v ∧ W.ownsRow M 3 1 v pre.length (ic (vals pre)) ∧ True
  lt : N < M
  le : M ≤ W.heap.size
theorem CI.own (N M : Nat) {a b : Int} (w W1 : World) (B : Nat) (hB : M ≤ B) : OwnFrom B (CI N M (a := a) (b := b) w W1) := by
  intro pre W W' row h hg hr
  have h1 := h.lt
  have h2 := h.le
  refine ⟨?_, fun k hk hn => ?_, ?_, h.lt, Nat.le_trans h.le hg.size⟩
  · exact h.below.trans ⟨hg.os, hg.tape, hg.output, hg.size, fun k hk' => hg.block k (by omega) (fun e => by have := (hr k e.symm).1; omega)⟩
  · exact (hg.block k (by omega) (fun e => by have := (hr k e.symm).1; omega)).trans (h.same k hk hn)
  · exact holdsRow_own (β := List (Num a b)) M N 36 3 1 (fun s => s.length) (fun s => ic (vals s)) (fun _ _ => True) pre W W' row h.box hg (fun r e => (hr r e).2)
end Tr
end Go.Proofs.YtfockjlegpbooaaGreatDoor
/-
  Rows of numbers: append of one to another; THE WALK over gimletlaw09.ints at two rows that say the same.
-/
namespace Go.Proofs.YtfockjlegpbooaaGreatDoor
open Go.RowKit Go.Shelf Go.Lib
namespace Tr
/-- a row of numbers of one's own -/
def IO (W : World) (B : Nat) (v : Value) (l : List Int) : Prop := W.ownsRow B 3 1 v l.length (ic l)
/-- a row of numbers, to be read -/
def IRow (W : World) (v : Value) (n : Nat) (l : List Int) : Prop := ∃ p cap, v = .slice p n cap ∧ n ≤ cap ∧ cap ≤ 9223372036854775807 ∧ l.length = n ∧ (0 < n → ∃ b o, p = some ⟨b, o, none⟩ ∧ ∀ i x, l[i]? = some x → W.cell? ⟨b, o + i, none⟩ = some (.int .i64 x))
theorem IO.row {W : World} {B : Nat} {v : Value} {l : List Int} (h : IO W B v l) : IRow W v l.length l := by
  obtain ⟨p, cap, rfl, h1, h2, h3, h4⟩ := owns_sl h
  refine ⟨p, cap, rfl, h1, h2, rfl, fun h0 => ?_⟩
  obtain ⟨g, rfl⟩ := h3 h0
  refine ⟨g, 0, rfl, fun i x hx => ?_⟩
  have := h.cells (g := g) rfl i _ (ic_get l i x hx)
  rw [Go.WideShapes.add_plain] at this
  exact this
theorem IO.below {W W' : World} {B : Nat} {v : Value} {l : List Int} (h : IO W B v l) (hb : Below W.heap.size W W') : IO W' B v l := owns_block h (fun g _ hl => hb.block g hl)
theorem IRow.below {W W' : World} {v : Value} {n : Nat} {l : List Int} (h : IRow W v n l) (hb : Below W.heap.size W W') : IRow W' v n l := by
  obtain ⟨p, cap, rfl, h1, h2, h3, h4⟩ := h
  refine ⟨p, cap, rfl, h1, h2, h3, fun h0 => ?_⟩
  obtain ⟨b, o, rfl, hc⟩ := h4 h0
  exact ⟨b, o, rfl, fun i x hx => (hb.cell (p := ⟨b, o + i, none⟩) (block_lt_of_cell (hc i x hx))).trans (hc i x hx)⟩
/-- append of a row of numbers to one of one's own, where the guard says yes -/
theorem append_ints {w : World} {ops : Array Oper} {rest : List Oper} {o : Oper} {a : Act} {Q : Exit → Act → World → Prop} (hw : Region.wanted o (yielded ops a.tmps) = true) (s x : Operand)
    (ho : o.op = .call { callee := .builtin .append, args := #[s, x], argTypes := #[36, 36] }) (base base2 : Nat) (v u : Value) (l m : List Int) (hs : a.eval s = v) (hown : IO w base v l) (hx : a.eval x = u) (hu : IO w base2 u m) (hb : l.length + m.length ≤ 1000000) (hbase : base ≤ w.heap.size)
    (h : ∀ v' w', IO w' base v' (l ++ m) → w.grownBy w' v.ownBlock → wpList Tryz.prog ops Q rest (a.put o.dst v') w') : wpList Tryz.prog ops Q (o :: rest) a w := by
  obtain ⟨i0, hi, hz0, hz1, hz2⟩ := info_parts intInfo
  refine wpList_step fun K hK => ?_
  rw [if_pos hw]
  have hR : ∃ v' w', (Builtin.append_ #[36, 36] o.type #[v, u]).run Tryz.prog w = .ok v' w' ∧ IO w' base v' (l ++ m) ∧ w.grownBy w' v.ownBlock := by
    rcases hu.2 with ⟨rfl, e⟩ | ⟨g, cap, cur, rfl, _⟩
    · have hn : m = [] := List.eq_nil_of_length_eq_zero e
      subst hn
      rw [List.append_nil]
      exact ⟨v, w, run_append_owned_none w base 36 o.type 3 i0 1 Tryz.underlying36 hi v _ _ hown, hown, ⟨rfl, rfl, rfl, Nat.le_refl _, fun _ _ _ => rfl⟩⟩
    · obtain ⟨v', w', hr, h2, h3, _⟩ := run_append_own (P := Tryz.prog) w base 36 o.type 3 i0 (.int .i64 0) 1 8 Tryz.underlying36 hi hz0 hz1 hz2 rfl (by decide) v _ _ hown ⟨g, 0, none⟩ m.length cap (ic m) (by rw [ic_length]; omega) (hu.cells (g := g) rfl) (ic_one m) (by unfold maxLen; omega) (by omega) hbase
      refine ⟨v', w', hr, ?_, h3⟩
      unfold IO
      rw [List.length_append, ic_app]
      exact h2
  obtain ⟨v', w', hr, h2, h3⟩ := hR
  unfold Oper.wp execOp
  simp only [ho, resolve, invoke, builtin, Sem.run_bind, Sem.run_pure, Result.andThen_ok, List.map_toArray, List.map_cons, List.map_nil, hs, hx, hr]
  exact hK _ _ (h v' w' h2 h3)
end Tr
end Go.Proofs.YtfockjlegpbooaaGreatDoor
/-
  WALKS over (*tree.Tree).children and the function that it hands back; Along by child.
-/
namespace Go.Proofs.YtfockjlegpbooaaGreatDoor
open Go.RowKit Go.Shelf Go.Lib
attribute [local go_sem] Oper.semAt_some
namespace Tr
/-- what 'behind' reads of a tree -/
structure TN (W : World) (D q cap nd n : Nat) (E : Nat → Ev Value) : Prop where
  c1 : W.cell? ⟨D, 1, none⟩ = some (.slice (some ⟨q, 0, none⟩) nd cap)
  nb : ∀ k, k < nd → W.cell? ⟨q, k * 4 + 1, none⟩ = some (.int .i64 ((grun E n).nth k).beh)
theorem TreeR.tn {W : World} {B D n : Nat} {E : Nat → Ev Value} {L q cap nd : Nat} (h : TreeR W B D n E L q cap nd) : TN W D q cap nd n E := ⟨h.c1, fun _ hk => (h.node hk).2.1⟩
/-- these blocks are as they were -/
def Keep4 (a b c d : Nat) (W W' : World) : Prop := ∀ k, k = a ∨ k = b ∨ k = c ∨ k = d → W'.heap[k]? = W.heap[k]?
theorem keep4_t {a b c d : Nat} {A B C : World} (h : Keep4 a b c d A B) (k : Keep4 a b c d B C) : Keep4 a b c d A C := fun i hi => (k i hi).trans (h i hi)
theorem keep4_b {a b c d N : Nat} (ha : a < N) (hb : b < N) (hc : c < N) (hd : d < N) (W : World) (l : Nat) (o o' : Obj) (h1 : N ≤ l) (_ : W.heap[l]? = some o) (_ : o.isCells = false) (_ : o.isWalk = false) : Keep4 a b c d W (W.putObj l o') :=
  fun k hk => World.putObj_heap_other (by omega)
theorem TN.keep {W W' : World} {D q cap nd n : Nat} {E : Nat → Ev Value} (h : TN W D q cap nd n E) (hD : W'.heap[D]? = W.heap[D]?) (hq : W'.heap[q]? = W.heap[q]?) : TN W' D q cap nd n E :=
  ⟨(World.cell?_of_block (a := ⟨D, 1, none⟩) hD).trans h.c1, fun k hk => (World.cell?_of_block (a := ⟨q, k * 4 + 1, none⟩) hq).trans (h.nb k hk)⟩
end Tr
set_option maxHeartbeats 1000000 in
theorem trBehindN (W : World) (D q cap nd n : Nat) (E : Nat → Tr.Ev Value) (h : Tr.TN W D q cap nd n E) (k : Int) (hk : k < nd) :
    Calls Tryz.prog 89 #[.pointer (some ⟨D, 0, none⟩), .int .i64 k] W fun e w' => e = .returned (.int .i64 (Tr.bh E n nd k)) ∧ w' = W := by
  have c1 := h.c1
  unfold Tr.bh
  by_cases h1 : k < 0
  · rw [if_pos h1]
    clear h
    go_enter Tryz.func89, Tryz.ntmps89
    go_wp2
    go_ret
    exact ⟨rfl, rfl⟩
  · rw [if_neg h1]
    obtain ⟨j, rfl⟩ : ∃ j : Nat, k = j := ⟨k.toNat, by omega⟩
    have c2 := h.nb j (by omega)
    rw [Int.toNat_natCast]
    clear h
    go_enter Tryz.func89, Tryz.ntmps89
    go_wp2
    go_ret
    exact ⟨rfl, rfl⟩
set_option maxRecDepth 100000 in
set_option maxHeartbeats 2000000 in
/-- the function that children hands back -/
theorem trCh1 (m : Nat) (hm : 1 ≤ m) (l Bt Bn D q cap nd n : Nat) (E : Nat → Tr.Ev Value) (k : Int) (hsh : Tr.Shape E (Tr.grun E n) nd n) (hk0 : -1 ≤ k) (hk : k < nd) (hnd : nd ≤ 1048576) (J Jx : List (Tr.Num (k + 1) (Tr.bh E n nd k)) → World → Prop) (W : World)
    (hY : ∀ pre x W1, J pre W1 → pre.length < (Tr.chS E n nd k).length → YieldAt Fence.wide (m - 1) Tryz.prog l (Tr.encI x) W1 fun e W' =>
      (e = .returned (.bool true) ∧ J (pre ++ [x]) W' ∧ Tr.Keep4 Bt Bn D q W1 W') ∨ (e = .returned (.bool false) ∧ Jx (pre ++ [x]) W'))
    (hBt : W.cell? ⟨Bt, 0, none⟩ = some (.pointer (some ⟨D, 0, none⟩))) (hBn : W.cell? ⟨Bn, 0, none⟩ = some (.int .i64 k)) (hT : Tr.TN W D q cap nd n E) (h0 : J [] W) :
    CallsIn Fence.wide m Tryz.prog 105 #[.func (.yield l) #[] #[], .pointer (some ⟨Bt, 0, none⟩), .pointer (some ⟨Bn, 0, none⟩)] W fun e W' => (∃ v, e = .returned v) ∧
      ((∃ ys, ys = Tr.chS E n nd k ∧ J ys W') ∨ (∃ pre, pre <+: Tr.chS E n nd k ∧ Jx pre W')) := by
  have hbu := Tr.bh_up hsh hk0 hk
  have hstep : ∀ x, k + 1 ≤ x → x < Tr.bh E n nd k → ∃ h, Tr.chF E n nd (k + 1) (Tr.bh E n nd k) (Tr.bh E n nd k - x).toNat x = ⟨x, h⟩ :: Tr.chF E n nd (k + 1) (Tr.bh E n nd k) (Tr.bh E n nd k - Tr.bh E n nd x).toNat (Tr.bh E n nd x) := fun x h1 h2 => ⟨⟨h1, h2⟩, Tr.chF_step hsh (by omega) hbu.2 h1 h2⟩
  have hend : ∀ x, ¬ x < Tr.bh E n nd k → Tr.chF E n nd (k + 1) (Tr.bh E n nd k) (Tr.bh E n nd k - x).toNat x = [] := fun x h => Tr.chF_end h
  have hin : ∀ x, k + 1 ≤ x → x < Tr.bh E n nd k → x < Tr.bh E n nd x ∧ Tr.bh E n nd x ≤ Tr.bh E n nd k := fun x h1 h2 => ⟨(Tr.bh_up hsh (by omega) (by omega)).1, Tr.bh_in hsh hk0 hk (by omega) h2⟩
  have hCS : Tr.chS E n nd k = Tr.chF E n nd (k + 1) (Tr.bh E n nd k) (Tr.bh E n nd k - (k + 1)).toNat (k + 1) := rfl
  have cB : ∀ W1 x, Tr.TN W1 D q cap nd n E → x < (nd : Int) → _ := fun W1 x h1 h2 => trBehindN W1 D q cap nd n E h1 x h2
  have C0 := hide' (cB W k hT hk)
  generalize Tr.chS E n nd k = CS at *
  obtain ⟨b, hb⟩ : ∃ b, Tr.bh E n nd k = b := ⟨_, rfl⟩
  have HST := hide' hstep
  have HEN := hide' hend
  have HIN := hide' hin
  have HCB := hide' cB
  have HCS := hide' hCS
  have HT := hide' hT
  have HY := hide' hY
  have hw : IntKind.i64.wrap (k + 1) = k + 1 := by rw [IntKind.wrap_i64]; omega
  clear hstep hend hin cB hCS hT hY hsh hb
  obtain ⟨hb1, hb2⟩ := hbu
  generalize Tr.bh E n nd k = b at *
  refine callsIn_of_wp Tryz.func105 rfl trivial ?_ rfl
  simp only [Tryz.ntmps105, List.size_toArray, List.length_cons, List.length_nil, Nat.reduceAdd, Nat.reduceSub, Array.replicate_succ, Array.replicate_zero, List.push_toArray, List.append_toArray, List.nil_append, List.cons_append]
  gi_wp2_with fail
  refine ⟨trivial, ?_⟩
  refine (callsIn_wide.2 C0.out).mono ?_
  rintro e w1 ⟨rfl, rfl⟩
  clear C0
  gi_wp2
  gi_loopw [5] (fun v wr => ∃ (x : Int) (ps : List (Tr.Num (k + 1) b)), v = .int .i64 x ∧ k + 1 ≤ x ∧ x ≤ b ∧ Hid (ps ++ Tr.chF E n nd (k + 1) b (b - x).toNat x = CS) ∧ J ps wr ∧ wr.cell? ⟨Bt, 0, none⟩ = some (.pointer (some ⟨D, 0, none⟩)) ∧ Hid (Tr.TN wr D q cap nd n E)) (fun v _ => (b - RowKit.intOf v).toNat)
  case atStart => exact ⟨k + 1, [], rfl, Int.le_refl _, by omega, HCS.out.symm, h0, hBt, HT⟩
  case round =>
    obtain ⟨x, ps, rfl, hx1, hx2, hq, hJs, cT, HTN⟩ := hrel
    by_cases hlt : x < b
    · have hq2 := hq.out
      obtain ⟨hh, e⟩ := HST.out x hx1 hlt
      rw [e] at hq2
      have hln := congrArg List.length hq2
      rw [List.length_append, List.length_cons] at hln
      obtain ⟨fn, tmps, assign, body, hy, hR⟩ := HY.out ps ⟨x, hh⟩ wr hJs (by omega)
      simp only [Tr.encI] at hy
      have HQ := hide' hq2
      obtain ⟨hi1, hi2⟩ := HIN.out x hx1 hlt
      have hxn : x < (nd : Int) := by omega
      clear hq hq2 HY hJs hln e
      gi_wp2
      refine hR.mono ?_
      rintro e W3 (⟨rfl, hJ3, hk3⟩ | ⟨rfl, hJx3⟩)
      · have cT3 : W3.cell? ⟨Bt, 0, none⟩ = some (.pointer (some ⟨D, 0, none⟩)) := (World.cell?_of_block (a := ⟨Bt, 0, none⟩) (hk3 Bt (.inl rfl))).trans cT
        have hT3 : Tr.TN W3 D q cap nd n E := HTN.out.keep (hk3 D (.inr (.inr (.inl rfl)))) (hk3 q (.inr (.inr (.inr rfl))))
        have HT3 := hide' hT3
        have C3 := hide' (HCB.out W3 x hT3 hxn)
        clear hT3 hk3
        gi_wp2_with fail
        refine ⟨trivial, ?_⟩
        refine (callsIn_wide.2 C3.out).mono ?_
        rintro e w4 ⟨rfl, rfl⟩
        clear C3
        gi_wp2
        go_roundw
        case rel => exact ⟨Tr.bh E n nd x, ps ++ [⟨x, hh⟩], rfl, by omega, hi2, by show _ = _; rw [List.append_assoc]; exact HQ.out, hJ3, cT3, HT3⟩
        case measure => simp [RowKit.intOf]; omega
      · gi_wp2
        refine bodyPost_ret (results_none rfl _ _ _) rfl ?_
        exact ⟨⟨_, rfl⟩, .inr ⟨_, ⟨_, by rw [List.append_assoc]; exact HQ.out⟩, hJx3⟩⟩
    · have hq2 := hq.out
      rw [HEN.out x (by omega), List.append_nil] at hq2
      have HQ := hide' hq2
      clear hq hq2 HY
      gi_wp2
      go_end0
      exact ⟨⟨_, rfl⟩, .inl (by rw [← HQ.out]; exact hJs)⟩
theorem trCh_stops (m : Nat) (hm : 1 ≤ m) (Bt Bn B D n : Nat) (E : Nat → Tr.Ev Value) (L q cap nd : Nat) (k : Int) (hk0 : -1 ≤ k) (hk : k < nd) (hnd : nd ≤ 1048576) (w : World) (h : Tr.TreeR w B D n E L q cap nd) (hBt : w.cell? ⟨Bt, 0, none⟩ = some (.pointer (some ⟨D, 0, none⟩))) (hBn : w.cell? ⟨Bn, 0, none⟩ = some (.int .i64 k)) :
    SeqStopsK Fence.wide m Tryz.prog 105 #[.pointer (some ⟨Bt, 0, none⟩), .pointer (some ⟨Bn, 0, none⟩)] (Tr.encI (a := k + 1) (b := Tr.bh E n nd k)) (Tr.Keep4 Bt Bn D q) (fun ys => ys = Tr.chS E n nd k) (fun pre => pre <+: Tr.chS E n nd k) (Tr.chS E n nd k).length w := fun l J Jx W hW _ _ hY h0 =>
  trCh1 m hm l Bt Bn D q cap nd n E k h.shp hk0 hk hnd J Jx W hY ((hW.cell (p := ⟨Bt, 0, none⟩) (block_lt_of_cell hBt)).trans hBt) ((hW.cell (p := ⟨Bn, 0, none⟩) (block_lt_of_cell hBn)).trans hBn) (h.below hW).tn h0
theorem trChildren (D : Nat) (k : Int) (w : World) :
    Calls Tryz.prog 88 #[.pointer (some ⟨D, 0, none⟩), .int .i64 k] w fun e w' => e = .returned (.func (.func 105) #[] #[.pointer (some ⟨w.heap.size, 0, none⟩), .pointer (some ⟨w.heap.size + 1, 0, none⟩)]) ∧ w' = (w.alloc (.cells #[.pointer (some ⟨D, 0, none⟩)] 27)).alloc (.cells #[.int .i64 k] 3) := by
  go_enter Tryz.func88, Tryz.ntmps88
  go_wp2
  go_ret
  exact ⟨rfl, rfl⟩
set_option maxHeartbeats 2000000 in
theorem trAlongC (W : World) (B D n : Nat) (E : Nat → Tr.Ev Value) (L q cap nd : Nat) (h : Tr.TreeR W B D n E L q cap nd) (k : Int) (h0 : -1 ≤ k) (h1 : k < nd) :
    Calls Tryz.prog 62 #[.pointer (some ⟨D, 0, none⟩), .int .i64 k, .int .i64 0] W fun e w' => e = .returned (.func (.func 105) #[] #[.pointer (some ⟨W.heap.size, 0, none⟩), .pointer (some ⟨W.heap.size + 1, 0, none⟩)]) ∧ w' = (W.alloc (.cells #[.pointer (some ⟨D, 0, none⟩)] 27)).alloc (.cells #[.int .i64 k] 3) := by
  have cL := trLacks W B D n E L q cap nd h k (-1)
  rw [if_neg (by omega)] at cL
  have CC := hide' (trChildren D k W)
  clear h
  go_enter Tryz.func62, Tryz.ntmps62
  go_wp2_with fail
  refine cL.mono ?_
  rintro e w1 ⟨rfl, rfl⟩
  clear cL
  go_wp2_with fail
  refine CC.out.mono ?_
  rintro e w1 ⟨rfl, rfl⟩
  clear CC
  go_wp2_with fail
  go_ret
  exact ⟨rfl, rfl⟩
end Go.Proofs.YtfockjlegpbooaaGreatDoor
/-
  WALKS over (*tree.Tree).Parent and gimletlaw09.along at a tree, by every axis.
-/
namespace Go.Proofs.YtfockjlegpbooaaGreatDoor
open Go.RowKit Go.Shelf Go.Lib
set_option maxHeartbeats 1000000 in
theorem trParent (W : World) (B D n : Nat) (E : Nat → Tr.Ev Value) (L q cap nd : Nat) (h : Tr.TreeR W B D n E L q cap nd) (k : Int) :
    Calls Tryz.prog 91 #[.pointer (some ⟨D, 0, none⟩), .int .i64 k] W fun e w' => e = .returned (if k < 0 ∨ (nd : Int) ≤ k then .tuple #[.int .i64 0, .int .i64 2] else .tuple #[.int .i64 ((Tr.grun E n).nth k.toNat).par, .int .i64 0]) ∧ w' = W := by
  have cL := trLacks W B D n E L q cap nd h k 0
  have c1 := h.c1
  by_cases hk : k < 0 ∨ (nd : Int) ≤ k
  · rw [if_pos hk] at cL ⊢
    clear h hk
    go_enter Tryz.func91, Tryz.ntmps91
    go_wp2_with fail
    refine cL.mono ?_
    rintro e w1 ⟨rfl, rfl⟩
    clear cL
    go_wp2_with fail
    go_ret2
    exact ⟨rfl, rfl⟩
  · rw [if_neg hk] at cL ⊢
    obtain ⟨j, rfl⟩ : ∃ j : Nat, k = j := ⟨k.toNat, by omega⟩
    obtain ⟨c2, _⟩ := h.node (k := j) (by omega)
    rw [Int.toNat_natCast]
    have t1 : (j : Int) < (nd : Int) := by omega
    have t0 : (0 : Int) ≤ j := by omega
    clear h hk
    go_enter Tryz.func91, Tryz.ntmps91
    go_wp2_with fail
    refine cL.mono ?_
    rintro e w1 ⟨rfl, rfl⟩
    clear cL
    go_wp2_with fail
    go_ret2
    exact ⟨rfl, rfl⟩
namespace Tr
theorem alF_bound {E : Nat → Ev Value} {n nd : Nat} (h : Shape E (grun E n) nd n) (k ax : Int) : -1 ≤ (alF E n nd k ax).1 ∧ (alF E n nd k ax).2 ≤ nd := by
  unfold alF
  split
  · exact ⟨by decide, by dsimp only; omega⟩
  · have := (bh_up h (show -1 ≤ k by omega) (by omega)).2
    split
    · exact ⟨by dsimp only; omega, this⟩
    split
    · exact ⟨by dsimp only; omega, this⟩
    split
    · exact ⟨by dsimp only; omega, by dsimp only; omega⟩
    · exact ⟨by decide, by dsimp only; omega⟩
/-- a collected row of numbers -/
theorem io_of {W : World} {B : Nat} {v : Value} {a b : Int} {ys : List (Num a b)} {l : List Int} (h : W.ownsRow B 3 1 v ys.length (ic (vals ys))) (e : vals ys = l) : IO W B v l := by
  subst e
  unfold IO
  rw [show (vals ys).length = ys.length by simp [vals]]
  exact h
theorem io_new (w : World) (x : Int) : IO (w.alloc (.cells #[.int .i64 x] 3)) w.heap.size (.slice (some ⟨w.heap.size, 0, none⟩) 1 1) [x] :=
  ⟨rfl, .inr ⟨w.heap.size, 1, #[.int .i64 x], rfl, Nat.le_refl _, World.alloc_heap_new w _, Nat.le_refl _, by decide, rfl, rfl⟩⟩
theorem io_nil (w : World) (B : Nat) : IO w B (.slice none 0 0) [] := ⟨rfl, .inl ⟨rfl, rfl⟩⟩
/-- what along answers -/
def AlE (w : World) (l : List Int) (e : Ending) (w' : World) : Prop := ∃ v, e = .returned v ∧ IO w' w.heap.size v l ∧ Below w.heap.size w w'
end Tr
end Go.Proofs.YtfockjlegpbooaaGreatDoor
