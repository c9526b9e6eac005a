/-
  THE WALK over mean.groundOf.
-/
import Derived.Test.YtfockjlegpbooaaGreatDoorMnGrM
namespace Go.Proofs.YtfockjlegpbooaaGreatDoor
open Go.RowKit Go.Shelf Go.Lib
attribute [local go_sem] Oper.semAt_some
namespace Mn
theorem alF_or {E : Nat → Tr.Ev Value} {n nd : Nat} {k : Int} (h0 : -1 ≤ k) (h1 : k < nd) : Tr.alF E n nd k 2 = (k, Tr.bh E n nd k) := by
  unfold Tr.alF
  rw [if_neg (by omega), if_neg (by decide), if_pos rfl]
/-- ahead of the loop -/
structure G0 (w : World) (D : Nat) (k : Int) (tx : ByteArray) (W : World) : Prop where
  bel : Below w.heap.size w W
  bt : Boxed W w.heap.size 27 (.pointer (some ⟨D, 0, none⟩))
  bn : Boxed W (w.heap.size + 1) 3 (.int .i64 k)
  gr : W.heap[w.heap.size + 1 + 1]? = some (.cells #[.int .i64 k, .string tx, .slice none 0 0] 111 (0, 0))
  bg : Boxed W (w.heap.size + 1 + 1 + 1) 86 (.pointer (some ⟨w.heap.size + 1 + 1, 0, none⟩))
theorem G0.cells {w W : World} {D : Nat} {k : Int} {tx : ByteArray} (h : G0 w D k tx W) : W.cell? ⟨w.heap.size, 0, none⟩ = some (.pointer (some ⟨D, 0, none⟩)) ∧ W.cell? ⟨w.heap.size + 1, 0, none⟩ = some (.int .i64 k) ∧ W.cell? ⟨w.heap.size + 1 + 1 + 1, 0, none⟩ = some (.pointer (some ⟨w.heap.size + 1 + 1, 0, none⟩)) ∧ True :=
  ⟨h.bt.cell, h.bn.cell, h.bg.cell, trivial⟩
theorem G0.go {w W W' : World} {D : Nat} {k : Int} {tx : ByteArray} (h : G0 w D k tx W) (hb : Below W.heap.size W W') : G0 w D k tx W' :=
  ⟨h.bel.trans (hb.mono h.bel.size), (hb.block _ h.bt.lt).trans h.bt, (hb.block _ h.bn.lt).trans h.bn, (hb.block _ (Array.getElem?_eq_some_iff.1 h.gr).1).trans h.gr, (hb.block _ h.bg.lt).trans h.bg⟩
theorem G0.put {w W : World} {D : Nat} {k : Int} {tx : ByteArray} (h : G0 w D k tx W) (tx' : ByteArray) : G0 w D k tx' (W.setCell ⟨w.heap.size + 1 + 1, 1, none⟩ (.string tx')) :=
  ⟨h.bel.setCell (p := ⟨w.heap.size + 1 + 1, 1, none⟩) (by show w.heap.size ≤ w.heap.size + 1 + 1; omega) _, (Below.heap_setCell _ _ _ _ (by show w.heap.size ≠ w.heap.size + 1 + 1; omega)).trans h.bt, (Below.heap_setCell _ _ _ _ (by show w.heap.size + 1 ≠ w.heap.size + 1 + 1; omega)).trans h.bn, Go.Joins.block_setCell (i := 1) h.gr _, (Below.heap_setCell _ _ _ _ (by show w.heap.size + 1 + 1 + 1 ≠ w.heap.size + 1 + 1; omega)).trans h.bg⟩
theorem g0_start (w : World) (D : Nat) (k : Int) {W : World} (e : ((((w.alloc (.cells #[.pointer (some ⟨D, 0, none⟩)] 27)).alloc (.cells #[.int .i64 k] 3)).alloc (.cells #[.int .i64 k, .string ⟨#[]⟩, .slice none 0 0] 111)).alloc (.cells #[.pointer (some ⟨w.heap.size + 1 + 1, 0, none⟩)] 86)) = W) : G0 w D k ⟨#[]⟩ W := by
  subst e
  obtain ⟨a1, ha1⟩ : ∃ a1, w.alloc (.cells #[.pointer (some ⟨D, 0, none⟩)] 27) = a1 := ⟨_, rfl⟩
  have z1 : a1.heap.size = w.heap.size + 1 := by rw [← ha1]; simp
  have b1 : Boxed a1 w.heap.size 27 (.pointer (some ⟨D, 0, none⟩)) := by rw [← ha1]; exact Boxed.new _ _ _
  have l1 : Below w.heap.size w a1 := by rw [← ha1]; exact (Below.refl _ _).alloc (Nat.le_refl _) _
  rw [ha1]
  clear ha1
  obtain ⟨a2, ha2⟩ : ∃ a2, a1.alloc (.cells #[.int .i64 k] 3) = a2 := ⟨_, rfl⟩
  have z2 : a2.heap.size = w.heap.size + 1 + 1 := by rw [← ha2]; simp [z1]
  have b2 : Boxed a2 (w.heap.size + 1) 3 (.int .i64 k) := by rw [← ha2, ← z1]; exact Boxed.new _ _ _
  have b1 : Boxed a2 w.heap.size 27 (.pointer (some ⟨D, 0, none⟩)) := by rw [← ha2]; exact b1.alloc _
  have l1 : Below w.heap.size w a2 := by rw [← ha2]; exact l1.alloc l1.size _
  rw [ha2]
  clear ha2
  obtain ⟨a3, ha3⟩ : ∃ a3, a2.alloc (.cells #[.int .i64 k, .string ⟨#[]⟩, .slice none 0 0] 111) = a3 := ⟨_, rfl⟩
  have z3 : a3.heap.size = w.heap.size + 1 + 1 + 1 := by rw [← ha3]; simp [z2]
  have b3 : a3.heap[w.heap.size + 1 + 1]? = some (.cells #[.int .i64 k, .string ⟨#[]⟩, .slice none 0 0] 111 (0, 0)) := by rw [← ha3, ← z2]; exact heap_alloc_new a2 _
  have b2 : Boxed a3 (w.heap.size + 1) 3 (.int .i64 k) := by rw [← ha3]; exact b2.alloc _
  have b1 : Boxed a3 w.heap.size 27 (.pointer (some ⟨D, 0, none⟩)) := by rw [← ha3]; exact b1.alloc _
  have l1 : Below w.heap.size w a3 := by rw [← ha3]; exact l1.alloc l1.size _
  rw [ha3]
  clear ha3
  refine ⟨l1.alloc l1.size _, b1.alloc _, b2.alloc _, (Below.heap_alloc _ _ _ (by omega)).trans b3, ?_⟩
  rw [← z3]
  exact Boxed.new _ _ _
/-- what groundOf answers -/
def GroundE (E : Nat → Tr.Ev Value) (n nd : Nat) (k : Int) (tx : ByteArray) (w : World) (r : Ending) (w' : World) : Prop :=
  ∃ G M v l, r = .returned (.pointer (some ⟨G, 0, none⟩)) ∧ Below w.heap.size w w' ∧ w.heap.size ≤ G ∧ GR w' M G k tx v (str l (l.length - 1)) ∧ SPS w' M E n k (Tr.numL k (Tr.bh E n nd k)) l
/-- what the last region of a round keeps -/
def SB (w : World) (b : Nat) (cs : Array Value) (W : World) : Prop := Boxed W (w.heap.size + 1 + 1 + 1) 86 (.pointer (some ⟨w.heap.size + 1 + 1, 0, none⟩)) ∧ W.heap[b]? = some (.cells cs 118 (0, 0))
end Mn
set_option maxRecDepth 100000 in
set_option maxHeartbeats 4000000 in
theorem mnGround (w : World) (B D n : Nat) (E : Nat → Tr.Ev Value) (L q cap nd : Nat) (h : Tr.TreeR w B D n E L q cap nd) (hs : ∀ i, i < n → Tr.Tiny (E i)) (hn : n ≤ 1048576) (k : Int) (hk1 : -1 ≤ k) (hk2 : k < nd) :
    Calls Tryz.prog 33 #[.pointer (some ⟨D, 0, none⟩), .int .i64 k] w fun r w' => Mn.GroundE E n nd k ⟨(Tr.vtx E n (Tr.numL k (Tr.bh E n nd k))).toArray⟩ w r w' := by
  refine (callsIn_wide (n := 6)).1 ?_
  refine callsIn_of_wp_marks Tryz.func33 rfl trivial ?_ rfl
  simp only [Tryz.ntmps33, List.size_toArray, List.length_cons, List.length_nil, Nat.reduceAdd, Nat.reduceSub, Array.replicate_succ, Array.replicate_zero, List.push_toArray, List.append_toArray, List.nil_append, List.cons_append]
  have hndn := h.shp.ndn
  have HTR := hide' h
  have HS := hide' hs
  obtain ⟨TX, hTX⟩ : ∃ TX : ByteArray, ⟨(Tr.vtx E n (Tr.numL k (Tr.bh E n nd k))).toArray⟩ = TX := ⟨_, rfl⟩
  have CV : Hid (∀ W, Below w.heap.size w W → Calls Tryz.prog 61 #[.pointer (some ⟨D, 0, none⟩), .int .i64 k] W fun e w' => e = .returned (.tuple #[.string TX, .int .i64 0]) ∧ Below W.heap.size W w') := fun W hb => by
    rw [← hTX]
    exact trValue W B D n E L q cap nd (h.below hb) hs hn k hk1 hk2
  rw [hTX]
  clear h hs hTX
  gi_wp2_with fail
  obtain ⟨W0, hW0⟩ : ∃ W0, ((((w.alloc (.cells #[.pointer (some ⟨D, 0, none⟩)] 27)).alloc (.cells #[.int .i64 k] 3)).alloc (.cells #[.int .i64 k, .string ⟨#[]⟩, .slice none 0 0] 111)).alloc (.cells #[.pointer (some ⟨w.heap.size + 1 + 1, 0, none⟩)] 86)) = W0 := ⟨_, rfl⟩
  have hg0 := Mn.g0_start w D k hW0
  rw [hW0]
  have hS0 : ∃ tx, Mn.G0 w D k tx W0.drew := ⟨_, hg0.go (Below.refl _ _).drew⟩
  clear hW0 hg0
  obtain ⟨Mid, hMid⟩ : ∃ Mid : Act → World → Prop, Mid = fun a' W' => Mn.G0 w D k TX W' ∧ a' = { tmps := #[.pointer (some ⟨D, 0, none⟩), .int .i64 k, .pointer (some ⟨w.heap.size, 0, none⟩), .pointer (some ⟨w.heap.size + 1, 0, none⟩), .pointer none, .pointer (some ⟨w.heap.size + 1 + 1 + 1, 0, none⟩), undef, undef, undef, .int .i64 k, .agg #[.int .i64 k, .string ⟨#[]⟩, .slice none 0 0], .pointer (some ⟨w.heap.size + 1 + 1, 0, none⟩), .tuple #[.string TX, .int .i64 0], .pointer (some ⟨w.heap.size + 1 + 1, 0, none⟩), .pointer (some ⟨D, 0, none⟩), .int .i64 k, .tuple #[.string TX, .int .i64 0], .string TX, .int .i64 0, .pointer (some ⟨w.heap.size + 1 + 1, 0, none⟩), .pointer (some ⟨w.heap.size + 1 + 1, 1, none⟩), undef, undef, undef, undef, undef, undef, undef, undef, undef, undef, undef, undef, undef, undef, undef, undef, undef, undef, undef, undef, undef, undef, undef, undef, undef, undef, undef, undef, undef, undef, undef, undef, undef, undef], defers := [] } := ⟨_, rfl⟩
  have HMid := hide' hMid
  clear hMid
  refine wpIn_mono (Q := Exit.then Mid (fun _ _ _ => False)) ?_ ?_
  · refine wpIn_wide.2 ?_
    refine wp_region_held_drew (S := fun W' => ∃ tx, Mn.G0 w D k tx W') (by kernel_rfl) hS0 (fun hHeld => ?_)
    simp only [List.size_toArray, List.length_cons, List.length_nil, Nat.reduceAdd]
    refine wpAnyH_take (i := 0) (v := .pointer (some ⟨w.heap.size + 1 + 1, 0, none⟩)) rfl (by kernel_rfl) (by kernel_rfl) (by kernel_rfl) (fun _ _ _ h => h) (Or.inl ⟨by rfl, ?y0⟩) (by assumption) ?_
    case y0 => (intro w' hSw; obtain ⟨tq, hq⟩ := hSw; obtain ⟨q0, q1, q2, q3⟩ := hq.cells; go_simp)
    try simp only [List.getElem_toArray, List.getElem_cons_zero, Act.put, List.setIfInBounds_toArray, List.set_cons_zero, List.set_cons_succ]
    refine wpAnyH_take (i := 1) (v := .pointer (some ⟨D, 0, none⟩)) rfl (by kernel_rfl) (by kernel_rfl) (by kernel_rfl) (fun _ _ _ h => h) (Or.inl ⟨by rfl, ?y1⟩) (by assumption) ?_
    case y1 => (intro w' hSw; obtain ⟨tq, hq⟩ := hSw; obtain ⟨q0, q1, q2, q3⟩ := hq.cells; go_simp)
    try simp only [List.getElem_toArray, List.getElem_cons_zero, List.getElem_cons_succ, Act.put, List.setIfInBounds_toArray, List.set_cons_zero, List.set_cons_succ]
    refine wpAnyH_take (i := 2) (v := .int .i64 k) rfl (by kernel_rfl) (by kernel_rfl) (by kernel_rfl) (fun _ _ _ h => h) (Or.inl ⟨by rfl, ?y2⟩) (by assumption) ?_
    case y2 => (intro w' hSw; obtain ⟨tq, hq⟩ := hSw; obtain ⟨q0, q1, q2, q3⟩ := hq.cells; go_simp)
    try simp only [List.getElem_toArray, List.getElem_cons_zero, List.getElem_cons_succ, Act.put, List.setIfInBounds_toArray, List.set_cons_zero, List.set_cons_succ]
    refine wpAnyH_ready (rs := [3]) (by kernel_rfl) (by simp) ?_
    refine AllReadyH.cons rfl (fun K hK => ?_) AllReadyH.nil
    try simp only [List.getElem_toArray, List.getElem_cons_zero, List.getElem_cons_succ]
    go_simp
    obtain ⟨t0, hg0⟩ := hS0
    refine (CV.out _ hg0.bel).mono ?_
    rintro e Wa ⟨rfl, hba⟩
    have hga := hg0.go hba
    clear hba
    refine hK.out _ _ ⟨_, hga⟩ (fun hHeld9 => ?_)
    clear hK K
    try simp only [List.getElem_toArray, List.getElem_cons_zero, List.getElem_cons_succ, Act.put, List.setIfInBounds_toArray, List.set_cons_zero, List.set_cons_succ]
    refine wpAnyH_take (i := 4) (v := .tuple #[.string TX, .int .i64 0]) rfl (by kernel_rfl) (by kernel_rfl) (by kernel_rfl) (fun _ _ _ h => h) (Or.inl ⟨by rfl, ?y4⟩) (by assumption) ?_
    case y4 => (intro w' hSw; obtain ⟨tq, hq⟩ := hSw; obtain ⟨q0, q1, q2, q3⟩ := hq.cells; go_simp)
    try simp only [List.getElem_toArray, List.getElem_cons_zero, List.getElem_cons_succ, Act.put, List.setIfInBounds_toArray, List.set_cons_zero, List.set_cons_succ]
    refine wpAnyH_take (i := 5) (v := .string TX) rfl (by kernel_rfl) (by kernel_rfl) (by kernel_rfl) (fun _ _ _ h => h) (Or.inl ⟨by rfl, ?y5⟩) (by assumption) ?_
    case y5 => (intro w' hSw; obtain ⟨tq, hq⟩ := hSw; obtain ⟨q0, q1, q2, q3⟩ := hq.cells; go_simp)
    try simp only [List.getElem_toArray, List.getElem_cons_zero, List.getElem_cons_succ, Act.put, List.setIfInBounds_toArray, List.set_cons_zero, List.set_cons_succ]
    refine wpAnyH_take (i := 6) (v := .int .i64 0) rfl (by kernel_rfl) (by kernel_rfl) (by kernel_rfl) (fun _ _ _ h => h) (Or.inl ⟨by rfl, ?y6⟩) (by assumption) ?_
    case y6 => (intro w' hSw; obtain ⟨tq, hq⟩ := hSw; obtain ⟨q0, q1, q2, q3⟩ := hq.cells; go_simp)
    try simp only [List.getElem_toArray, List.getElem_cons_zero, List.getElem_cons_succ, Act.put, List.setIfInBounds_toArray, List.set_cons_zero, List.set_cons_succ]
    refine wpAnyH_take (i := 7) (v := .pointer (some ⟨w.heap.size + 1 + 1, 0, none⟩)) rfl (by kernel_rfl) (by kernel_rfl) (by kernel_rfl) (fun _ _ _ h => h) (Or.inl ⟨by rfl, ?y7⟩) (by assumption) ?_
    case y7 => (intro w' hSw; obtain ⟨tq, hq⟩ := hSw; obtain ⟨q0, q1, q2, q3⟩ := hq.cells; go_simp)
    try simp only [List.getElem_toArray, List.getElem_cons_zero, List.getElem_cons_succ, Act.put, List.setIfInBounds_toArray, List.set_cons_zero, List.set_cons_succ]
    refine wpAnyH_take (i := 8) (v := .pointer (some ⟨w.heap.size + 1 + 1, 1, none⟩)) rfl (by kernel_rfl) (by kernel_rfl) (by kernel_rfl) (fun _ _ _ h => h) (Or.inl ⟨by rfl, ?y8⟩) (by assumption) ?_
    case y8 => (intro w' hSw; obtain ⟨tq, hq⟩ := hSw; obtain ⟨q0, q1, q2, q3⟩ := hq.cells; go_simp)
    try simp only [List.getElem_toArray, List.getElem_cons_zero, List.getElem_cons_succ, Act.put, List.setIfInBounds_toArray, List.set_cons_zero, List.set_cons_succ]
    refine wpAnyH_ready (rs := [9]) (by kernel_rfl) (by simp) ?_
    refine AllReadyH.cons rfl (fun K hK => ?_) AllReadyH.nil
    try simp only [List.getElem_toArray, List.getElem_cons_zero, List.getElem_cons_succ]
    have cR : Wa.cell? ⟨w.heap.size + 1 + 1, 1, none⟩ = some (.string t0) := by rw [Lib.cell_of_heap hga.gr]; rfl
    have fR : Wa.frozen? ⟨w.heap.size + 1 + 1, 1, none⟩ = false := Lib.frozen_of_heap hga.gr 1
    have hgb := hga.put TX
    go_simp
    refine hK.out _ _ ⟨_, hgb⟩ (fun hHeld9 => ?_)
    clear hK K
    try simp only [List.getElem_toArray, List.getElem_cons_zero, List.getElem_cons_succ, Act.put, List.setIfInBounds_toArray, List.set_cons_zero, List.set_cons_succ]
    refine wpAnyH_done (by kernel_rfl) ?_ _
    show Mid _ _
    rw [HMid.out]
    exact ⟨hgb, rfl⟩
  · rintro e ⟨ta, da⟩ W' h
    cases e with
    | normal =>
      have h : Mid ⟨ta, da⟩ W' := h
      rw [HMid.out] at h
      obtain ⟨hg1, e⟩ := h
      cases e
      clear HMid
      have HG1 := hide' hg1
      have hl1 := hg1.bg.lt
      clear hg1
      obtain ⟨W1, hW1⟩ : ∃ W1, W'.alloc (.cells #[.int .i64 0] 3) = W1 := ⟨_, rfl⟩
      have hb1 : Below W'.heap.size W' W1 := by rw [← hW1]; exact (Below.refl _ _).alloc (Nat.le_refl _) _
      have hz1 : W1.heap.size = W'.heap.size + 1 := by rw [← hW1]; simp
      have hba : Boxed W1 W'.heap.size 3 (.int .i64 0) := by rw [← hW1]; exact Boxed.new _ _ _
      have hg2 := HG1.out.go hb1
      have CA := hide' (trAlong W1 B D n E L q cap nd (HTR.out.below hg2.bel) (by omega) k 2 (by decide))
      rw [Mn.alF_or hk1 hk2] at CA
      dsimp only at CA
      obtain ⟨q0, q1, q2, -⟩ := hg2.cells
      have HG2 := hide' hg2
      have HBA := hide' hba
      have HZ1 := hide' hz1
      have HW1 := hide' hW1
      clear hb1 hz1 hba hg2 hW1 HG1
      rw [← HW1.out] at q0 q1 q2
      gi_wp2_with fail
      rw [HW1.out] at q0 q1 q2 ⊢
      refine ⟨trivial, ?_⟩
      refine (callsIn_wide.2 CA.out).mono ?_
      rintro e W2 ⟨rfl, rfl⟩
      clear CA
      gi_wp2_with fail
      have hg2 := HG2.out
      have hba := HBA.out
      have hz1 := HZ1.out
      obtain ⟨Ba, hBa⟩ : ∃ Ba, W'.heap.size = Ba := ⟨_, rfl⟩
      rw [hBa] at hl1 hba hz1 ⊢
      rw [hz1]
      obtain ⟨W2, hW2⟩ : ∃ W2, ((W1.alloc (.cells #[.int .i64 k] 3)).alloc (.cells #[.int .i64 (Tr.bh E n nd k)] 3)) = W2 := ⟨_, rfl⟩
      have hb2 : Below W1.heap.size W1 W2 := by rw [← hW2]; exact ((Below.refl _ _).alloc (Nat.le_refl _) _).alloc (by simp) _
      have hz2 : W2.heap.size = Ba + 3 := by rw [← hW2]; simp; omega
      have hbf : W2.cell? ⟨Ba + 1, 0, none⟩ = some (.int .i64 k) := by
        rw [← hW2, ← hz1]
        rw [Lib.cell_of_heap ((Below.heap_alloc _ _ _ (by simp)).trans (World.alloc_heap_new W1 _))]
        rfl
      have hbe : W2.cell? ⟨Ba + 1 + 1, 0, none⟩ = some (.int .i64 (Tr.bh E n nd k)) := by
        have h1 := World.alloc_heap_new (W1.alloc (.cells #[.int .i64 k] 3)) (.cells #[.int .i64 (Tr.bh E n nd k)] 3)
        rw [World.size_alloc, hz1] at h1
        rw [← hW2, Lib.cell_of_heap h1]
        rfl
      rw [hW2]
      have hg3 := hg2.go hb2
      have hI0 : Mn.GI w D Ba W2.heap.size k TX E n W2 ([] : List (Tr.Num k (Tr.bh E n nd k))) W2 := ⟨hg3.bel, hg3.bt, hg3.bn, hg3.bg, (hb2.block _ hba.lt).trans hba, ⟨.slice none 0 0, [], hg3.gr, World.ownsRow_nil _ _ _ _, ⟨rfl, fun i m hm => by simp [Tr.vals] at hm⟩⟩, fun _ _ _ _ => rfl, Nat.le_refl _, hl1, by omega⟩
      have hbh := Tr.bh_up HTR.out.shp hk1 hk2
      have hlS : (Tr.numS k (Tr.bh E n nd k)).length = (Tr.bh E n nd k - k).toNat := Tr.numS_length _ _
      have HBF := hide' hbf
      have HBE := hide' hbe
      have HI0 := hide' hI0
      have HLS := hide' hlS
      have HZ2 := hide' hz2
      have HBH := hide' hbh
      clear hW2 hb2 hz2 hbf hbe hg3 hI0 hlS hg2 hba hz1 HG2 HBA HZ1 HW1 q0 q1 q2 hBa hbh
      refine wpIn_rangeFunc_ownG rfl (by omega) (gf := 104) (lb := #[.pointer (some ⟨Ba + 1, 0, none⟩), .pointer (some ⟨Ba + 1 + 1, 0, none⟩)]) rfl trivial (enters_of Tryz.func104 (by kernel_rfl) rfl)
        (trNum_stops Fence.wide 5 trivial rfl (by omega) (Ba + 1) (Ba + 1 + 1) k (Tr.bh E n nd k) (by omega) (by have := HBH.out; omega) W2 HBF.out HBE.out) Tr.keep1_t (Tr.keep1_b (by have := HZ2.out; omega)) (Below.refl _ _) (fun _ => rfl)
        (Mn.GI w D Ba W2.heap.size k TX E n W2) (fun _ _ _ => False) (Mn.GI.own _ _ _ _ _ _ _ _ _ _ (Nat.le_refl _)) (fun _ _ _ _ _ h _ _ => h) HI0.out
        (fun x => { tmps := #[.pointer (some ⟨D, 0, none⟩), .int .i64 k, .pointer (some ⟨w.heap.size, 0, none⟩), .pointer (some ⟨w.heap.size + 1, 0, none⟩), .pointer none, .pointer (some ⟨w.heap.size + 1 + 1 + 1, 0, none⟩), .pointer (some ⟨Ba, 0, none⟩), .int .i64 x.1, undef, .int .i64 k, .agg #[.int .i64 k, .string ⟨#[]⟩, .slice none 0 0], .pointer (some ⟨w.heap.size + 1 + 1, 0, none⟩), .tuple #[.string TX, .int .i64 0], .pointer (some ⟨w.heap.size + 1 + 1, 0, none⟩), .pointer (some ⟨D, 0, none⟩), .int .i64 k, .tuple #[.string TX, .int .i64 0], .string TX, .int .i64 0, .pointer (some ⟨w.heap.size + 1 + 1, 0, none⟩), .pointer (some ⟨w.heap.size + 1 + 1, 1, none⟩), .pointer (some ⟨D, 0, none⟩), .int .i64 k, .func (.func 104) #[] #[.pointer (some ⟨Ba + 1, 0, none⟩), .pointer (some ⟨Ba + 1 + 1, 0, none⟩)], .int .i64 x.1, undef, undef, undef, undef, undef, undef, undef, undef, undef, undef, undef, undef, undef, undef, undef, undef, undef, undef, undef, undef, undef, undef, undef, undef, undef, undef, undef, undef, undef, undef], defers := [] }) ?assign ?body ?done ?stop
      case assign =>
        intro l x W K hK
        simp only [Tr.encI]
        gi_wp2
        exact hK
      case stop =>
        rintro D c pre W _ _ h _
        exact h.elim
      case body =>
        rintro l pre ⟨x, hx1, hx2⟩ W hI hlt
        dsimp only
        rw [HLS.out] at hlt
        obtain ⟨el, tb, nm, pr, tz, hsp, htz, ⟨tz0, tz1⟩, ⟨pr0, pr1⟩, cS⟩ := mnSpotA W B D n E L q cap nd (HTR.out.below hI.bel) HS.out x (by omega) (by have := HBH.out; omega)
        have CS := hide' cS
        obtain ⟨v, sl, s1, s2, s3⟩ := hI.sps
        obtain ⟨pv, cv, rfl, -, -, -⟩ := Tr.owns_sl s2
        have cT := hI.bt.cell
        have cN := hI.bn.cell
        have cA := hI.ba.cell
        have fA := hI.ba.frozen
        have HI := hide' hI
        have HSP := hide' hsp
        have HTZ := hide' htz
        have S1 := hide' s1
        have S2 := hide' s2
        have S3 := hide' s3
        clear hI cS hsp htz s1 s2 s3
        obtain ⟨at0, hat⟩ : ∃ at0, Mn.atL E n (Tr.vals pre) = at0 := ⟨_, rfl⟩
        have hat1 : 0 ≤ at0 ∧ at0 ≤ 1099512676352 := by
          have h1 := Mn.atL_bound (E := E) (n := n) (Tr.vals pre) (fun m hm => by
            obtain ⟨⟨m', h1, h2⟩, _, rfl⟩ := List.mem_map.1 hm
            obtain ⟨_, _, _, _, tz', _, e, h3, _⟩ := mnSpotA w B D n E L q cap nd HTR.out HS.out m' (by omega) (by have := HBH.out; omega)
            rw [e]
            exact h3)
          rw [hat, show (Tr.vals pre).length = pre.length by simp [Tr.vals]] at h1
          have := HBH.out
          omega
        obtain ⟨na, hna⟩ : ∃ na, (Mn.atsI E n x).length = na := ⟨_, rfl⟩
        rw [hna] at CS
        rw [hat] at cA
        have HAT := hide' hat
        have HNA := hide' hna
        obtain ⟨hat0, hat1⟩ := hat1
        clear hat hna
        gi_wp2_with fail
        refine ⟨trivial, ?_⟩
        refine (CallsIn.inRound l (callsIn_wide.2 CS.out)).mono ?_
        rintro e Wa ⟨p, c, rfl, hA, hgA, hb⟩
        have HA := hide' hA
        have HGA := hide' hgA
        have HB := hide' hb
        have hbn := (hb.block _ HI.out.bn.lt).trans HI.out.bn
        have hba := (hb.block _ HI.out.ba.lt).trans HI.out.ba
        rw [HAT.out] at hba
        have cN0 := (Boxed.alloc hbn (.cells #[.bool el, .bool tb, .string nm, .slice p na c, .int .i64 pr, .int .i64 0, .int .i64 tz] 118)).cell
        have cA1 := (Boxed.alloc hba (.cells #[.bool el, .bool tb, .string nm, .slice p na c, .int .i64 (pr - k), .int .i64 0, .int .i64 tz] 118)).cell
        have cA2 := (Boxed.alloc hba (.cells #[.bool el, .bool tb, .string nm, .slice p na c, .int .i64 (pr - k), .int .i64 at0, .int .i64 tz] 118)).cell
        have cA3 := (Boxed.alloc hba (.cells #[.bool el, .bool tb, .string nm, .slice p na c, .int .i64 (pr - k), .int .i64 at0, .int .i64 (tz + at0)] 118)).cell
        have fA3 := (Boxed.alloc hba (.cells #[.bool el, .bool tb, .string nm, .slice p na c, .int .i64 (pr - k), .int .i64 at0, .int .i64 (tz + at0)] 118)).frozen
        have tw1 : IntKind.i64.wrap (pr - k) = pr - k := by rw [IntKind.wrap_i64]; omega
        have tw2 : IntKind.i64.wrap (tz + at0) = tz + at0 := by rw [IntKind.wrap_i64]; omega
        have hne : ¬ Ba = Wa.heap.size := by have := (Boxed.lt hba); omega
        clear hA hgA hb CS cT cN cA fA hbn hba
        gi_wp2_with fail
        obtain ⟨W3, hW3⟩ : ∃ W3, ((Wa.alloc (.cells #[.bool el, .bool tb, .string nm, .slice p na c, .int .i64 (pr - k), .int .i64 at0, .int .i64 (tz + at0)] 118)).setCell ⟨Ba, 0, none⟩ (.int .i64 (tz + at0))) = W3 := ⟨_, rfl⟩
        have hl2 := HI.out.l2
        have hle := HI.out.le
        have hbs := HB.out.size
        have hz3 : W3.heap.size = Wa.heap.size + 1 := by rw [← hW3]; simp
        have hbg3 : Boxed W3 (w.heap.size + 1 + 1 + 1) 86 (.pointer (some ⟨w.heap.size + 1 + 1, 0, none⟩)) := by
          rw [← hW3]
          exact (Below.heap_setCell _ _ _ _ (by show w.heap.size + 1 + 1 + 1 ≠ Ba; omega)).trans (Boxed.alloc ((HB.out.block _ HI.out.bg.lt).trans HI.out.bg) _)
        have hsp3 : W3.heap[Wa.heap.size]? = some (.cells #[.bool el, .bool tb, .string nm, .slice p na c, .int .i64 (pr - k), .int .i64 at0, .int .i64 (tz + at0)] 118 (0, 0)) := by
          rw [← hW3]
          exact (Below.heap_setCell _ _ _ _ (by show Wa.heap.size ≠ Ba; omega)).trans (heap_alloc_new Wa _)
        have hgr3 : W3.heap[w.heap.size + 1 + 1]? = some (.cells #[.int .i64 k, .string TX, .slice pv pre.length cv] 111 (0, 0)) := by
          rw [← hW3]
          exact (Below.heap_setCell _ _ _ _ (by show w.heap.size + 1 + 1 ≠ Ba; omega)).trans ((Below.heap_alloc _ _ _ (by omega)).trans ((HB.out.block _ (by omega)).trans S1.out))
        have hrow3 : W3.ownsRow W2.heap.size 118 7 (.slice pv pre.length cv) pre.length (Mn.scs sl) := by
          rw [← hW3]
          exact Tr.owns_far (Tr.keepB (Tr.keepB S2.out HB.out (Nat.le_refl _)) ((Below.refl Wa.heap.size Wa).alloc (Nat.le_refl _) _) (Nat.le_refl _)) ⟨Ba, 0, none⟩ _ hl2
        have hS0 : Mn.SB w Wa.heap.size #[.bool el, .bool tb, .string nm, .slice p na c, .int .i64 (pr - k), .int .i64 at0, .int .i64 (tz + at0)] W3.drew := ⟨hbg3, hsp3⟩
        have hspx := HSP.out k at0 (.slice p na c)
        rw [hW3]
        have HW3 := hide' hW3
        have HGR3 := hide' hgr3
        have HROW3 := hide' hrow3
        have HZ3 := hide' hz3
        have HSPX := hide' hspx
        obtain ⟨i0, hi0, hz0, hz1, hz2⟩ := info_parts Mn.spInfo
        obtain ⟨Mid, hMid⟩ : ∃ Mid : Act → World → Prop, Mid = fun a' W' => a'.defers = [] ∧ KeepsFrom W2.heap.size W W' ∧ Tr.Keep1 (Ba + 1 + 1) W W' ∧ Mn.GI w D Ba W2.heap.size k TX E n W2 (pre ++ [⟨x, hx1, hx2⟩]) W' := ⟨_, rfl⟩
        have HMid := hide' hMid
        have HLE : Hid (pre.length ≤ 1048577) := by have := HBH.out; show _ ≤ _; omega
        clear hMid hW3 hgr3 hrow3 hbg3 hsp3 hspx cN0 cA1 cA2 cA3 fA3 tw1 tw2 hne hz3
        refine wpIn_mono (Q := Exit.then Mid (fun _ _ _ => False)) ?_ ?_
        · refine Tr.wpIn_round_held (S := Mn.SB w Wa.heap.size #[.bool el, .bool tb, .string nm, .slice p na c, .int .i64 (pr - k), .int .i64 at0, .int .i64 (tz + at0)]) (by kernel_rfl) (by kernel_rfl) (by rintro ⟨_, _, h⟩; exact h) hS0 (fun hHeld => ?_)
          simp only [List.size_toArray, List.length_cons, List.length_nil, Nat.reduceAdd]
          refine wpAnyH_take (i := 0) (v := .pointer (some ⟨w.heap.size + 1 + 1, 0, none⟩)) rfl (by kernel_rfl) (by kernel_rfl) (by kernel_rfl) (fun _ _ _ h => h) (Or.inl ⟨by rfl, ?y0⟩) (by assumption) ?_
          case y0 => (intro w' hSw; obtain ⟨qb, qs⟩ := hSw; have q3 := qb.cell; go_simp)
          try simp only [List.getElem_toArray, List.getElem_cons_zero, Act.put, List.setIfInBounds_toArray, List.set_cons_zero, List.set_cons_succ]
          refine wpAnyH_take (i := 1) (v := .pointer (some ⟨w.heap.size + 1 + 1, 0, none⟩)) rfl (by kernel_rfl) (by kernel_rfl) (by kernel_rfl) (fun _ _ _ h => h) (Or.inl ⟨by rfl, ?y1⟩) (by assumption) ?_
          case y1 => (intro w' hSw; obtain ⟨qb, qs⟩ := hSw; have q3 := qb.cell; go_simp)
          try simp only [List.getElem_toArray, List.getElem_cons_zero, List.getElem_cons_succ, Act.put, List.setIfInBounds_toArray, List.set_cons_zero, List.set_cons_succ]
          refine wpAnyH_take (i := 2) (v := .pointer (some ⟨w.heap.size + 1 + 1, 0, none⟩)) rfl (by kernel_rfl) (by kernel_rfl) (by kernel_rfl) (fun _ _ _ h => h) (Or.inl ⟨by rfl, ?y2⟩) (by assumption) ?_
          case y2 => (intro w' hSw; obtain ⟨qb, qs⟩ := hSw; have q3 := qb.cell; go_simp)
          try simp only [List.getElem_toArray, List.getElem_cons_zero, List.getElem_cons_succ, Act.put, List.setIfInBounds_toArray, List.set_cons_zero, List.set_cons_succ]
          refine wpAnyH_take (i := 3) (v := .pointer (some ⟨w.heap.size + 1 + 1, 2, none⟩)) rfl (by kernel_rfl) (by kernel_rfl) (by kernel_rfl) (fun _ _ _ h => h) (Or.inl ⟨by rfl, ?y3⟩) (by assumption) ?_
          case y3 => (intro w' hSw; obtain ⟨qb, qs⟩ := hSw; have q3 := qb.cell; go_simp)
          try simp only [List.getElem_toArray, List.getElem_cons_zero, List.getElem_cons_succ, Act.put, List.setIfInBounds_toArray, List.set_cons_zero, List.set_cons_succ]
          refine wpAnyH_take (i := 5) (v := .agg #[.bool el, .bool tb, .string nm, .slice p na c, .int .i64 (pr - k), .int .i64 at0, .int .i64 (tz + at0)]) rfl (by kernel_rfl) (by kernel_rfl) (by kernel_rfl) (fun _ _ _ h => h) (yieldsIf_load_mid (by rfl) 118 (.tmp 8) rfl Wa.heap.size 0 rfl [.bool el, .bool tb, .string nm, .slice p na c, .int .i64 (pr - k), .int .i64 at0, .int .i64 (tz + at0)] _ (fun w' h => Tr.range_of h.2) Tryz.underlying118 rfl Mn.spSize) (by assumption) ?_
          try simp only [List.getElem_toArray, List.getElem_cons_zero, List.getElem_cons_succ, Act.put, List.setIfInBounds_toArray, List.set_cons_zero, List.set_cons_succ]
          have hgr3 : W3.drew.heap[w.heap.size + 1 + 1]? = some (.cells #[.int .i64 k, .string TX, .slice pv pre.length cv] 111 (0, 0)) := HGR3.out
          have hS4 : Mn.SB w Wa.heap.size #[.bool el, .bool tb, .string nm, .slice p na c, .int .i64 (pr - k), .int .i64 at0, .int .i64 (tz + at0)] (W3.alloc (.cells #[.bool el, .bool tb, .string nm, .slice p na c, .int .i64 (pr - k), .int .i64 at0, .int .i64 (tz + at0)] 118)).drew := ⟨Boxed.alloc hS0.1 _, (Below.heap_alloc _ _ _ (Array.getElem?_eq_some_iff.1 hS0.2).1).trans hS0.2⟩
          refine wpAnyH_ready (rs := [4, 6]) (by kernel_rfl) (by simp) ?_
          refine AllReadyH.cons rfl (fun K hK => ?_) (AllReadyH.cons rfl (fun K hK => ?_) AllReadyH.nil)
          · try simp only [List.getElem_toArray, List.getElem_cons_zero, List.getElem_cons_succ]
            have cG0 : W3.drew.cell? ⟨w.heap.size + 1 + 1, 2, none⟩ = some (.slice pv pre.length cv) := by rw [Lib.cell_of_heap hgr3]; rfl
            go_simp
            refine hK.out _ _ hS0 (fun hHeld9 => ?_)
            clear hK K cG0
            try simp only [List.getElem_toArray, List.getElem_cons_zero, List.getElem_cons_succ, Act.put, List.setIfInBounds_toArray, List.set_cons_zero, List.set_cons_succ]
            refine wpAnyH_ready (rs := [6]) (by kernel_rfl) (by simp) ?_
            refine AllReadyH.cons rfl (fun K hK => ?_) AllReadyH.nil
            try simp only [List.getElem_toArray, List.getElem_cons_zero, List.getElem_cons_succ]
            go_simp
            refine hK.out _ _ hS4 (fun hHeld9 => ?_)
            clear hK K
            try simp only [List.getElem_toArray, List.getElem_cons_zero, List.getElem_cons_succ, Act.put, List.setIfInBounds_toArray, List.set_cons_zero, List.set_cons_succ]
            refine wpAnyH_ready (rs := [7]) (by kernel_rfl) (by simp) ?_
            refine AllReadyH.cons rfl (fun K hK => ?_) AllReadyH.nil
            try simp only [List.getElem_toArray, List.getElem_cons_zero, List.getElem_cons_succ]
            rw [if_pos (by rfl)]
            refine wp_append_own _ _ _ 109 rfl W2.heap.size 118 i0 (.agg #[.bool false, .bool false, .string ⟨#[]⟩, .slice none 0 0, .int .i64 0, .int .i64 0, .int .i64 0]) 7 72 Tryz.underlying109 hi0 hz0 hz1 hz2 rfl (by decide) (.slice pv pre.length cv) pre.length (Mn.scs sl) rfl (Tr.keepB HROW3.out (B' := W3.heap.size) (((Below.refl W3.heap.size W3).alloc (Nat.le_refl _) _).drew) (Nat.le_refl _)) ⟨W3.heap.size, 0, none⟩ 1 1 [.bool el, .bool tb, .string nm, .slice p na c, .int .i64 (pr - k), .int .i64 at0, .int .i64 (tz + at0)] rfl rfl ?c1 ?c2 ?c3 ?c4 ?c5 ?_
            case c1 =>
              intro j u hj
              rw [Go.WideShapes.add_plain, Nat.zero_add]
              show (W3.alloc _).cell? _ = _
              rw [Lib.cell_of_heap (heap_alloc_new W3 _)]
              simpa using hj
            case c2 =>
              intro u hu
              simp at hu
              rcases hu with rfl | rfl | rfl | rfl | rfl | rfl | rfl <;> rfl
            case c3 => have := HLE.out; unfold maxLen; omega
            case c4 => have := HLE.out; omega
            case c5 => have := HZ3.out; show _ ≤ (W3.alloc _).heap.size; rw [World.size_alloc]; omega
            intro v' w5 hown hg5 _
            obtain ⟨g', cap', rfl⟩ := ownsRow_succ hown
            have hsp5 : w5.heap[Wa.heap.size]? = some (.cells #[.bool el, .bool tb, .string nm, .slice p na c, .int .i64 (pr - k), .int .i64 at0, .int .i64 (tz + at0)] 118 (0, 0)) := by
              have h1 := hS0.2
              refine (hg5.block Wa.heap.size (by show _ < (W3.alloc _).heap.size; rw [World.size_alloc]; have := HZ3.out; omega) (fun e => by have := (S2.out.lt _ e.symm).2; omega)).trans ?_
              show (W3.alloc _).heap[Wa.heap.size]? = _
              exact (Below.heap_alloc _ _ _ (Array.getElem?_eq_some_iff.1 h1).1).trans h1
            have hown2 : w5.ownsRow W2.heap.size 118 7 (.slice (some ⟨g', 0, none⟩) (pre.length + 1) cap') (pre.length + 1) (Mn.scs sl ++ (Mn.spA E n k x (Mn.atL E n (Tr.vals pre)) (.slice p na c)).cl) := by
              rw [HAT.out, HSPX.out]
              exact hown
            have hA2 : Tr.AtOwn Wa (.slice p na c) (Mn.atsI E n x) := HA.out
            have hst := Mn.GI.step (x := ⟨x, hx1, hx2⟩) (z := tz + at0) HI.out S1.out S2.out S3.out HB.out hA2 HGA.out (by show _ = Mn.atL E n (Tr.vals pre) + Mn.tszI E n x; rw [HAT.out, HTZ.out]; omega) hown2 (o1 := .cells #[.bool el, .bool tb, .string nm, .slice p na c, .int .i64 (pr - k), .int .i64 at0, .int .i64 (tz + at0)] 118) (o2 := .cells #[.bool el, .bool tb, .string nm, .slice p na c, .int .i64 (pr - k), .int .i64 at0, .int .i64 (tz + at0)] 118) (by rw [HW3.out]; exact hg5)
            obtain ⟨hG5, hbg5, hGI, hKO, hlow⟩ := hst
            have hS5 : Mn.SB w Wa.heap.size #[.bool el, .bool tb, .string nm, .slice p na c, .int .i64 (pr - k), .int .i64 at0, .int .i64 (tz + at0)] w5 := ⟨hbg5, hsp5⟩
            refine hK.out _ _ hS5 (fun hHeld9 => ?_)
            clear hK K hown hown2 hg5 hA2
            try simp only [Act.put, List.setIfInBounds_toArray, List.set_cons_zero, List.set_cons_succ]
            refine wpAnyH_take (i := 8) (v := .pointer (some ⟨w.heap.size + 1 + 1, 0, none⟩)) rfl (by kernel_rfl) (by kernel_rfl) (by kernel_rfl) (fun _ _ _ h => h) (Or.inl ⟨by rfl, ?y8⟩) (by assumption) ?_
            case y8 => (intro w' hSw; obtain ⟨qb, qs⟩ := hSw; have q3 := qb.cell; go_simp)
            try simp only [List.getElem_toArray, List.getElem_cons_zero, List.getElem_cons_succ, Act.put, List.setIfInBounds_toArray, List.set_cons_zero, List.set_cons_succ]
            refine wpAnyH_take (i := 9) (v := .pointer (some ⟨w.heap.size + 1 + 1, 2, none⟩)) rfl (by kernel_rfl) (by kernel_rfl) (by kernel_rfl) (fun _ _ _ h => h) (Or.inl ⟨by rfl, ?y9⟩) (by assumption) ?_
            case y9 => (intro w' hSw; obtain ⟨qb, qs⟩ := hSw; have q3 := qb.cell; go_simp)
            try simp only [List.getElem_toArray, List.getElem_cons_zero, List.getElem_cons_succ, Act.put, List.setIfInBounds_toArray, List.set_cons_zero, List.set_cons_succ]
            refine wpAnyH_ready (rs := [10]) (by kernel_rfl) (by simp) ?_
            refine AllReadyH.cons rfl (fun K hK => ?_) AllReadyH.nil
            try simp only [List.getElem_toArray, List.getElem_cons_zero, List.getElem_cons_succ]
            have cG : w5.cell? ⟨w.heap.size + 1 + 1, 2, none⟩ = some (.slice pv pre.length cv) := by rw [Lib.cell_of_heap hG5]; rfl
            have fG : w5.frozen? ⟨w.heap.size + 1 + 1, 2, none⟩ = false := Lib.frozen_of_heap hG5 2
            have hS6 : Mn.SB w Wa.heap.size #[.bool el, .bool tb, .string nm, .slice p na c, .int .i64 (pr - k), .int .i64 at0, .int .i64 (tz + at0)] (w5.setCell ⟨w.heap.size + 1 + 1, 2, none⟩ (.slice (some ⟨g', 0, none⟩) (pre.length + 1) cap')) := ⟨(Below.heap_setCell _ _ _ _ (by show w.heap.size + 1 + 1 + 1 ≠ w.heap.size + 1 + 1; omega)).trans hbg5, (Below.heap_setCell _ _ _ _ (by show Wa.heap.size ≠ w.heap.size + 1 + 1; omega)).trans hsp5⟩
            have HGI := hide' hGI
            have HKO := hide' hKO
            have HLOW := hide' hlow
            clear hGI hKO hlow hG5
            go_simp
            refine hK.out _ _ hS6 (fun hHeld9 => ?_)
            clear hK K
            try simp only [List.getElem_toArray, List.getElem_cons_zero, List.getElem_cons_succ, Act.put, List.setIfInBounds_toArray, List.set_cons_zero, List.set_cons_succ]
            refine wpAnyH_done (by kernel_rfl) ?_ _
            show Mid _ _
            rw [HMid.out]
            exact ⟨rfl, HKO.out.from _, World.cell?_of_block (a := ⟨Ba + 1 + 1, 0, none⟩) (HLOW.out (Ba + 1 + 1) (by have := HZ2.out; omega) (by omega) (by omega)), HGI.out⟩
          · try simp only [List.getElem_toArray, List.getElem_cons_zero, List.getElem_cons_succ]
            go_simp
            refine hK.out _ _ hS4 (fun hHeld9 => ?_)
            clear hK K
            try simp only [List.getElem_toArray, List.getElem_cons_zero, List.getElem_cons_succ, Act.put, List.setIfInBounds_toArray, List.set_cons_zero, List.set_cons_succ]
            have hgr4 : (W3.alloc (.cells #[.bool el, .bool tb, .string nm, .slice p na c, .int .i64 (pr - k), .int .i64 at0, .int .i64 (tz + at0)] 118)).drew.heap[w.heap.size + 1 + 1]? = some (.cells #[.int .i64 k, .string TX, .slice pv pre.length cv] 111 (0, 0)) := (Below.heap_alloc _ _ _ (Array.getElem?_eq_some_iff.1 hgr3).1).trans hgr3
            refine wpAnyH_ready (rs := [4]) (by kernel_rfl) (by simp) ?_
            refine AllReadyH.cons rfl (fun K hK => ?_) AllReadyH.nil
            try simp only [List.getElem_toArray, List.getElem_cons_zero, List.getElem_cons_succ]
            have cG0 : (W3.alloc (.cells #[.bool el, .bool tb, .string nm, .slice p na c, .int .i64 (pr - k), .int .i64 at0, .int .i64 (tz + at0)] 118)).drew.cell? ⟨w.heap.size + 1 + 1, 2, none⟩ = some (.slice pv pre.length cv) := by rw [Lib.cell_of_heap hgr4]; rfl
            go_simp
            refine hK.out _ _ hS4 (fun hHeld9 => ?_)
            clear hK K cG0
            try simp only [List.getElem_toArray, List.getElem_cons_zero, List.getElem_cons_succ, Act.put, List.setIfInBounds_toArray, List.set_cons_zero, List.set_cons_succ]
            refine wpAnyH_ready (rs := [7]) (by kernel_rfl) (by simp) ?_
            refine AllReadyH.cons rfl (fun K hK => ?_) AllReadyH.nil
            try simp only [List.getElem_toArray, List.getElem_cons_zero, List.getElem_cons_succ]
            rw [if_pos (by rfl)]
            refine wp_append_own _ _ _ 109 rfl W2.heap.size 118 i0 (.agg #[.bool false, .bool false, .string ⟨#[]⟩, .slice none 0 0, .int .i64 0, .int .i64 0, .int .i64 0]) 7 72 Tryz.underlying109 hi0 hz0 hz1 hz2 rfl (by decide) (.slice pv pre.length cv) pre.length (Mn.scs sl) rfl (Tr.keepB HROW3.out (B' := W3.heap.size) (((Below.refl W3.heap.size W3).alloc (Nat.le_refl _) _).drew) (Nat.le_refl _)) ⟨W3.heap.size, 0, none⟩ 1 1 [.bool el, .bool tb, .string nm, .slice p na c, .int .i64 (pr - k), .int .i64 at0, .int .i64 (tz + at0)] rfl rfl ?c1 ?c2 ?c3 ?c4 ?c5 ?_
            case c1 =>
              intro j u hj
              rw [Go.WideShapes.add_plain, Nat.zero_add]
              show (W3.alloc _).cell? _ = _
              rw [Lib.cell_of_heap (heap_alloc_new W3 _)]
              simpa using hj
            case c2 =>
              intro u hu
              simp at hu
              rcases hu with rfl | rfl | rfl | rfl | rfl | rfl | rfl <;> rfl
            case c3 => have := HLE.out; unfold maxLen; omega
            case c4 => have := HLE.out; omega
            case c5 => have := HZ3.out; show _ ≤ (W3.alloc _).heap.size; rw [World.size_alloc]; omega
            intro v' w5 hown hg5 _
            obtain ⟨g', cap', rfl⟩ := ownsRow_succ hown
            have hsp5 : w5.heap[Wa.heap.size]? = some (.cells #[.bool el, .bool tb, .string nm, .slice p na c, .int .i64 (pr - k), .int .i64 at0, .int .i64 (tz + at0)] 118 (0, 0)) := by
              have h1 := hS0.2
              refine (hg5.block Wa.heap.size (by show _ < (W3.alloc _).heap.size; rw [World.size_alloc]; have := HZ3.out; omega) (fun e => by have := (S2.out.lt _ e.symm).2; omega)).trans ?_
              show (W3.alloc _).heap[Wa.heap.size]? = _
              exact (Below.heap_alloc _ _ _ (Array.getElem?_eq_some_iff.1 h1).1).trans h1
            have hown2 : w5.ownsRow W2.heap.size 118 7 (.slice (some ⟨g', 0, none⟩) (pre.length + 1) cap') (pre.length + 1) (Mn.scs sl ++ (Mn.spA E n k x (Mn.atL E n (Tr.vals pre)) (.slice p na c)).cl) := by
              rw [HAT.out, HSPX.out]
              exact hown
            have hA2 : Tr.AtOwn Wa (.slice p na c) (Mn.atsI E n x) := HA.out
            have hst := Mn.GI.step (x := ⟨x, hx1, hx2⟩) (z := tz + at0) HI.out S1.out S2.out S3.out HB.out hA2 HGA.out (by show _ = Mn.atL E n (Tr.vals pre) + Mn.tszI E n x; rw [HAT.out, HTZ.out]; omega) hown2 (o1 := .cells #[.bool el, .bool tb, .string nm, .slice p na c, .int .i64 (pr - k), .int .i64 at0, .int .i64 (tz + at0)] 118) (o2 := .cells #[.bool el, .bool tb, .string nm, .slice p na c, .int .i64 (pr - k), .int .i64 at0, .int .i64 (tz + at0)] 118) (by rw [HW3.out]; exact hg5)
            obtain ⟨hG5, hbg5, hGI, hKO, hlow⟩ := hst
            have hS5 : Mn.SB w Wa.heap.size #[.bool el, .bool tb, .string nm, .slice p na c, .int .i64 (pr - k), .int .i64 at0, .int .i64 (tz + at0)] w5 := ⟨hbg5, hsp5⟩
            refine hK.out _ _ hS5 (fun hHeld9 => ?_)
            clear hK K hown hown2 hg5 hA2
            try simp only [Act.put, List.setIfInBounds_toArray, List.set_cons_zero, List.set_cons_succ]
            refine wpAnyH_take (i := 8) (v := .pointer (some ⟨w.heap.size + 1 + 1, 0, none⟩)) rfl (by kernel_rfl) (by kernel_rfl) (by kernel_rfl) (fun _ _ _ h => h) (Or.inl ⟨by rfl, ?y8⟩) (by assumption) ?_
            case y8 => (intro w' hSw; obtain ⟨qb, qs⟩ := hSw; have q3 := qb.cell; go_simp)
            try simp only [List.getElem_toArray, List.getElem_cons_zero, List.getElem_cons_succ, Act.put, List.setIfInBounds_toArray, List.set_cons_zero, List.set_cons_succ]
            refine wpAnyH_take (i := 9) (v := .pointer (some ⟨w.heap.size + 1 + 1, 2, none⟩)) rfl (by kernel_rfl) (by kernel_rfl) (by kernel_rfl) (fun _ _ _ h => h) (Or.inl ⟨by rfl, ?y9⟩) (by assumption) ?_
            case y9 => (intro w' hSw; obtain ⟨qb, qs⟩ := hSw; have q3 := qb.cell; go_simp)
            try simp only [List.getElem_toArray, List.getElem_cons_zero, List.getElem_cons_succ, Act.put, List.setIfInBounds_toArray, List.set_cons_zero, List.set_cons_succ]
            refine wpAnyH_ready (rs := [10]) (by kernel_rfl) (by simp) ?_
            refine AllReadyH.cons rfl (fun K hK => ?_) AllReadyH.nil
            try simp only [List.getElem_toArray, List.getElem_cons_zero, List.getElem_cons_succ]
            have cG : w5.cell? ⟨w.heap.size + 1 + 1, 2, none⟩ = some (.slice pv pre.length cv) := by rw [Lib.cell_of_heap hG5]; rfl
            have fG : w5.frozen? ⟨w.heap.size + 1 + 1, 2, none⟩ = false := Lib.frozen_of_heap hG5 2
            have hS6 : Mn.SB w Wa.heap.size #[.bool el, .bool tb, .string nm, .slice p na c, .int .i64 (pr - k), .int .i64 at0, .int .i64 (tz + at0)] (w5.setCell ⟨w.heap.size + 1 + 1, 2, none⟩ (.slice (some ⟨g', 0, none⟩) (pre.length + 1) cap')) := ⟨(Below.heap_setCell _ _ _ _ (by show w.heap.size + 1 + 1 + 1 ≠ w.heap.size + 1 + 1; omega)).trans hbg5, (Below.heap_setCell _ _ _ _ (by show Wa.heap.size ≠ w.heap.size + 1 + 1; omega)).trans hsp5⟩
            have HGI := hide' hGI
            have HKO := hide' hKO
            have HLOW := hide' hlow
            clear hGI hKO hlow hG5
            go_simp
            refine hK.out _ _ hS6 (fun hHeld9 => ?_)
            clear hK K
            try simp only [List.getElem_toArray, List.getElem_cons_zero, List.getElem_cons_succ, Act.put, List.setIfInBounds_toArray, List.set_cons_zero, List.set_cons_succ]
            refine wpAnyH_done (by kernel_rfl) ?_ _
            show Mid _ _
            rw [HMid.out]
            exact ⟨rfl, HKO.out.from _, World.cell?_of_block (a := ⟨Ba + 1 + 1, 0, none⟩) (HLOW.out (Ba + 1 + 1) (by have := HZ2.out; omega) (by omega) (by omega)), HGI.out⟩
        · intro e a' W' he
          cases e with
          | normal =>
            have h9 : Mid a' W' := he
            rw [HMid.out] at h9
            exact h9.2
          | _ => exact he.elim
      case done =>
        rintro D' ys W hD rfl hI hK
        obtain ⟨v, sl, s1, s2, s3⟩ := hI.sps
        have hlen : sl.length = (Tr.numS k (Tr.bh E n nd k)).length := by rw [s3.len]; simp [Tr.vals]
        have hl1 := hI.l1
        have hl2 := hI.l2
        rw [← hlen] at s2
        have hGR : Mn.GR W W2.heap.size (w.heap.size + 1 + 1) k TX v sl := ⟨s1, s2, by omega⟩
        rw [Tr.vals_numS] at s3
        rw [HLS.out] at hlen
        have hbh := HBH.out
        have hp : ∀ i, 0 < i → i < sl.length → 0 ≤ (Mn.nth sl i).par ∧ (Mn.nth sl i).par < sl.length := fun i h0 h1 => by
          obtain ⟨av, e, _⟩ := s3.at_ i (k + i) (Tr.numL_get k _ i (by omega))
          have e2 : Mn.nth sl i = Mn.spA E n k (k + i) (Mn.atL E n ((Tr.numL k (Tr.bh E n nd k)).take i)) av := by unfold Mn.nth; rw [e]; rfl
          rw [e2]
          unfold Mn.spA
          rw [if_neg (by omega)]
          have := Mn.par_in HTR.out.shp hk1 hk2 (show k < k + i by omega) (by omega)
          show 0 ≤ Mn.parI E n (k + i) - k ∧ Mn.parI E n (k + i) - k < _
          omega
        have CT := hide' (mnStretch W W2.heap.size (w.heap.size + 1 + 1) k TX v sl hGR (by omega) hp)
        have cG := hI.bg.cell
        have HI := hide' hI
        have HK := hide' hK
        have HS3 := hide' s3
        have HS2 := hide' s2
        clear hI hK hp s3 s2 s1 hGR
        gi_wp2_with fail
        refine ⟨trivial, ?_⟩
        refine (callsIn_wide.2 CT.out).mono ?_
        rintro e W4 ⟨⟨u, rfl⟩, hGR4, hBut⟩
        have hbg4 : Boxed W4 (w.heap.size + 1 + 1 + 1) 86 (.pointer (some ⟨w.heap.size + 1 + 1, 0, none⟩)) := (hBut.same _ HI.out.bg.lt (fun e => by have := (HS2.out.lt _ e).1; omega)).trans HI.out.bg
        have hK4 : W4.heap[D']? = some (.deferred (some [])) := (hBut.same D' (Array.getElem?_eq_some_iff.1 HK.out).1 (fun e => by
          rcases HS2.out.2 with ⟨e2, _⟩ | ⟨g', cap', cur, e2, _, hh, _⟩
          · rw [e2] at e; cases e
          · rw [e2] at e
            cases e
            rw [HK.out] at hh
            cases hh)).trans HK.out
        have cG4 := hbg4.cell
        have HGR4 := hide' hGR4
        have HBUT := hide' hBut
        have HK4 := hide' hK4
        clear hGR4 hBut hK4 hbg4 CT
        gi_wp2
        refine ⟨by simp, .inl ⟨_, _, rfl, run_takeDeferred HK4.out, ?_⟩⟩
        have hbel : Below w.heap.size w W4 := HI.out.bel.trans ⟨HBUT.out.os, HBUT.out.tape, HBUT.out.output, HBUT.out.size, fun j hj => HBUT.out.same j (by have := HI.out.bel.size; omega) (fun e => by have := (HS2.out.lt _ e).1; omega)⟩
        refine ⟨_, results_tmp rfl _ _ _, w.heap.size + 1 + 1, W2.heap.size, v, sl, rfl, hbel.trans (belowK_b (w := w) (Nat.le_refl _) W4 D' _ _ (by omega) HK4.out rfl rfl), by omega, ⟨(World.putObj_heap_other (by omega)).trans HGR4.out.blk, ownsRow_putObj HGR4.out.row _ HK4.out rfl, HGR4.out.lt⟩, ?_⟩
        refine HS3.out.keep (fun g cur hM hc => ?_)
        have hne : v.ownBlock ≠ some g := fun e => by
          rcases HS2.out.2 with ⟨e2, _⟩ | ⟨g', cap', cur', e2, _, hh, _⟩
          · rw [e2] at e; cases e
          · rw [e2] at e
            cases e
            rw [hc] at hh
            have := Option.some.inj hh
            injection this with _ h2 _
            exact absurd h2 (by decide)
        have h4 := HBUT.out.same g (Array.getElem?_eq_some_iff.1 hc).1 hne
        refine (World.putObj_heap_other (fun e => ?_)).trans h4
        subst e
        rw [HK4.out, hc] at h4
        cases h4
    | _ => exact h.elim
end Go.Proofs.YtfockjlegpbooaaGreatDoor
