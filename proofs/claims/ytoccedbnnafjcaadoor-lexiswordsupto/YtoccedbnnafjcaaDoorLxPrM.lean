import Derived.Test.YtoccedbnnafjcaaDoorLxValM
import Derived.Deep.RegionHeld3
import Derived.Test.YtoccedbnnafjcaaDoorRnEnc
import Derived.Lib.ItoaNum
/-
  WALKS over lexis.fault and further.
-/
namespace Go.Proofs.YtoccedbnnafjcaaDoor
open Go.RowKit Go.Lib
namespace Lx
/-- the cells of a place -/
def plA (p : Nat × Nat × Nat × Nat) : Array Value := #[.int .i64 (p.1 : Nat), .int .i64 (p.2.1 : Nat), .int .i64 (p.2.2.1 : Nat), .int .i64 (p.2.2.2 : Nat)]
theorem two_new (w : World) (A B : Obj) : ((w.alloc A).alloc B).drew.heap[w.heap.size]? = some A ∧ ((w.alloc A).alloc B).drew.heap[w.heap.size + 1]? = some B ∧ Below w.heap.size w ((w.alloc A).alloc B).drew := by
  refine ⟨?_, ?_, (((Below.refl w.heap.size w).alloc (Nat.le_refl _) _).alloc (by simp) _).drew⟩
  · show ((w.heap.push A).push B)[w.heap.size]? = _
    rw [Array.getElem?_push_lt (by simp), Array.getElem_push_eq]
  · show ((w.heap.push A).push B)[w.heap.size + 1]? = _
    have := Array.getElem?_push_size (xs := w.heap.push A) (x := B)
    simpa using this
theorem three_new (w : World) (A B C : Obj) : (((w.alloc A).alloc B).drew.alloc C).heap[w.heap.size]? = some A ∧ (((w.alloc A).alloc B).drew.alloc C).heap[w.heap.size + 1]? = some B ∧ Below w.heap.size w (((w.alloc A).alloc B).drew.alloc C) := by
  obtain ⟨h1, h2, h3⟩ := two_new w A B
  have hs : ((w.alloc A).alloc B).drew.heap.size = w.heap.size + 1 + 1 := by show ((w.heap.push A).push B).size = _; simp
  have hb := (Below.refl ((w.alloc A).alloc B).drew.heap.size ((w.alloc A).alloc B).drew).alloc (Nat.le_refl _) C
  exact ⟨(hb.block _ (by omega)).trans h1, (hb.block _ (by omega)).trans h2, h3.alloc (by omega) _⟩
theorem three_last (w : World) (A B C : Obj) : (((w.alloc A).alloc B).drew.alloc C).heap[w.heap.size + 1 + 1]? = some C := by
  have := heap_new ((w.alloc A).alloc B).drew C
  rwa [show ((w.alloc A).alloc B).drew.heap.size = w.heap.size + 1 + 1 by show ((w.heap.push A).push B).size = _; simp] at this
end Lx

set_option maxRecDepth 100000 in
set_option maxHeartbeats 2000000 in
theorem fault_any (f : Nat → Nat) (n b off cap a : Nat) (why : Int) (w : World) (hf : ∀ j, f j < 256) (ha : a ≤ n) (hc : n ≤ cap) (hm : cap ≤ maxLen) (hbig : n ≤ 4611686018427387904) (hp : Bytes w b off n f) :
    Calls Tryd.prog 18 #[.slice (some ⟨b, off, none⟩) n cap, .int .i64 a, .int .i64 why] w fun e w' => ∃ d, e = .returned (.pointer (some ⟨d, 0, none⟩)) ∧ w.heap.size ≤ d ∧
      w'.heap[d]? = some (.cells #[.int .i64 (a : Nat), .int .i64 ((Rn.plc f n a).1 : Nat), .int .i64 ((Rn.plc f n a).2.1 : Nat), .int .i64 ((Rn.plc f n a).2.2 : Nat), .int .i64 why] 40 (0, 0)) ∧ Below w.heap.size w w' := by
  have cA := at_in f n b off cap a w hf ha hc hm hbig hp
  generalize Rn.plc f n a = P at *
  obtain ⟨x, y, z⟩ := P
  dsimp only at cA ⊢
  clear hp
  go_enter Tryd.func18, Tryd.ntmps18
  go_wp2_with fail
  refine cA.mono ?_
  rintro e w1 ⟨rfl, hb⟩
  clear cA
  go_wp2_with fail
  go_ret
  refine ⟨w1.heap.size + 1, rfl, by have := hb.size; omega, ?_, (hb.alloc hb.size _).alloc (by have := hb.size; simp; omega) _⟩
  have := Lx.heap_new (w1.alloc (.cells #[.int .i64 a, .int .i64 x, .int .i64 y, .int .i64 z] 30)) (.cells #[.int .i64 a, .int .i64 x, .int .i64 y, .int .i64 z, .int .i64 why] 40)
  simpa using this

set_option maxRecDepth 100000 in
set_option maxHeartbeats 4000000 in
theorem further_any (f : Nat → Nat) (n b off cap d a : Nat) (w : World) (hf : ∀ j, f j < 256) (hd : d ≤ a) (ha : a < n) (hc : n ≤ cap) (hm : cap ≤ maxLen) (hbig : n ≤ 1152921504606846976) (hp : Bytes w b off n f) (hr : Fd.Run f n 0 d) :
    Calls Tryd.prog 22 #[.slice (some ⟨b, off, none⟩) n cap, .agg (Lx.plA (d, Rn.plc f n d)), .int .i64 a] w fun e w' => e = .returned (.agg (Lx.plA (a, Rn.plc f n a))) ∧ Below w.heap.size w w' := by
  have eq := Lx.plc_shf (f := f) (n := n) (d := d) (a := a - d) hf hr (by omega)
  rw [show d + (a - d) = a by omega] at eq
  have b1 := Lx.plc_bound (f := f) (n := n) (a := d) hf
  have b2 := Lx.plc_bound (f := Rn.off f d) (n := n - d) (a := a - d) (fun _ => hf _)
  have cA : ∀ W, Below w.heap.size w W → _ := fun W hb => at_in (Rn.off f d) (n - d) b (off + d) (cap - d) (a - d) W (fun _ => hf _) (by omega) (by omega) (by omega) (by omega) ((hp.below hb (Nat.le_refl _)).off (by omega))
  rw [← eq]
  unfold Lx.shf
  generalize Rn.plc (Rn.off f d) (n - d) (a - d) = R at *
  generalize Rn.plc f n d = P at *
  obtain ⟨x, y, z⟩ := P
  obtain ⟨x2, y2, z2⟩ := R
  dsimp only at cA b1 b2 ⊢
  unfold Lx.plA
  dsimp only
  have hcap : cap ≤ 9223372036854775807 := by unfold maxLen at hm; omega
  have i1 : (d : Int) ≤ n := by omega
  have i2 : (n : Int) ≤ cap := by omega
  have i3 : (0 : Int) ≤ d := by omega
  have i4 : ¬ cap = d := by omega
  have i5 : ¬ cap - d = 0 := by omega
  have i6 : (d : Int) ≤ cap := by omega
  have e1 : (n : Int) - d = ((n - d : Nat) : Int) := by omega
  have e3 : IntKind.i64.wrap ((a : Int) - d) = ((a - d : Nat) : Int) := by rw [IntKind.wrap_i64]; omega
  obtain ⟨C, hC⟩ : ∃ C, (if y2 = 1 then z - 1 + z2 else z2) = C := ⟨_, rfl⟩
  rw [hC]
  have HC := hide' hC
  clear hC
  obtain ⟨S', hSd⟩ : ∃ S' : World → Prop, S' = fun W => W.heap[w.heap.size]? = some (.cells #[.int .i64 (d : Nat), .int .i64 (x : Nat), .int .i64 (y : Nat), .int .i64 (z : Nat)] 30 (0, 0)) ∧ W.heap[w.heap.size + 1]? = some (.cells #[.int .i64 0, .int .i64 0, .int .i64 0, .int .i64 0] 30 (0, 0)) ∧ Below w.heap.size w W := ⟨_, rfl⟩
  have hSL : ∀ W, S' W → w.heap.size + 1 < W.heap.size := fun W h => by rw [hSd] at h; exact (Array.getElem?_eq_some_iff.1 h.2.1).1
  have hSB : ∀ W W8, S' W → Below W.heap.size W W8 → S' W8 := fun W W8 h hb => by
    have := hSL W h
    rw [hSd] at h ⊢
    exact ⟨(hb.block _ (by omega)).trans h.1, (hb.block _ (by omega)).trans h.2.1, h.2.2.trans (hb.mono h.2.2.size)⟩
  have hSA : ∀ W, S' W → ∀ o, S' (W.alloc o) := fun W h o => hSB _ _ h ((Below.refl _ _).alloc (Nat.le_refl _) o)
  have hSC : ∀ W T, S' W → w.heap.size + 1 < T → ∀ vs : List Value, S' (W.setCells T 0 vs) := fun W T h hT vs => by
    rw [hSd] at h ⊢
    exact ⟨(Lx.heap_far (by omega) _ _ _).trans h.1, (Lx.heap_far (by omega) _ _ _).trans h.2.1, Lx.below_cells (by omega) _ _ _ h.2.2⟩
  have hS0 : S' ((w.alloc (.cells #[.int .i64 (d : Nat), .int .i64 (x : Nat), .int .i64 (y : Nat), .int .i64 (z : Nat)] 30)).alloc (.cells #[.int .i64 0, .int .i64 0, .int .i64 0, .int .i64 0] 30)).drew := by rw [hSd]; exact Lx.two_new w _ _
  have sK : ∀ W, S' W → W.cell? ⟨w.heap.size, 0, none⟩ = some (.int .i64 (d : Nat)) := fun W h => by rw [hSd] at h; rw [Lib.cell_of_heap h.1]; rfl
  have cB : ∀ W, S' W → Calls Tryd.prog 16 #[.slice (some ⟨b, off + d, none⟩) (n - d : Nat) (cap - d : Nat), .int .i64 (a - d : Nat)] W fun e w' => e = .returned (.tuple #[.agg #[.int .i64 (a - d : Nat), .int .i64 (x2 : Nat), .int .i64 (y2 : Nat), .int .i64 (z2 : Nat)], .int .i64 0]) ∧ Below W.heap.size W w' := fun W h => by
    rw [hSd] at h
    exact cA W h.2.2
  have plInfo : (Tryd.prog.info? 30).map (·.size) = some 4 := by kernel_rfl
  have HSD := hide' hSd
  obtain ⟨WR, hWR⟩ : ∃ WR, WR = (w.alloc (.cells #[.int .i64 (d : Nat), .int .i64 (x : Nat), .int .i64 (y : Nat), .int .i64 (z : Nat)] 30)).alloc (.cells #[.int .i64 0, .int .i64 0, .int .i64 0, .int .i64 0] 30) := ⟨_, rfl⟩
  rw [← hWR] at hS0
  clear hp hm cA eq hSd
  go_enter Tryd.func22, Tryd.ntmps22
  go_wp2_with fail
  change Code.wp _ _ _ _ ((w.alloc (.cells #[.int .i64 (d : Nat), .int .i64 (x : Nat), .int .i64 (y : Nat), .int .i64 (z : Nat)] 30)).alloc (.cells #[.int .i64 0, .int .i64 0, .int .i64 0, .int .i64 0] 30))
  rw [← hWR]
  clear hWR
  refine wp_region_held_drew (S := S') (by kernel_rfl) hS0 (fun hHeld => ?_)
  simp only [List.size_toArray, List.length_cons, List.length_nil, Nat.reduceAdd]
  generalize WR.drew = W0 at hHeld hS0 ⊢
  clear hS0
  refine wpAnyH_take (i := 0) (v := .slice (some ⟨b, off, none⟩) n cap) rfl (by kernel_rfl) (by kernel_rfl) (by kernel_rfl) (fun _ _ _ h => h) (Or.inl ⟨by rfl, ?y0⟩) (by assumption) ?_
  case y0 => (intro w' hSw; have qK := sK w' hSw; go_simp; try rfl)
  try simp only [List.getElem_toArray, List.getElem_cons_zero, Act.put, List.setIfInBounds_toArray, List.set_cons_zero, List.set_cons_succ]
  refine wpAnyH_take (i := 1) (v := .pointer (some ⟨w.heap.size, 0, none⟩)) rfl (by kernel_rfl) (by kernel_rfl) (by kernel_rfl) (fun _ _ _ h => h) (Or.inl ⟨by rfl, ?y1⟩) (by assumption) ?_
  case y1 => (intro w' hSw; have qK := sK w' hSw; go_simp; try rfl)
  try simp only [List.getElem_toArray, List.getElem_cons_zero, List.getElem_cons_succ, Act.put, List.setIfInBounds_toArray, List.set_cons_zero, List.set_cons_succ]
  refine wpAnyH_take (i := 2) (v := .int .i64 (d : Nat)) rfl (by kernel_rfl) (by kernel_rfl) (by kernel_rfl) (fun _ _ _ h => h) (Or.inl ⟨by rfl, ?y2⟩) (by assumption) ?_
  case y2 => (intro w' hSw; have qK := sK w' hSw; go_simp; try rfl)
  try simp only [List.getElem_toArray, List.getElem_cons_zero, List.getElem_cons_succ, Act.put, List.setIfInBounds_toArray, List.set_cons_zero, List.set_cons_succ]
  refine wpAnyH_take (i := 3) (v := .slice (some ⟨b, off + d, none⟩) (n - d : Nat) (cap - d : Nat)) rfl (by kernel_rfl) (by kernel_rfl) (by kernel_rfl) (fun _ _ _ h => h) (Or.inl ⟨by rfl, ?y3⟩) (by assumption) ?_
  case y3 => (intro w' hSw; have qK := sK w' hSw; go_simp; try rfl)
  try simp only [List.getElem_toArray, List.getElem_cons_zero, List.getElem_cons_succ, Act.put, List.setIfInBounds_toArray, List.set_cons_zero, List.set_cons_succ]
  refine wpAnyH_take (i := 4) (v := .int .i64 (a : Nat)) rfl (by kernel_rfl) (by kernel_rfl) (by kernel_rfl) (fun _ _ _ h => h) (Or.inl ⟨by rfl, ?y4⟩) (by assumption) ?_
  case y4 => (intro w' hSw; have qK := sK w' hSw; go_simp; try rfl)
  try simp only [List.getElem_toArray, List.getElem_cons_zero, List.getElem_cons_succ, Act.put, List.setIfInBounds_toArray, List.set_cons_zero, List.set_cons_succ]
  refine wpAnyH_take (i := 5) (v := .pointer (some ⟨w.heap.size, 0, none⟩)) rfl (by kernel_rfl) (by kernel_rfl) (by kernel_rfl) (fun _ _ _ h => h) (Or.inl ⟨by rfl, ?y5⟩) (by assumption) ?_
  case y5 => (intro w' hSw; have qK := sK w' hSw; go_simp; try rfl)
  try simp only [List.getElem_toArray, List.getElem_cons_zero, List.getElem_cons_succ, Act.put, List.setIfInBounds_toArray, List.set_cons_zero, List.set_cons_succ]
  refine wpAnyH_take (i := 6) (v := .int .i64 (d : Nat)) rfl (by kernel_rfl) (by kernel_rfl) (by kernel_rfl) (fun _ _ _ h => h) (Or.inl ⟨by rfl, ?y6⟩) (by assumption) ?_
  case y6 => (intro w' hSw; have qK := sK w' hSw; go_simp; try rfl)
  try simp only [List.getElem_toArray, List.getElem_cons_zero, List.getElem_cons_succ, Act.put, List.setIfInBounds_toArray, List.set_cons_zero, List.set_cons_succ]
  refine wpAnyH_take (i := 7) (v := .int .i64 (a - d : Nat)) rfl (by kernel_rfl) (by kernel_rfl) (by kernel_rfl) (fun _ _ _ h => h) (Or.inl ⟨by rfl, ?y7⟩) (by assumption) ?_
  case y7 => (intro w' hSw; have qK := sK w' hSw; go_simp; try rfl)
  try simp only [List.getElem_toArray, List.getElem_cons_zero, List.getElem_cons_succ, Act.put, List.setIfInBounds_toArray, List.set_cons_zero, List.set_cons_succ]
  refine wpAnyH_ready (rs := [8, 12]) (by kernel_rfl) (by simp) ?_
  refine AllReadyH.cons rfl (fun K hK => ?_) ?_
  · try simp only [List.getElem_toArray, List.getElem_cons_zero, List.getElem_cons_succ]
    go_simp
    refine (cB _ hHeld).mono ?_
    rintro e W1 ⟨rfl, hb1⟩
    go_wp2_with fail
    have hS1 := hSB _ _ hHeld hb1
    refine hK.out _ _ hS1 (fun hHeld9 => ?_)
    clear hK K hHeld9
    try simp only [List.getElem_toArray, List.getElem_cons_zero, List.getElem_cons_succ, Act.put, List.setIfInBounds_toArray, List.set_cons_zero, List.set_cons_succ]
    refine wpAnyH_take (i := 9) (v := .tuple #[.agg #[.int .i64 (a - d : Nat), .int .i64 (x2 : Nat), .int .i64 (y2 : Nat), .int .i64 (z2 : Nat)], .int .i64 0]) rfl (by kernel_rfl) (by kernel_rfl) (by kernel_rfl) (fun _ _ _ h => h) (Or.inl ⟨by rfl, ?y9⟩) (by assumption) ?_
    case y9 => (intro w' hSw; have qK := sK w' hSw; go_simp; try rfl)
    try simp only [List.getElem_toArray, List.getElem_cons_zero, List.getElem_cons_succ, Act.put, List.setIfInBounds_toArray, List.set_cons_zero, List.set_cons_succ]
    refine wpAnyH_take (i := 10) (v := .agg #[.int .i64 (a - d : Nat), .int .i64 (x2 : Nat), .int .i64 (y2 : Nat), .int .i64 (z2 : Nat)]) rfl (by kernel_rfl) (by kernel_rfl) (by kernel_rfl) (fun _ _ _ h => h) (Or.inl ⟨by rfl, ?y10⟩) (by assumption) ?_
    case y10 => (intro w' hSw; have qK := sK w' hSw; go_simp; try rfl)
    try simp only [List.getElem_toArray, List.getElem_cons_zero, List.getElem_cons_succ, Act.put, List.setIfInBounds_toArray, List.set_cons_zero, List.set_cons_succ]
    refine wpAnyH_take (i := 11) (v := .int .i64 0) rfl (by kernel_rfl) (by kernel_rfl) (by kernel_rfl) (fun _ _ _ h => h) (Or.inl ⟨by rfl, ?y11⟩) (by assumption) ?_
    case y11 => (intro w' hSw; have qK := sK w' hSw; go_simp; try rfl)
    try simp only [List.getElem_toArray, List.getElem_cons_zero, List.getElem_cons_succ, Act.put, List.setIfInBounds_toArray, List.set_cons_zero, List.set_cons_succ]
    refine wpAnyH_ready (rs := [12]) (by kernel_rfl) (by simp) ?_
    refine AllReadyH.cons rfl (fun K hK => ?_) AllReadyH.nil
    try simp only [List.getElem_toArray, List.getElem_cons_zero, List.getElem_cons_succ]
    go_simp
    have hSa := hSA _ hS1 (.cells #[.int .i64 0, .int .i64 0, .int .i64 0, .int .i64 0] 30)
    have hTa := Lx.heap_new W1 (.cells #[.int .i64 0, .int .i64 0, .int .i64 0, .int .i64 0] 30)
    have hTg := hSL _ hS1
    refine hK.out _ _ hSa (fun hHeld9 => ?_)
    clear hK K hHeld9
    try simp only [List.getElem_toArray, List.getElem_cons_zero, List.getElem_cons_succ, Act.put, List.setIfInBounds_toArray, List.set_cons_zero, List.set_cons_succ]
    change wpAnyH _ _ _ _ _ _ _ _ (World.alloc W1 (.cells #[.int .i64 0, .int .i64 0, .int .i64 0, .int .i64 0] 30))
    generalize W1.alloc (.cells #[.int .i64 0, .int .i64 0, .int .i64 0, .int .i64 0] 30) = W2 at hSa hTa ⊢
    refine wpAnyH_ready (rs := [13]) (by kernel_rfl) (by simp) ?_
    refine AllReadyH.cons rfl (fun K hK => ?_) AllReadyH.nil
    try simp only [List.getElem_toArray, List.getElem_cons_zero, List.getElem_cons_succ]
    rw [if_pos (by rfl)]
    refine wp_store_mid 30 (.tmp 7) (.tmp 19) ?_ W1.heap.size 0 #[.int .i64 (a - d : Nat), .int .i64 (x2 : Nat), .int .i64 (y2 : Nat), .int .i64 (z2 : Nat)] ?_ ?_ (Lx.there_of hTa 0 4 (Nat.le_refl _)) plInfo (by simp [Value.oneCell']) ?_
    · rfl
    · rfl
    · rfl
    refine hK.out _ _ (hSC _ _ hSa hTg _) (fun hHeld9 => ?_)
    clear hK K
    try simp only [Act.put]
    have hTT := Lx.heap_setCells (#[.int .i64 (a - d : Nat), .int .i64 (x2 : Nat), .int .i64 (y2 : Nat), .int .i64 (z2 : Nat)] : Array Value).toList 0 _ _ hTa
    generalize W2.setCells W1.heap.size 0 _ = W9 at hHeld9 hTT ⊢
    try simp only [List.getElem_toArray, List.getElem_cons_zero, List.getElem_cons_succ, Act.put, List.setIfInBounds_toArray, List.set_cons_zero, List.set_cons_succ]
    refine wpAnyH_take (i := 14) (v := .int .i64 0) rfl (by kernel_rfl) (by kernel_rfl) (by kernel_rfl) (fun _ _ _ h => h) (Or.inl ⟨by rfl, ?y14⟩) (by assumption) ?_
    case y14 => (intro w' hSw; have qK := sK w' hSw; go_simp; try rfl)
    try simp only [List.getElem_toArray, List.getElem_cons_zero, List.getElem_cons_succ, Act.put, List.setIfInBounds_toArray, List.set_cons_zero, List.set_cons_succ]
    refine wpAnyH_done (by kernel_rfl) ?_ _
    generalize W1.heap.size = T at hTg hTT ⊢
    have hX := hHeld9
    rw [HSD.out] at hX
    obtain ⟨x1, x3, x4⟩ := hX
    have hTT' : W9.heap[T]? = some (.cells #[.int .i64 (a - d : Nat), .int .i64 (x2 : Nat), .int .i64 (y2 : Nat), .int .i64 (z2 : Nat)] 30 (0, 0)) := hTT
    have k1 : W9.cell? ⟨w.heap.size, 1, none⟩ = some (.int .i64 (x : Nat)) := by rw [Lib.cell_of_heap x1]; rfl
    have k2 : W9.cell? ⟨w.heap.size, 2, none⟩ = some (.int .i64 (y : Nat)) := by rw [Lib.cell_of_heap x1]; rfl
    have k3 : W9.cell? ⟨w.heap.size, 3, none⟩ = some (.int .i64 (z : Nat)) := by rw [Lib.cell_of_heap x1]; rfl
    have t0 : W9.cell? ⟨T, 0, none⟩ = some (.int .i64 (a - d : Nat)) := by rw [Lib.cell_of_heap hTT']; rfl
    have t1 : W9.cell? ⟨T, 1, none⟩ = some (.int .i64 (x2 : Nat)) := by rw [Lib.cell_of_heap hTT']; rfl
    have t2 : W9.cell? ⟨T, 2, none⟩ = some (.int .i64 (y2 : Nat)) := by rw [Lib.cell_of_heap hTT']; rfl
    have t3 : W9.cell? ⟨T, 3, none⟩ = some (.int .i64 (z2 : Nat)) := by rw [Lib.cell_of_heap hTT']; rfl
    have f0 := fun j => Lib.frozen_of_heap hTT' j
    have f1 := fun j => Lib.frozen_of_heap x3 j
    have z0 : W9.cell? ⟨w.heap.size + 1, 0, none⟩ = some (.int .i64 0) := by rw [Lib.cell_of_heap x3]; rfl
    have z1 : W9.cell? ⟨w.heap.size + 1, 1, none⟩ = some (.int .i64 0) := by rw [Lib.cell_of_heap x3]; rfl
    have z2' : W9.cell? ⟨w.heap.size + 1, 2, none⟩ = some (.int .i64 0) := by rw [Lib.cell_of_heap x3]; rfl
    have z3 : W9.cell? ⟨w.heap.size + 1, 3, none⟩ = some (.int .i64 0) := by rw [Lib.cell_of_heap x3]; rfl
    have n1 : ¬ T = w.heap.size := by omega
    have n2 : ¬ T = w.heap.size + 1 := by omega
    have n3 : ¬ w.heap.size = T := by omega
    have n4 : ¬ w.heap.size + 1 = T := by omega
    have HX4 := hide' x4
    have HX3 := hide' x3
    clear hTT hTT' x1 x3 x4 hHeld9 HSD cB hSB hSA hSC sK hSL
    by_cases hy : y2 = 1
    · have g1 : ((y2 : Int) == 1) = true := by simp [hy]
      obtain rfl : C = z - 1 + z2 := by rw [← HC.out, if_pos hy]
      clear hy HC
      go_wp2
      have hw : ((((W9.setCell ⟨T, 3, none⟩ (.int .i64 ((z2 : Int) + ((z : Int) - 1)))).setCell ⟨T, 2, none⟩ (.int .i64 ((y2 : Int) + ((y : Int) - 1)))).setCell ⟨T, 1, none⟩ (.int .i64 ((x2 : Int) + (x : Int)))).setCell ⟨T, 0, none⟩ (.int .i64 (a : Nat))).heap[w.heap.size + 1]? = some (.cells #[.int .i64 0, .int .i64 0, .int .i64 0, .int .i64 0] 30 (0, 0)) := ((RowKit.Below.heap_setCell _ _ _ _ n4).trans ((RowKit.Below.heap_setCell _ _ _ _ n4).trans ((RowKit.Below.heap_setCell _ _ _ _ n4).trans ((RowKit.Below.heap_setCell _ _ _ _ n4).trans HX3.out))))
      refine bodyPost_ret (v := .agg ([.int .i64 (a : Nat), .int .i64 ((x2 : Int) + (x : Int)), .int .i64 ((y2 : Int) + ((y : Int) - 1)), .int .i64 ((z2 : Int) + ((z : Int) - 1))] : List Value).toArray) (Lx.results_cell Tryd.results22 _ ⟨w.heap.size + 1, 0, none⟩ rfl _ _ (run_loadVar_mid (((((W9.setCell ⟨T, 3, none⟩ (.int .i64 ((z2 : Int) + ((z : Int) - 1)))).setCell ⟨T, 2, none⟩ (.int .i64 ((y2 : Int) + ((y : Int) - 1)))).setCell ⟨T, 1, none⟩ (.int .i64 ((x2 : Int) + (x : Int)))).setCell ⟨T, 0, none⟩ (.int .i64 (a : Nat))).setCells (w.heap.size + 1) 0 [.int .i64 (a : Nat), .int .i64 ((x2 : Int) + (x : Int)), .int .i64 ((y2 : Int) + ((y : Int) - 1)), .int .i64 ((z2 : Int) + ((z : Int) - 1))]) (w.heap.size + 1) 0 30 [.int .i64 (a : Nat), .int .i64 ((x2 : Int) + (x : Int)), .int .i64 ((y2 : Int) + ((y : Int) - 1)), .int .i64 ((z2 : Int) + ((z : Int) - 1))] _ (World.rangeAt_setCells_same _ _ _ _ (Lx.there_of hw 0 4 (Nat.le_refl _))) Tryd.underlying30 rfl plInfo)) rfl ⟨?_, Lx.below_cells (Nat.le_succ _) [.int .i64 (a : Nat), .int .i64 ((x2 : Int) + (x : Int)), .int .i64 ((y2 : Int) + ((y : Int) - 1)), .int .i64 ((z2 : Int) + ((z : Int) - 1))] 0 _ ((((HX4.out.setCell (p := ⟨T, 3, none⟩) (by show w.heap.size ≤ T; omega) _).setCell (p := ⟨T, 2, none⟩) (by show w.heap.size ≤ T; omega) _).setCell (p := ⟨T, 1, none⟩) (by show w.heap.size ≤ T; omega) _).setCell (p := ⟨T, 0, none⟩) (by show w.heap.size ≤ T; omega) _)⟩
      rw [show ((x2 : Int) + (x : Int)) = ((x + x2 : Nat) : Int) by omega, show ((y2 : Int) + ((y : Int) - 1)) = ((y - 1 + y2 : Nat) : Int) by omega, show ((z2 : Int) + ((z : Int) - 1)) = ((z - 1 + z2 : Nat) : Int) by omega]
    · have g1 : ((y2 : Int) == 1) = false := by simp; omega
      obtain rfl : C = z2 := by rw [← HC.out, if_neg hy]
      clear hy HC
      go_wp2
      have hw : (((W9.setCell ⟨T, 2, none⟩ (.int .i64 ((y2 : Int) + ((y : Int) - 1)))).setCell ⟨T, 1, none⟩ (.int .i64 ((x2 : Int) + (x : Int)))).setCell ⟨T, 0, none⟩ (.int .i64 (a : Nat))).heap[w.heap.size + 1]? = some (.cells #[.int .i64 0, .int .i64 0, .int .i64 0, .int .i64 0] 30 (0, 0)) := ((RowKit.Below.heap_setCell _ _ _ _ n4).trans ((RowKit.Below.heap_setCell _ _ _ _ n4).trans ((RowKit.Below.heap_setCell _ _ _ _ n4).trans HX3.out)))
      refine bodyPost_ret (v := .agg ([.int .i64 (a : Nat), .int .i64 ((x2 : Int) + (x : Int)), .int .i64 ((y2 : Int) + ((y : Int) - 1)), .int .i64 (C : Nat)] : List Value).toArray) (Lx.results_cell Tryd.results22 _ ⟨w.heap.size + 1, 0, none⟩ rfl _ _ (run_loadVar_mid ((((W9.setCell ⟨T, 2, none⟩ (.int .i64 ((y2 : Int) + ((y : Int) - 1)))).setCell ⟨T, 1, none⟩ (.int .i64 ((x2 : Int) + (x : Int)))).setCell ⟨T, 0, none⟩ (.int .i64 (a : Nat))).setCells (w.heap.size + 1) 0 [.int .i64 (a : Nat), .int .i64 ((x2 : Int) + (x : Int)), .int .i64 ((y2 : Int) + ((y : Int) - 1)), .int .i64 (C : Nat)]) (w.heap.size + 1) 0 30 [.int .i64 (a : Nat), .int .i64 ((x2 : Int) + (x : Int)), .int .i64 ((y2 : Int) + ((y : Int) - 1)), .int .i64 (C : Nat)] _ (World.rangeAt_setCells_same _ _ _ _ (Lx.there_of hw 0 4 (Nat.le_refl _))) Tryd.underlying30 rfl plInfo)) rfl ⟨?_, Lx.below_cells (Nat.le_succ _) [.int .i64 (a : Nat), .int .i64 ((x2 : Int) + (x : Int)), .int .i64 ((y2 : Int) + ((y : Int) - 1)), .int .i64 (C : Nat)] 0 _ (((HX4.out.setCell (p := ⟨T, 2, none⟩) (by show w.heap.size ≤ T; omega) _).setCell (p := ⟨T, 1, none⟩) (by show w.heap.size ≤ T; omega) _).setCell (p := ⟨T, 0, none⟩) (by show w.heap.size ≤ T; omega) _)⟩
      rw [show ((x2 : Int) + (x : Int)) = ((x + x2 : Nat) : Int) by omega, show ((y2 : Int) + ((y : Int) - 1)) = ((y - 1 + y2 : Nat) : Int) by omega]
  refine AllReadyH.cons rfl (fun K hK => ?_) AllReadyH.nil
  try simp only [List.getElem_toArray, List.getElem_cons_zero, List.getElem_cons_succ]
  go_simp
  have hSa := hSA _ hHeld (.cells #[.int .i64 0, .int .i64 0, .int .i64 0, .int .i64 0] 30)
  have hTa := Lx.heap_new W0 (.cells #[.int .i64 0, .int .i64 0, .int .i64 0, .int .i64 0] 30)
  have hTg := hSL _ hHeld
  refine hK.out _ _ hSa (fun hHeld9 => ?_)
  clear hK K hHeld9
  try simp only [List.getElem_toArray, List.getElem_cons_zero, List.getElem_cons_succ, Act.put, List.setIfInBounds_toArray, List.set_cons_zero, List.set_cons_succ]
  change wpAnyH _ _ _ _ _ _ _ _ (World.alloc W0 (.cells #[.int .i64 0, .int .i64 0, .int .i64 0, .int .i64 0] 30))
  generalize W0.alloc (.cells #[.int .i64 0, .int .i64 0, .int .i64 0, .int .i64 0] 30) = W2 at hSa hTa ⊢
  refine wpAnyH_ready (rs := [8]) (by kernel_rfl) (by simp) ?_
  refine AllReadyH.cons rfl (fun K hK => ?_) AllReadyH.nil
  try simp only [List.getElem_toArray, List.getElem_cons_zero, List.getElem_cons_succ]
  go_simp
  refine (cB _ hSa).mono ?_
  rintro e W1 ⟨rfl, hb1⟩
  go_wp2_with fail
  have hS1 := hSB _ _ hSa hb1
  have hT1 := (hb1.block _ ((Array.getElem?_eq_some_iff.1 hTa).1)).trans hTa
  refine hK.out _ _ hS1 (fun hHeld9 => ?_)
  clear hK K hHeld9
  try simp only [List.getElem_toArray, List.getElem_cons_zero, List.getElem_cons_succ, Act.put, List.setIfInBounds_toArray, List.set_cons_zero, List.set_cons_succ]
  refine wpAnyH_take (i := 9) (v := .tuple #[.agg #[.int .i64 (a - d : Nat), .int .i64 (x2 : Nat), .int .i64 (y2 : Nat), .int .i64 (z2 : Nat)], .int .i64 0]) rfl (by kernel_rfl) (by kernel_rfl) (by kernel_rfl) (fun _ _ _ h => h) (Or.inl ⟨by rfl, ?y9⟩) (by assumption) ?_
  case y9 => (intro w' hSw; have qK := sK w' hSw; go_simp; try rfl)
  try simp only [List.getElem_toArray, List.getElem_cons_zero, List.getElem_cons_succ, Act.put, List.setIfInBounds_toArray, List.set_cons_zero, List.set_cons_succ]
  refine wpAnyH_take (i := 10) (v := .agg #[.int .i64 (a - d : Nat), .int .i64 (x2 : Nat), .int .i64 (y2 : Nat), .int .i64 (z2 : Nat)]) rfl (by kernel_rfl) (by kernel_rfl) (by kernel_rfl) (fun _ _ _ h => h) (Or.inl ⟨by rfl, ?y10⟩) (by assumption) ?_
  case y10 => (intro w' hSw; have qK := sK w' hSw; go_simp; try rfl)
  try simp only [List.getElem_toArray, List.getElem_cons_zero, List.getElem_cons_succ, Act.put, List.setIfInBounds_toArray, List.set_cons_zero, List.set_cons_succ]
  refine wpAnyH_take (i := 11) (v := .int .i64 0) rfl (by kernel_rfl) (by kernel_rfl) (by kernel_rfl) (fun _ _ _ h => h) (Or.inl ⟨by rfl, ?y11⟩) (by assumption) ?_
  case y11 => (intro w' hSw; have qK := sK w' hSw; go_simp; try rfl)
  try simp only [List.getElem_toArray, List.getElem_cons_zero, List.getElem_cons_succ, Act.put, List.setIfInBounds_toArray, List.set_cons_zero, List.set_cons_succ]
  refine wpAnyH_ready (rs := [13]) (by kernel_rfl) (by simp) ?_
  refine AllReadyH.cons rfl (fun K hK => ?_) AllReadyH.nil
  try simp only [List.getElem_toArray, List.getElem_cons_zero, List.getElem_cons_succ]
  rw [if_pos (by rfl)]
  refine wp_store_mid 30 (.tmp 7) (.tmp 19) ?_ W0.heap.size 0 #[.int .i64 (a - d : Nat), .int .i64 (x2 : Nat), .int .i64 (y2 : Nat), .int .i64 (z2 : Nat)] ?_ ?_ (Lx.there_of hT1 0 4 (Nat.le_refl _)) plInfo (by simp [Value.oneCell']) ?_
  · rfl
  · rfl
  · rfl
  refine hK.out _ _ (hSC _ _ hS1 hTg _) (fun hHeld9 => ?_)
  clear hK K
  try simp only [Act.put]
  have hTT := Lx.heap_setCells (#[.int .i64 (a - d : Nat), .int .i64 (x2 : Nat), .int .i64 (y2 : Nat), .int .i64 (z2 : Nat)] : Array Value).toList 0 _ _ hT1
  generalize W1.setCells W0.heap.size 0 _ = W9 at hHeld9 hTT ⊢
  try simp only [List.getElem_toArray, List.getElem_cons_zero, List.getElem_cons_succ, Act.put, List.setIfInBounds_toArray, List.set_cons_zero, List.set_cons_succ]
  refine wpAnyH_take (i := 14) (v := .int .i64 0) rfl (by kernel_rfl) (by kernel_rfl) (by kernel_rfl) (fun _ _ _ h => h) (Or.inl ⟨by rfl, ?y14⟩) (by assumption) ?_
  case y14 => (intro w' hSw; have qK := sK w' hSw; go_simp; try rfl)
  try simp only [List.getElem_toArray, List.getElem_cons_zero, List.getElem_cons_succ, Act.put, List.setIfInBounds_toArray, List.set_cons_zero, List.set_cons_succ]
  refine wpAnyH_done (by kernel_rfl) ?_ _
  generalize W0.heap.size = T at hTg hTT ⊢
  have hX := hHeld9
  rw [HSD.out] at hX
  obtain ⟨x1, x3, x4⟩ := hX
  have hTT' : W9.heap[T]? = some (.cells #[.int .i64 (a - d : Nat), .int .i64 (x2 : Nat), .int .i64 (y2 : Nat), .int .i64 (z2 : Nat)] 30 (0, 0)) := hTT
  have k1 : W9.cell? ⟨w.heap.size, 1, none⟩ = some (.int .i64 (x : Nat)) := by rw [Lib.cell_of_heap x1]; rfl
  have k2 : W9.cell? ⟨w.heap.size, 2, none⟩ = some (.int .i64 (y : Nat)) := by rw [Lib.cell_of_heap x1]; rfl
  have k3 : W9.cell? ⟨w.heap.size, 3, none⟩ = some (.int .i64 (z : Nat)) := by rw [Lib.cell_of_heap x1]; rfl
  have t0 : W9.cell? ⟨T, 0, none⟩ = some (.int .i64 (a - d : Nat)) := by rw [Lib.cell_of_heap hTT']; rfl
  have t1 : W9.cell? ⟨T, 1, none⟩ = some (.int .i64 (x2 : Nat)) := by rw [Lib.cell_of_heap hTT']; rfl
  have t2 : W9.cell? ⟨T, 2, none⟩ = some (.int .i64 (y2 : Nat)) := by rw [Lib.cell_of_heap hTT']; rfl
  have t3 : W9.cell? ⟨T, 3, none⟩ = some (.int .i64 (z2 : Nat)) := by rw [Lib.cell_of_heap hTT']; rfl
  have f0 := fun j => Lib.frozen_of_heap hTT' j
  have f1 := fun j => Lib.frozen_of_heap x3 j
  have z0 : W9.cell? ⟨w.heap.size + 1, 0, none⟩ = some (.int .i64 0) := by rw [Lib.cell_of_heap x3]; rfl
  have z1 : W9.cell? ⟨w.heap.size + 1, 1, none⟩ = some (.int .i64 0) := by rw [Lib.cell_of_heap x3]; rfl
  have z2' : W9.cell? ⟨w.heap.size + 1, 2, none⟩ = some (.int .i64 0) := by rw [Lib.cell_of_heap x3]; rfl
  have z3 : W9.cell? ⟨w.heap.size + 1, 3, none⟩ = some (.int .i64 0) := by rw [Lib.cell_of_heap x3]; rfl
  have n1 : ¬ T = w.heap.size := by omega
  have n2 : ¬ T = w.heap.size + 1 := by omega
  have n3 : ¬ w.heap.size = T := by omega
  have n4 : ¬ w.heap.size + 1 = T := by omega
  have HX4 := hide' x4
  have HX3 := hide' x3
  clear hTT hTT' x1 x3 x4 hHeld9 HSD cB hSB hSA hSC sK hSL
  by_cases hy : y2 = 1
  · have g1 : ((y2 : Int) == 1) = true := by simp [hy]
    obtain rfl : C = z - 1 + z2 := by rw [← HC.out, if_pos hy]
    clear hy HC
    go_wp2
    have hw : ((((W9.setCell ⟨T, 3, none⟩ (.int .i64 ((z2 : Int) + ((z : Int) - 1)))).setCell ⟨T, 2, none⟩ (.int .i64 ((y2 : Int) + ((y : Int) - 1)))).setCell ⟨T, 1, none⟩ (.int .i64 ((x2 : Int) + (x : Int)))).setCell ⟨T, 0, none⟩ (.int .i64 (a : Nat))).heap[w.heap.size + 1]? = some (.cells #[.int .i64 0, .int .i64 0, .int .i64 0, .int .i64 0] 30 (0, 0)) := ((RowKit.Below.heap_setCell _ _ _ _ n4).trans ((RowKit.Below.heap_setCell _ _ _ _ n4).trans ((RowKit.Below.heap_setCell _ _ _ _ n4).trans ((RowKit.Below.heap_setCell _ _ _ _ n4).trans HX3.out))))
    refine bodyPost_ret (v := .agg ([.int .i64 (a : Nat), .int .i64 ((x2 : Int) + (x : Int)), .int .i64 ((y2 : Int) + ((y : Int) - 1)), .int .i64 ((z2 : Int) + ((z : Int) - 1))] : List Value).toArray) (Lx.results_cell Tryd.results22 _ ⟨w.heap.size + 1, 0, none⟩ rfl _ _ (run_loadVar_mid (((((W9.setCell ⟨T, 3, none⟩ (.int .i64 ((z2 : Int) + ((z : Int) - 1)))).setCell ⟨T, 2, none⟩ (.int .i64 ((y2 : Int) + ((y : Int) - 1)))).setCell ⟨T, 1, none⟩ (.int .i64 ((x2 : Int) + (x : Int)))).setCell ⟨T, 0, none⟩ (.int .i64 (a : Nat))).setCells (w.heap.size + 1) 0 [.int .i64 (a : Nat), .int .i64 ((x2 : Int) + (x : Int)), .int .i64 ((y2 : Int) + ((y : Int) - 1)), .int .i64 ((z2 : Int) + ((z : Int) - 1))]) (w.heap.size + 1) 0 30 [.int .i64 (a : Nat), .int .i64 ((x2 : Int) + (x : Int)), .int .i64 ((y2 : Int) + ((y : Int) - 1)), .int .i64 ((z2 : Int) + ((z : Int) - 1))] _ (World.rangeAt_setCells_same _ _ _ _ (Lx.there_of hw 0 4 (Nat.le_refl _))) Tryd.underlying30 rfl plInfo)) rfl ⟨?_, Lx.below_cells (Nat.le_succ _) [.int .i64 (a : Nat), .int .i64 ((x2 : Int) + (x : Int)), .int .i64 ((y2 : Int) + ((y : Int) - 1)), .int .i64 ((z2 : Int) + ((z : Int) - 1))] 0 _ ((((HX4.out.setCell (p := ⟨T, 3, none⟩) (by show w.heap.size ≤ T; omega) _).setCell (p := ⟨T, 2, none⟩) (by show w.heap.size ≤ T; omega) _).setCell (p := ⟨T, 1, none⟩) (by show w.heap.size ≤ T; omega) _).setCell (p := ⟨T, 0, none⟩) (by show w.heap.size ≤ T; omega) _)⟩
    rw [show ((x2 : Int) + (x : Int)) = ((x + x2 : Nat) : Int) by omega, show ((y2 : Int) + ((y : Int) - 1)) = ((y - 1 + y2 : Nat) : Int) by omega, show ((z2 : Int) + ((z : Int) - 1)) = ((z - 1 + z2 : Nat) : Int) by omega]
  · have g1 : ((y2 : Int) == 1) = false := by simp; omega
    obtain rfl : C = z2 := by rw [← HC.out, if_neg hy]
    clear hy HC
    go_wp2
    have hw : (((W9.setCell ⟨T, 2, none⟩ (.int .i64 ((y2 : Int) + ((y : Int) - 1)))).setCell ⟨T, 1, none⟩ (.int .i64 ((x2 : Int) + (x : Int)))).setCell ⟨T, 0, none⟩ (.int .i64 (a : Nat))).heap[w.heap.size + 1]? = some (.cells #[.int .i64 0, .int .i64 0, .int .i64 0, .int .i64 0] 30 (0, 0)) := ((RowKit.Below.heap_setCell _ _ _ _ n4).trans ((RowKit.Below.heap_setCell _ _ _ _ n4).trans ((RowKit.Below.heap_setCell _ _ _ _ n4).trans HX3.out)))
    refine bodyPost_ret (v := .agg ([.int .i64 (a : Nat), .int .i64 ((x2 : Int) + (x : Int)), .int .i64 ((y2 : Int) + ((y : Int) - 1)), .int .i64 (C : Nat)] : List Value).toArray) (Lx.results_cell Tryd.results22 _ ⟨w.heap.size + 1, 0, none⟩ rfl _ _ (run_loadVar_mid ((((W9.setCell ⟨T, 2, none⟩ (.int .i64 ((y2 : Int) + ((y : Int) - 1)))).setCell ⟨T, 1, none⟩ (.int .i64 ((x2 : Int) + (x : Int)))).setCell ⟨T, 0, none⟩ (.int .i64 (a : Nat))).setCells (w.heap.size + 1) 0 [.int .i64 (a : Nat), .int .i64 ((x2 : Int) + (x : Int)), .int .i64 ((y2 : Int) + ((y : Int) - 1)), .int .i64 (C : Nat)]) (w.heap.size + 1) 0 30 [.int .i64 (a : Nat), .int .i64 ((x2 : Int) + (x : Int)), .int .i64 ((y2 : Int) + ((y : Int) - 1)), .int .i64 (C : Nat)] _ (World.rangeAt_setCells_same _ _ _ _ (Lx.there_of hw 0 4 (Nat.le_refl _))) Tryd.underlying30 rfl plInfo)) rfl ⟨?_, Lx.below_cells (Nat.le_succ _) [.int .i64 (a : Nat), .int .i64 ((x2 : Int) + (x : Int)), .int .i64 ((y2 : Int) + ((y : Int) - 1)), .int .i64 (C : Nat)] 0 _ (((HX4.out.setCell (p := ⟨T, 2, none⟩) (by show w.heap.size ≤ T; omega) _).setCell (p := ⟨T, 1, none⟩) (by show w.heap.size ≤ T; omega) _).setCell (p := ⟨T, 0, none⟩) (by show w.heap.size ≤ T; omega) _)⟩
    rw [show ((x2 : Int) + (x : Int)) = ((x + x2 : Nat) : Int) by omega, show ((y2 : Int) + ((y : Int) - 1)) = ((y - 1 + y2 : Nat) : Int) by omega]
end Go.Proofs.YtoccedbnnafjcaaDoor
/-
  THE WALK over runes.Good.
-/
namespace Go.Proofs.YtoccedbnnafjcaaDoor
open Go.RowKit Go.Lib
set_option maxHeartbeats 2000000 in
/-- Good AT EVERY SLICE OF BYTES THAT IS NOT nil -/
theorem good_any (f : Nat → Nat) (n b off cap : Nat) (w : World) (hT : Lib.Utf8Tabs 1 2 w) (hf : ∀ j, f j < 256) (hc : n ≤ cap) (hm : cap ≤ maxLen)
    (hp : Bytes w b off n f) :
    Calls Tryd.prog 19 #[.slice (some ⟨b, off, none⟩) n cap] w fun e w' => e = .returned (.int .i64 (Rn.good f n)) ∧ Below w.heap.size w w' := by
  have hm' : cap ≤ 9223372036854775807 := by unfold maxLen at hm; omega
  have hgl := Rn.good_le f n
  have cN : ∀ k w1, k < n → Below w.heap.size w w1 → _ := fun k w1 hk hb => next_in f n b off cap k w1 (tabs_below hT hb (Nat.le_refl _)) hf hk hc hm (hp.below hb (Nat.le_refl _))
  have cE : ∀ w1, _ := fun w1 => next_done b off n cap w1 hc hm
  have cB : ∀ k w1, k < n → Below w.heap.size w w1 → Rn.whole (Rn.off f k) (n - k) = false → _ := fun k w1 hk hb hw => beginning_any (Rn.off f k) (n - k) b (off + k) (cap - k) w1 (tabs_below hT hb (Nat.le_refl _)) (fun j => hf _) (by omega) (by omega) ((hp.below hb (Nat.le_refl _)).off (by omega)) hw
  clear hT hp
  go_enter Tryd.func19, Tryd.ntmps19
  go_wp2
  go_loopw [3] (fun i wr => ∃ (k fuel : Nat), i = .int .i64 k ∧ k ≤ n ∧ n ≤ k + fuel ∧ Rn.goodFrom f n fuel k = Rn.good f n ∧ Below w.heap.size w wr) (fun i _ => n - (RowKit.intOf i).toNat)
  case atStart => exact ⟨0, n, rfl, Nat.zero_le _, by omega, rfl, Below.refl _ _⟩
  case round =>
    obtain ⟨k, fuel, rfl, hk, hfu, hg, hb⟩ := hrel
    by_cases hlt : k < n
    · obtain ⟨m, rfl⟩ : ∃ m, fuel = m + 1 := ⟨fuel - 1, by omega⟩
      have c := cN k wr hlt hb
      unfold Rn.goodFrom at hg
      rw [if_neg (by omega)] at hg
      clear cN cE
      cases hwh : Rn.whole (Rn.off f k) (n - k)
      · simp only [hwh, Bool.false_eq_true, if_false] at hg
        have cb := fun w1 hb1 => cB k w1 hlt hb1 hwh
        clear cB
        cases hwa : Rn.waits (Rn.off f k) (n - k)
        · rw [Rn.nx_bad (by omega) hwa hwh] at c
          have HG : Hid (k + Rn.fk (Rn.off f k) (n - k) = Rn.good f n) := hg
          clear hwa hwh hg
          have hle := Rn.fk_le (Rn.off f k) (n - k)
          go_wp2_with fail
          refine c.mono ?_
          rintro e w1 ⟨rfl, hb1⟩
          go_wp2_with fail
          refine (cb w1 (hb.trans (hb1.mono hb.size))).mono ?_
          rintro e w2 ⟨rfl, hb2⟩
          go_wp2_with fail
          go_ret
          exact ⟨by rw [← HG.out]; go_num, (hb.trans (hb1.mono hb.size)).trans (hb2.mono (hb.trans (hb1.mono hb.size)).size)⟩
        · obtain ⟨e1, e2⟩ := Rn.nx_waits hwa
          rw [e1] at c
          rw [e2] at hg
          have HG : Hid (k + (n - k) = Rn.good f n) := hg
          clear hwa hwh hg e1 e2 cb
          go_wp2_with fail
          refine c.mono ?_
          rintro e w1 ⟨rfl, hb1⟩
          go_wp2_with fail
          go_roundw
          case rel => exact ⟨n, m, by go_num, Nat.le_refl _, by omega, by rw [Rn.goodFrom_end _ _ _ _ (Nat.le_refl _), ← HG.out]; omega, hb.trans (hb1.mono hb.size)⟩
          case measure => simp [RowKit.intOf]; omega
      · simp only [hwh, if_true] at hg
        rw [Rn.nx_whole hwh] at c
        have HG : Hid (Rn.goodFrom f n m (k + Rn.fs (Rn.off f k) (n - k)) = Rn.good f n) := hg
        have hle := Rn.fk_le (Rn.off f k) (n - k)
        simp only [Rn.whole, decide_eq_true_eq] at hwh
        have hpos := hwh.1
        have hle2 : Rn.fs (Rn.off f k) (n - k) ≤ n - k := by omega
        clear hg hwh cB hle
        generalize Rn.fs (Rn.off f k) (n - k) = q at *
        go_wp2_with fail
        refine c.mono ?_
        rintro e w1 ⟨rfl, hb1⟩
        go_wp2_with fail
        go_roundw
        case rel => exact ⟨k + q, m, by go_num, by omega, by omega, HG.out, hb.trans (hb1.mono hb.size)⟩
        case measure => simp [RowKit.intOf]; omega
    · obtain rfl : k = n := by omega
      rw [Rn.goodFrom_end _ _ _ _ (Nat.le_refl _)] at hg
      have HG : Hid (k = Rn.good f k) := hg
      clear hg cN cB
      go_wp2_with fail
      refine (cE wr).mono ?_
      rintro e w1 ⟨rfl, rfl⟩
      go_wp2_with fail
      go_ret
      exact ⟨by rw [← HG.out]; rfl, hb⟩
end Go.Proofs.YtoccedbnnafjcaaDoor
/-
  What lexis.Words answers; what lies in memory while it reads.
-/
namespace Go.Proofs.YtoccedbnnafjcaaDoor
open Go.RowKit Go.Lib
namespace Lx
/-- the byte that is wrong, and why -/
def flt (f : Nat → Nat) (n : Nat) : Option (Nat × Int) := if V f n 0 = true then (words f n).2.map (fun a => (a, 104)) else some (Rn.good f n, 103)
/-- a fault lies there -/
def FaultAt (w : World) (d a : Nat) (f : Nat → Nat) (n : Nat) (why : Int) : Prop :=
  w.heap[d]? = some (.cells #[.int .i64 (a : Nat), .int .i64 ((Rn.plc f n a).1 : Nat), .int .i64 ((Rn.plc f n a).2.1 : Nat), .int .i64 ((Rn.plc f n a).2.2 : Nat), .int .i64 why] 40 (0, 0))
/-- what Words answers -/
inductive WordsE (f : Nat → Nat) (n : Nat) (w : World) : Ending → World → Prop
  | bad (a : Nat) (why : Int) (d : Nat) (w' : World) (h : flt f n = some (a, why)) (hd : w.heap.size ≤ d) (hF : FaultAt w' d a f n why) (hb : Below w.heap.size w w') : WordsE f n w (.returned (.tuple #[.slice none 0 0, .iface 34 (.pointer (some ⟨d, 0, none⟩))])) w'
  | ok (v : Value) (w' : World) (h : flt f n = none) (hv : V f n 0 = true) (hr : w'.ownsRow w.heap.size 43 7 v (words f n).1.length (wdls f n (words f n).1)) (hb : Below w.heap.size w w') : WordsE f n w (.returned (.tuple #[v, .nilIface])) w'
theorem plA_info : (Tryd.prog.info? 30).map (·.size) = some 4 := by kernel_rfl
theorem plA_one (p : Nat × Nat × Nat × Nat) : (plA p).all (·.oneCell') = true := by simp [plA, Value.oneCell']
theorem setAll_pl (p q : Nat × Nat × Nat × Nat) : setAll (plA p) 0 (plA q).toList = plA q := by kernel_rfl
theorem setAll_wd (k : Nat) (tx : ByteArray) (nm : Nat) (p q : Nat × Nat × Nat × Nat) : setAll (wdC k tx nm p) 3 (plA q).toList = wdC k tx nm q := by kernel_rfl
/-- where Words stands between two words -/
structure Wst (f : Nat → Nat) (n : Nat) (w : World) (Pb : Nat) (at_ d fuel : Nat) (acc : List (Nat × Wd)) (v4 : Value) (wr : World) : Prop where
  row : wr.ownsRow (Pb + 1) 43 7 v4 acc.length (wdls f n acc)
  pl : wr.heap[Pb]? = some (.cells (plA (d, Rn.plc f n d)) 30 (0, 0))
  rd : Fd.Run f n 0 d
  ra : Fd.Run f n 0 at_
  da : d ≤ at_
  an : at_ ≤ n
  fu : n ≤ at_ + fuel
  e1 : acc ++ (wds f n fuel at_).1 = (words f n).1
  e2 : (wds f n fuel at_).2 = (words f n).2
  sz : acc.length ≤ at_
  bl : Below w.heap.size w wr
  lo : w.heap.size ≤ Pb
theorem row_at {w w' : World} {B : Nat} {e : TypeId} {size : Nat} {v : Value} {n : Nat} {ys : List Value} (h : w.ownsRow B e size v n ys) (hk : ∀ g, v.ownBlock = some g → w'.heap[g]? = w.heap[g]?) : w'.ownsRow B e size v n ys := by
  refine ⟨h.1, ?_⟩
  rcases h.2 with h1 | ⟨g, cap, cur, hv, hb, hg, rest⟩
  · exact .inl h1
  · exact .inr ⟨g, cap, cur, hv, hb, (hk g (by rw [hv]; rfl)).trans hg, rest⟩
theorem row_base {w : World} {B B' : Nat} {e : TypeId} {size : Nat} {v : Value} {n : Nat} {ys : List Value} (h : w.ownsRow B e size v n ys) (hB : B' ≤ B) : w.ownsRow B' e size v n ys := by
  refine ⟨h.1, ?_⟩
  rcases h.2 with h1 | ⟨g, cap, cur, hv, hb, rest⟩
  · exact .inl h1
  · exact .inr ⟨g, cap, cur, hv, Nat.le_trans hB hb, rest⟩
theorem row_keep {w w' : World} {B : Nat} {e : TypeId} {k : Nat} {u : Value} {n : Nat} {ys : List Value} (ho : w.ownsRow B e k u n ys) (h : ∀ q, B ≤ q → q < w.heap.size → w'.heap[q]? = w.heap[q]?) : w'.ownsRow B e k u n ys :=
  row_at ho fun q hq => h q (ho.lt q hq).1 (ho.lt q hq).2
end Lx
end Go.Proofs.YtoccedbnnafjcaaDoor
/-
  The mathematics of LexisPieces: the words of two texts with blanks between are those of both.
-/
namespace Go.Proofs.YtoccedbnnafjcaaDoor
open Go.Lib
namespace Lx
open Rn
open _root_.Go.Proofs.YtoccedbnnafjcaaDoor.Fd
/-- m bytes, blanks up to d, and l others -/
structure Cat (f : Nat → Nat) (m : Nat) (g : Nat → Nat) (l d : Nat) (F : Nat → Nat) (N : Nat) : Prop where
  hf : ∀ j, f j < 256
  hg : ∀ j, g j < 256
  lt : m < d
  n : N = d + l
  e1 : ∀ j, j < m → F j = f j
  e2 : ∀ j, m ≤ j → j < d → bl (F j)
  e3 : ∀ j, F (d + j) = g j
section
variable {f g F : Nat → Nat} {m l d N : Nat}
theorem Cat.ext (h : Cat f m g l d F N) : Ext f m F N := ⟨by have := h.lt; have := h.n; omega, h.e1, h.e2 m (Nat.le_refl _) h.lt⟩
theorem Cat.hF (h : Cat f m g l d F N) (j : Nat) : F j < 256 := by
  by_cases h1 : j < m
  · rw [h.e1 j h1]; exact h.hf j
  · by_cases h2 : j < d
    · have := bl_low (h.e2 j (by omega) h2); omega
    · have := h.e3 (j - d)
      rw [show d + (j - d) = j by omega] at this
      rw [this]; exact h.hg _
theorem Cat.off (h : Cat f m g l d F N) : Rn.off F d = g := funext h.e3
theorem lead_blank_end {f : Nat → Nat} {n : Nat} (hf : ∀ j, f j < 256) (h : lead f n 1 < n) : ¬ bl (f (lead f n 1)) := by
  intro k
  have := leadF_stop (c := 1) hf n 0 (by omega) (by omega) h
  have hl := bl_low k
  have e : dec (Rn.off f (leadF f n 1 n 0)) (n - leadF f n 1 n 0) = (f (lead f n 1), 1) := dec_low (f := Rn.off f (lead f n 1)) (by show f (lead f n 1 + 0) < 128; rw [Nat.add_zero]; exact hl)
  rw [e] at this
  have k2 := (c1_is (f (lead f n 1))).2 (by unfold bl at k; omega)
  rw [k2] at this
  cases this
theorem lead1_of {f : Nat → Nat} {n b : Nat} (hf : ∀ j, f j < 256) (h1 : ∀ j, j < b → bl (f j)) (h2 : b ≤ n) (h3 : b < n → ¬ bl (f b)) : lead f n 1 = b := by
  have hle := lead_le (f := f) (n := n) (c := 1) hf
  rcases Nat.lt_trichotomy (lead f n 1) b with q | q | q
  · exact absurd (h1 _ q) (lead_blank_end hf (by omega))
  · exact q
  · exact absurd (lead_blank hf q) (h3 (by omega))
theorem Cat.lead1 (h : Cat f m g l d F N) {p : Nat} (hp : p ≤ m) : lead (Rn.off F p) (N - p) 1 = if p + lead (Rn.off f p) (m - p) 1 < m then lead (Rn.off f p) (m - p) 1 else d - p + lead g l 1 := by
  have hlt := h.lt
  have hn := h.n
  have hle := lead_le (f := Rn.off f p) (n := m - p) (c := 1) (fun _ => h.hf _)
  have hlg := lead_le (f := g) (n := l) (c := 1) h.hg
  have hB : ∀ j, j < lead (Rn.off f p) (m - p) 1 → bl (f (p + j)) := fun j hj => lead_blank (f := Rn.off f p) (fun _ => h.hf _) hj
  split
  · next c =>
    refine lead1_of (fun _ => h.hF _) (fun j hj => ?_) (by omega) (fun _ => ?_)
    · show bl (F (p + j)); rw [h.e1 _ (by omega)]; exact hB j hj
    · have := lead_blank_end (f := Rn.off f p) (n := m - p) (fun _ => h.hf _) (by omega)
      show ¬ bl (F (p + _)); rw [h.e1 _ c]; exact this
  · next c =>
    refine lead1_of (fun _ => h.hF _) (fun j hj => ?_) (by omega) (fun hlt2 => ?_)
    · show bl (F (p + j))
      by_cases c1 : p + j < m
      · rw [h.e1 _ c1]; exact hB j (by omega)
      · by_cases c2 : p + j < d
        · exact h.e2 _ (by omega) c2
        · have := h.e3 (p + j - d)
          rw [show d + (p + j - d) = p + j by omega] at this
          rw [this]
          exact lead_blank (f := g) (n := l) h.hg (by omega)
    · have := lead_blank_end (f := g) (n := l) h.hg (by omega)
      show ¬ bl (F (p + (d - p + lead g l 1)))
      rw [show p + (d - p + lead g l 1) = d + lead g l 1 by omega, h.e3]
      exact this
/-- a word moved on -/
def mv (d : Nat) (x : Nat × Wd) : Nat × Wd := (d + x.1, x.2)
theorem Cat.shift (h : Cat f m g l d F N) : ∀ (k s : Nat), wds F N k (d + s) = ((wds g l k s).1.map (mv d), (wds g l k s).2.map (d + ·))
  | 0, s => rfl
  | k + 1, s => by
    have hn := h.n
    have eo : ∀ a, Rn.off F (d + a) = Rn.off g a := fun a => by rw [← off_off, h.off]
    have en : ∀ a, N - (d + a) = l - a := fun a => by omega
    by_cases c : s < l
    · have er : rd (Rn.off F (d + s)) (N - (d + s)) = rd (Rn.off g s) (l - s) := by rw [eo, en]
      cases ho : (rd (Rn.off g s) (l - s)).ok
      · rw [wds_bad c ho, wds_bad (by omega) (by rw [er]; exact ho), er]
        simp [Nat.add_assoc]
      · have ex : nxt F N (d + s) = d + nxt g l s := by
          unfold nxt
          rw [er, Nat.add_assoc d s, eo, en]
          omega
        rw [wds_ok c ho, wds_ok (by omega) (by rw [er]; exact ho), er, ex, Cat.shift h k]
        rfl
    · rw [wds_end _ _ _ _ c, wds_end _ _ _ _ (by omega)]
      rfl
theorem wds_fuel {f : Nat → Nat} {n : Nat} (hf : ∀ j, f j < 256) : ∀ (x y p : Nat), n ≤ p + x → n ≤ p + y → wds f n x p = wds f n y p
  | 0, y, p, hx, _ => by rw [wds_end _ _ _ _ (by omega), wds_end _ _ _ _ (by omega)]
  | x + 1, 0, p, _, hy => by rw [wds_end _ _ _ _ (by omega), wds_end _ _ _ _ (by omega)]
  | x + 1, y + 1, p, hx, hy => by
    by_cases c : p < n
    · cases ho : (rd (Rn.off f p) (n - p)).ok
      · rw [wds_bad c ho, wds_bad c ho]
      · obtain ⟨a1, a2, a3, _⟩ := nxt_spec hf c ho
        rw [wds_ok c ho, wds_ok c ho, wds_fuel hf x y _ (by omega) (by omega)]
    · rw [wds_end _ _ _ _ c, wds_end _ _ _ _ c]
/-- the words of the second text, moved on -/
theorem Cat.tail (h : Cat f m g l d F N) (K : Nat) (hK : N ≤ d + lead g l 1 + K) : wds F N K (d + lead g l 1) = ((words g l).1.map (mv d), (words g l).2.map (d + ·)) := by
  have hn := h.n
  have hlg := lead_le (f := g) (n := l) (c := 1) h.hg
  rw [h.shift, wds_fuel h.hg K l _ (by omega) (by omega)]
  rfl
theorem Cat.nxt (h : Cat f m g l d F N) {p : Nat} (hp : p < m) (er : rd (Rn.off F p) (N - p) = rd (Rn.off f p) (m - p)) (ho : (rd (Rn.off f p) (m - p)).ok = true) : Lx.nxt F N p = if Lx.nxt f m p < m then Lx.nxt f m p else d + lead g l 1 := by
  obtain ⟨a1, a2, a3, _⟩ := nxt_spec h.hf hp ho
  have hlt := h.lt
  have hle : p + (rd (Rn.off f p) (m - p)).wd ≤ m := by omega
  have e := h.lead1 hle
  unfold Lx.nxt at a2 a3 ⊢
  rw [er, e]
  split
  · rfl
  · omega
theorem Cat.all (h : Cat f m g l d F N) : ∀ (k K p : Nat), p < m → Run f m p m → m ≤ p + k → N ≤ p + K → (wds f m k p).2 = none → wds F N K p = ((wds f m k p).1 ++ (words g l).1.map (mv d), (words g l).2.map (d + ·))
  | 0, K, p, hp, _, hk, _, _ => by omega
  | k + 1, 0, p, hp, _, _, hK, _ => by have := h.lt; have := h.n; omega
  | k + 1, K + 1, p, hp, r, hk, hK, hw => by
    have hn := h.n
    have hlt := h.lt
    cases ho : (rd (Rn.off f p) (m - p)).ok
    · rw [wds_bad hp ho] at hw; cases hw
    · have r0 : Run (Rn.off f p) (m - p) 0 (m - p) := run_unshift (d := p) r 0 _ rfl (by omega)
      have er := rd_ext (h.ext.off (p := p) (by omega)) (fun _ => h.hf _) (fun _ => h.hF _) r0 (by omega) (fun _ => ho)
      obtain ⟨a1, a2, a3, a4⟩ := nxt_spec h.hf hp ho
      have en := h.nxt hp er ho
      rw [wds_ok hp ho] at hw ⊢
      rw [wds_ok (by omega) (by rw [er]; exact ho), er, en]
      split
      · next c =>
        have rn : Run f m (Lx.nxt f m p) m := (a4 r).diff r (by rw [Nat.sub_self]; exact whole_none _)
        rw [Cat.all h k K _ c rn (by omega) (by omega) hw]
        rfl
      · next c =>
        have hx : wds f m k (Lx.nxt f m p) = ([], none) := wds_end _ _ _ _ c
        rw [h.tail K (by omega), hx]
        rfl
theorem Cat.bad (h : Cat f m g l d F N) (hq : ∀ j, j < m → f j ≠ 34 ∧ f j ≠ 39) : ∀ (k K p a : Nat), p < m → Run f m p m → m ≤ p + k → N ≤ p + K → (wds f m k p).2 = some a → (wds F N K p).2 = some a
  | 0, K, p, a, hp, _, hk, _, _ => by omega
  | k + 1, 0, p, a, hp, _, _, hK, _ => by have := h.lt; have := h.n; omega
  | k + 1, K + 1, p, a, hp, r, hk, hK, hw => by
    have hn := h.n
    have hlt := h.lt
    have r0 : Run (Rn.off f p) (m - p) 0 (m - p) := run_unshift (d := p) r 0 _ rfl (by omega)
    have er := rd_ext (h.ext.off (p := p) (by omega)) (fun _ => h.hf _) (fun _ => h.hF _) r0 (by omega) (fun q => by have := hq p hp; simp only [Rn.off, Nat.add_zero] at q; omega)
    cases ho : (rd (Rn.off f p) (m - p)).ok
    · rw [wds_bad hp ho] at hw
      rw [wds_bad (by omega) (by rw [er]; exact ho), er]
      exact hw
    · obtain ⟨a1, a2, a3, a4⟩ := nxt_spec h.hf hp ho
      have en := h.nxt hp er ho
      rw [wds_ok hp ho] at hw
      rw [wds_ok (by omega) (by rw [er]; exact ho), en]
      by_cases c : Lx.nxt f m p < m
      · have rn : Run f m (Lx.nxt f m p) m := (a4 r).diff r (by rw [Nat.sub_self]; exact whole_none _)
        rw [if_pos c]
        exact Cat.bad h hq k K _ a c rn (by omega) (by omega) hw
      · rw [wds_end _ _ _ _ c] at hw; cases hw
theorem Cat.words (h : Cat f m g l d F N) (r : Run f m 0 m) (hw : (Lx.words f m).2 = none) : Lx.words F N = ((Lx.words f m).1 ++ (Lx.words g l).1.map (mv d), (Lx.words g l).2.map (d + ·)) := by
  have hn := h.n
  have hlt := h.lt
  have e := h.lead1 (p := 0) (Nat.zero_le _)
  rw [off_zero, off_zero, Nat.sub_zero, Nat.sub_zero, Nat.zero_add, Nat.sub_zero] at e
  have hle := lead_le (f := f) (n := m) (c := 1) h.hf
  have hlg := lead_le (f := g) (n := l) (c := 1) h.hg
  unfold Lx.words at hw ⊢
  rw [e]
  split
  · next c => exact h.all m N _ c ((lead_run h.hf r).diff r (by rw [Nat.sub_self]; exact whole_none _)) (by omega) (by omega) hw
  · next c =>
    rw [wds_end f m m _ c, h.tail N (by omega)]
    rfl
theorem Cat.fault (h : Cat f m g l d F N) (r : Run f m 0 m) (hq : ∀ j, j < m → f j ≠ 34 ∧ f j ≠ 39) {a : Nat} (hw : (Lx.words f m).2 = some a) : (Lx.words F N).2 = some a := by
  have hn := h.n
  have hlt := h.lt
  have e := h.lead1 (p := 0) (Nat.zero_le _)
  rw [off_zero, off_zero, Nat.sub_zero, Nat.sub_zero, Nat.zero_add, Nat.sub_zero] at e
  have hle := lead_le (f := f) (n := m) (c := 1) h.hf
  unfold Lx.words at hw ⊢
  rw [e]
  by_cases c : lead f m 1 < m
  · rw [if_pos c]
    exact h.bad hq m N _ a c ((lead_run h.hf r).diff r (by rw [Nat.sub_self]; exact whole_none _)) (by omega) (by omega) hw
  · rw [wds_end _ _ _ _ c] at hw; cases hw
theorem Cat.run (h : Cat f m g l d F N) (r1 : Run f m 0 m) (r2 : Run g l 0 l) : Run F N 0 N := by
  have hn := h.n
  have hlt := h.lt
  have a1 := h.ext.run r1 (Nat.le_refl _)
  have a2 : ∀ k, m + k ≤ d → Run F N m (m + k) := by
    intro k
    induction k with
    | zero => intro _; exact .refl _
    | succ k ih => intro hk; exact (ih (by omega)).trans (run_one (bl_low (h.e2 (m + k) (by omega) (by omega))) (by omega))
  have a3 := a2 (d - m) (by omega)
  rw [show m + (d - m) = d by omega] at a3
  have a4 : Run (Rn.off F d) (N - d) 0 l := by rw [h.off, show N - d = l by omega]; exact r2
  have a5 := run_shift a4 (by omega)
  rw [Nat.add_zero, ← hn] at a5
  exact (a1.trans a3).trans a5
/-- both are words: so is the whole -/
theorem Cat.good (h : Cat f m g l d F N) (h1 : flt f m = none) (h2 : flt g l = none) : flt F N = none ∧ (Lx.words F N).1 = (Lx.words f m).1 ++ (Lx.words g l).1.map (mv d) := by
  have k : ∀ {f : Nat → Nat} {m : Nat}, flt f m = none → V f m 0 = true ∧ (Lx.words f m).2 = none := by
    intro f m hh
    unfold flt at hh
    split at hh
    · next c => exact ⟨c, by simpa using hh⟩
    · cases hh
  obtain ⟨v1, w1⟩ := k h1
  obtain ⟨v2, w2⟩ := k h2
  have r1 := (vd_run f m).1 v1
  have r2 := (vd_run g l).1 v2
  have hv : V F N 0 = true := (vd_run F N).2 (h.run r1 r2)
  have e := h.words r1 w1
  refine ⟨?_, by rw [e]⟩
  unfold flt
  rw [if_pos hv, e, w2]
  rfl
/-- the first is none: so is the whole, but for a quote -/
theorem Cat.none (h : Cat f m g l d F N) {a : Nat} {why : Int} (h1 : flt f m = some (a, why)) (hq : why = 104 → ∀ j, j < m → f j ≠ 34 ∧ f j ≠ 39) : ∃ x, flt F N = some x := by
  unfold flt at h1 ⊢
  split
  · next c =>
    have rF := (vd_run F N).1 c
    have rf := h.ext.back rF
    have vf : V f m 0 = true := (vd_run f m).2 rf
    rw [if_pos vf] at h1
    obtain ⟨b, hb, e⟩ := Option.map_eq_some_iff.1 h1
    cases e
    rw [h.fault rf (hq rfl) hb]
    exact ⟨_, rfl⟩
  · exact ⟨_, rfl⟩
end
end Lx
end Go.Proofs.YtoccedbnnafjcaaDoor
/-
  The mathematics of LexisPieces: places and words as they lie in memory.
-/
namespace Go.Proofs.YtoccedbnnafjcaaDoor
open Go.Lib
namespace Lx
open Rn
open _root_.Go.Proofs.YtoccedbnnafjcaaDoor.Fd
/-- a place ahead of the last byte stays when more bytes come -/
theorem Ext.plcF {f F : Nat → Nat} {m N a : Nat} (h : Ext f m F N) (hf : ∀ j, f j < 256) (ha : a < m) : ∀ (x p rn ln co : Nat), plcFrom F N a x p rn ln co = plcFrom f m a x p rn ln co
  | 0, _, _, _, _ => rfl
  | x + 1, p, rn, ln, co => by
    have hl := h.lt
    unfold plcFrom
    by_cases c : a ≤ p
    · rw [if_pos c, if_pos c]
    · have e1 : Rn.dec (Rn.off F p) (a - p) = Rn.dec (Rn.off f p) (a - p) := by
        unfold Rn.dec
        exact decodeN_congr (fun _ => h.eq _ (by show p + 0 < m; omega)) (fun _ => h.eq _ (by show p + 1 < m; omega)) (fun _ => h.eq _ (by show p + 2 < m; omega)) (fun _ => h.eq _ (by show p + 3 < m; omega)) (by omega)
      have e2 : ∀ r, lineEnd F N p r = lineEnd f m p r := by
        intro r
        unfold lineEnd
        rw [h.eq (p + 1) (by omega)]
        simp [show ¬ p + 1 = m by omega, show ¬ p + 1 = N by omega]
      rw [if_neg c, if_neg c, e1, e2, h.plcF hf ha x, h.plcF hf ha x]
theorem Ext.plc {f F : Nat → Nat} {m N a : Nat} (h : Ext f m F N) (hf : ∀ j, f j < 256) (ha : a < m) : Rn.plc F N a = Rn.plc f m a := h.plcF hf ha _ _ _ _ _
theorem Cov.lt {f : Nat → Nat} {n : Nat} : ∀ (l : List (Nat × Wd)) (a : Nat), Cov f n a l → ∀ x ∈ l, x.1 < n
  | [], _, _, x, hx => by cases hx
  | (p, y) :: l, a, h, x, hx => by
    rcases List.mem_cons.1 hx with rfl | hx
    · exact h.2.1
    · exact Cov.lt l _ h.2.2.2.2 x hx
section
variable {f g F : Nat → Nat} {m l d N : Nat}
/-- the first text's words are those of the whole -/
theorem Cat.wdl1 (h : Cat f m g l d F N) {x : Nat × Wd} (hx : x.1 < m) : wdl F N x = wdl f m x := by
  unfold wdl
  rw [h.ext.plc h.hf hx]
/-- the second text's words, moved on -/
theorem wdl2 (F : Nat → Nat) (N d : Nat) (x : Nat × Wd) : wdl F N (mv d x) = (wdC x.2.k x.2.tx x.2.nm (d + x.1, Rn.plc F N (d + x.1))).toList := rfl
end
end Lx
end Go.Proofs.YtoccedbnnafjcaaDoor
namespace Go.Proofs.YtoccedbnnafjcaaDoor
open Go.RowKit Go.Lib
namespace Lx
def gapL : List ByteArray := [⟨#[32]⟩, ⟨#[9]⟩, ⟨#[10]⟩, ⟨#[13, 10, 32]⟩, ⟨#[32, 32, 13]⟩]
/-- the bytes of both, the gap between them -/
def catF (f : Nat → Nat) (m : Nat) (gs : ByteArray) (g : Nat → Nat) : Nat → Nat := fun j => if j < m then f j else if j < m + gs.size then (gs.data[j - m]?.getD 32).toNat else g (j - (m + gs.size))
theorem cat_arr (f g : Nat → Nat) (m l : Nat) (gs : ByteArray) : Rn.arr f m ++ gs ++ Rn.arr g l = Rn.arr (catF f m gs g) (m + gs.size + l) := by
  apply ByteArray.ext
  have hs : gs.data.size = gs.size := rfl
  apply Array.ext
  · simp [Rn.arr, hs]; omega
  · intro i h1 h2
    have h3 : i < m + gs.size + l := by simpa [Rn.arr] using h2
    simp only [Rn.arr, ByteArray.data_append, Array.getElem_append, Array.getElem_ofFn, Array.size_append, Array.size_ofFn, hs, catF]
    by_cases c1 : i < m
    · simp [c1, show i < m + gs.size by omega]
    · by_cases c2 : i < m + gs.size
      · have c3 : i - m < gs.data.size := by omega
        rw [dif_pos c2, dif_neg c1, if_neg c1, if_pos c2, Array.getElem?_eq_getElem c3]
        simp
      · simp [c1, c2]
theorem gap_size {k : Nat} {gs : ByteArray} (h : gapL[k]? = some gs) : 0 < gs.size ∧ gs.size ≤ 3 ∧ ∀ j, j < gs.size → bl (gs.data[j]?.getD 32).toNat := by
  have key : ∀ x ∈ gapL, 0 < x.size ∧ x.size ≤ 3 ∧ ∀ j, j < x.size → bl (x.data[j]?.getD 32).toNat := by
    unfold gapL bl
    intro x hx
    simp only [List.mem_cons, List.not_mem_nil, or_false] at hx
    rcases hx with rfl | rfl | rfl | rfl | rfl <;> (refine ⟨by decide, by decide, ?_⟩; intro j hj; revert j; decide)
  exact key gs (List.mem_of_getElem? h)
theorem cat_of {f g : Nat → Nat} {m l k : Nat} {gs : ByteArray} (hf : ∀ j, f j < 256) (hg : ∀ j, g j < 256) (h : gapL[k]? = some gs) : Cat f m g l (m + gs.size) (catF f m gs g) (m + gs.size + l) := by
  obtain ⟨h1, h2, h3⟩ := gap_size h
  refine ⟨hf, hg, by omega, rfl, fun j hj => ?_, fun j hj hd => ?_, fun j => ?_⟩
  · unfold catF; rw [if_pos hj]
  · unfold catF; rw [if_neg (by omega), if_pos hd]; exact h3 _ (by omega)
  · unfold catF; rw [if_neg (by omega), if_neg (by omega), Nat.add_sub_cancel_left]
end Lx
end Go.Proofs.YtoccedbnnafjcaaDoor
/-
  The mathematics of LexisPrints: words that are printed, and read again.
-/
namespace Go.Proofs.YtoccedbnnafjcaaDoor
open Go.RowKit Go.Lib
namespace Lx
open Rn
open _root_.Go.Proofs.YtoccedbnnafjcaaDoor.Fd
/-- the quote that a text stands in -/
def quo (tx : ByteArray) : UInt8 := if (34 : UInt8) ∈ tx.data.toList then 39 else 34
/-- a word as it is written -/
def pt (x : Int × ByteArray × Int) : ByteArray :=
  if x.1 = 2 then ⟨(Lib.itoa x.2.2).toArray⟩ else if x.1 = 1 then ⟨#[quo x.2.1]⟩ ++ x.2.1 ++ ⟨#[quo x.2.1]⟩ else x.2.1
/-- the first words as they are written -/
def pr (L : Nat → Int × ByteArray × Int) : Nat → ByteArray
  | 0 => ⟨#[]⟩
  | i + 1 => if i = 0 then pt (L i) else pr L i ++ ⟨#[32]⟩ ++ pt (L i)
def tsz (L : Nat → Int × ByteArray × Int) : Nat → Nat
  | 0 => 0
  | i + 1 => tsz L i + (pt (L i)).size + 1
theorem pr_size (L : Nat → Int × ByteArray × Int) : ∀ i, (pr L i).size ≤ tsz L i
  | 0 => Nat.le_refl _
  | i + 1 => by
    have := pr_size L i
    unfold pr tsz
    split
    · omega
    · rw [ByteArray.size_append, ByteArray.size_append]
      show (pr L i).size + 1 + _ ≤ _
      omega
theorem pt_num (tx : ByteArray) (nm : Int) : pt (((2 : Nat) : Int), tx, nm) = ⟨(itoa nm).toArray⟩ := if_pos rfl
theorem pt_text (tx : ByteArray) (nm : Int) : pt (((1 : Nat) : Int), tx, nm) = ⟨#[quo tx]⟩ ++ tx ++ ⟨#[quo tx]⟩ := rfl
theorem pt_else (k : Int) (tx : ByteArray) (nm : Int) (h2 : k ≠ 2) (h1 : k ≠ 1) : pt (k, tx, nm) = tx := (if_neg h2).trans (if_neg h1)
theorem tsz_shift (L : Nat → Int × ByteArray × Int) : ∀ i, tsz L (i + 1) = (pt (L 0)).size + 1 + tsz (fun j => L (j + 1)) i
  | 0 => by simp [tsz]
  | i + 1 => by
    rw [tsz, tsz_shift L i, tsz]
    omega
theorem tsz_le (L : Nat → Int × ByteArray × Int) (M : Nat) : ∀ i, (∀ j, j < i → (pt (L j)).size ≤ M) → tsz L i ≤ i * (M + 1)
  | 0, _ => Nat.zero_le _
  | i + 1, h => by
    have := tsz_le L M i (fun j hj => h j (by omega))
    have h2 := h i (by omega)
    rw [tsz, Nat.succ_mul]
    omega
def key (x : Nat × Wd) : Int × ByteArray × Int := (x.2.k, x.2.tx, x.2.nm)
theorem nDigits_le : ∀ (k u : Nat), u < 10 ^ (k + 1) → nDigits u ≤ k + 1
  | 0, u, h => by rw [nDigits_small (by simpa using h)]; omega
  | k + 1, u, h => by
    by_cases c : u < 10
    · rw [nDigits_small c]; omega
    · rw [nDigits_big c]
      have := nDigits_le k (u / 10) (by rw [Nat.pow_succ] at h; omega)
      omega
theorem itoa_size (n : Int) (h0 : -9223372036854775808 ≤ n) (h1 : n ≤ 9223372036854775807) : (itoa n).length ≤ 20 := by
  unfold itoa
  split
  · rw [List.length_cons, decDigits_length]
    have := nDigits_le 18 n.natAbs (by show n.natAbs < 10 ^ 19; have : (10 : Nat) ^ 19 = 10000000000000000000 := by decide
                                       omega)
    omega
  · rw [decDigits_length]
    have := nDigits_le 18 n.toNat (by show n.toNat < 10 ^ 19; have : (10 : Nat) ^ 19 = 10000000000000000000 := by decide
                                      omega)
    omega
theorem pt_size (x : Int × ByteArray × Int) (h0 : -9223372036854775808 ≤ x.2.2) (h1 : x.2.2 ≤ 9223372036854775807) : (pt x).size ≤ x.2.1.size + 20 := by
  unfold pt
  split
  · have := itoa_size _ h0 h1
    show (itoa x.2.2).toArray.size ≤ _
    simp
    omega
  · split
    · rw [ByteArray.size_append, ByteArray.size_append]
      show 1 + _ + 1 ≤ _
      omega
    · omega

theorem one_word {g : Nat → Nat} {m : Nat} (hg : ∀ j, g j < 256) (hm : 0 < m) (hb : ¬ bl (g 0)) (hr : Run g m 0 m) (ho : (rd g m).ok = true) (hw : (rd g m).wd = m) : flt g m = none ∧ (words g m).1 = [(0, rd g m)] := by
  have h0 : lead g m 1 = 0 := lead1_of hg (fun j hj => by omega) (Nat.zero_le _) (fun _ => hb)
  have e : words g m = ([(0, rd g m)], none) := by
    unfold words
    rw [h0]
    have h1 : (rd (off g 0) (m - 0)).ok = true := by rw [off_zero, Nat.sub_zero]; exact ho
    have h2 : ¬ nxt g m 0 < m := by unfold nxt; rw [off_zero, Nat.sub_zero, hw]; omega
    obtain ⟨k, hk⟩ : ∃ k, m = k + 1 := ⟨m - 1, by omega⟩
    have h3 := wds_ok (k := k) hm h1
    rw [wds_end _ _ _ _ h2, off_zero, Nat.sub_zero, ← hk] at h3
    exact h3
  have hv : V g m 0 = true := (vd_run g m).2 hr
  unfold flt
  rw [if_pos hv, e]
  exact ⟨rfl, rfl⟩

/-- a word that was read somewhere -/
def Rdd (x : Wd) : Prop := ∃ f n, (∀ j, f j < 256) ∧ 0 < n ∧ Run f n 0 n ∧ rd f n = x ∧ x.ok = true
/-- it is read again from what is written -/
def Back (k : Nat) (tx : ByteArray) (nm : Nat) : Prop := ∃ g m, (∀ j, g j < 256) ∧ arr g m = pt (k, tx, nm) ∧ flt g m = none ∧ (words g m).1.map key = [((k : Int), tx, (nm : Int))]
theorem back_of {g : Nat → Nat} {m : Nat} {x : Wd} (hg : ∀ j, g j < 256) (hm : 0 < m) (hb : ¬ bl (g 0)) (hr : Run g m 0 m) (hx : rd g m = x) (ho : x.ok = true) (hw : x.wd = m) (ha : arr g m = pt (x.k, x.tx, x.nm)) : Back x.k x.tx x.nm := by
  obtain ⟨h1, h2⟩ := one_word hg hm hb hr (by rw [hx]; exact ho) (by rw [hx]; exact hw)
  exact ⟨g, m, hg, ha, h1, by rw [h2, hx]; rfl⟩

/-! numbers -/
def dgF (l : List UInt8) : Nat → Nat := fun j => (l[j]?.getD 48).toNat
theorem dgF_lt (l : List UInt8) (j : Nat) : dgF l j < 256 := (l[j]?.getD 48).toNat_lt
theorem dgF_arr (l : List UInt8) : arr (dgF l) l.length = ⟨l.toArray⟩ := by
  apply ByteArray.ext
  apply Array.ext
  · simp [arr]
  · intro i h1 h2
    simp [arr, dgF]
theorem ofNat_toNat {v : Nat} (h : v < 256) : (UInt8.ofNat v).toNat = v := by simp; omega
theorem dg_range (u : Nat) : ∀ x ∈ decDigits u, 48 ≤ x.toNat ∧ x.toNat ≤ 57 := by
  induction u using Nat.strongRecOn with
  | _ u ih =>
    intro x hx
    rw [decDigits] at hx
    by_cases h : u < 10
    · rw [dif_pos h] at hx
      simp only [List.mem_singleton] at hx
      subst hx
      rw [ofNat_toNat (by omega)]
      omega
    · rw [dif_neg h] at hx
      rcases List.mem_append.1 hx with hx | hx
      · exact ih (u / 10) (by omega) x hx
      · simp only [List.mem_singleton] at hx
        subst hx
        rw [ofNat_toNat (by omega)]
        omega
theorem dgF_range (u j : Nat) : 48 ≤ dgF (decDigits u) j ∧ dgF (decDigits u) j ≤ 57 := by
  unfold dgF
  by_cases h : j < (decDigits u).length
  · rw [List.getElem?_eq_getElem h]
    exact dg_range u _ (List.getElem_mem h)
  · rw [List.getElem?_eq_none (by omega)]
    exact ⟨by decide, by decide⟩
def vl (f : Nat → Nat) : Nat → Nat → Nat → Nat
  | 0, _, a => a
  | k + 1, p, a => vl f k (p + 1) (a * 10 + (f p - 48))
theorem vl_ge (f : Nat → Nat) : ∀ (k p a : Nat), a ≤ vl f k p a
  | 0, _, a => Nat.le_refl _
  | k + 1, p, a => by
    have := vl_ge f k (p + 1) (a * 10 + (f p - 48))
    unfold vl
    omega
theorem numF_vl (f : Nat → Nat) : ∀ (k p a : Nat), vl f k p a ≤ 1000000 → numF f k p a = vl f k p a
  | 0, _, _, _ => rfl
  | k + 1, p, a, h => by
    unfold vl at h ⊢
    have := vl_ge f k (p + 1) (a * 10 + (f p - 48))
    unfold numF
    rw [if_neg (by omega)]
    exact numF_vl f k _ _ h
theorem vl_snoc (f : Nat → Nat) : ∀ (k p a : Nat), vl f (k + 1) p a = vl f k p a * 10 + (f (p + k) - 48)
  | 0, p, a => rfl
  | k + 1, p, a => by
    rw [vl, vl_snoc f k (p + 1), vl, show p + 1 + k = p + (k + 1) by omega]
theorem vl_ext {f F : Nat → Nat} : ∀ (k p a : Nat), (∀ j, j < k → F (p + j) = f (p + j)) → vl F k p a = vl f k p a
  | 0, _, _, _ => rfl
  | k + 1, p, a, h => by
    have e := h 0 (by omega)
    rw [Nat.add_zero] at e
    unfold vl
    rw [e]
    exact vl_ext k _ _ (fun j hj => by have := h (j + 1) (by omega); rwa [show p + (j + 1) = p + 1 + j by omega] at this)
theorem vl_dg (u : Nat) : vl (dgF (decDigits u)) (decDigits u).length 0 0 = u := by
  induction u using Nat.strongRecOn with
  | _ u ih =>
    by_cases h : u < 10
    · have e : decDigits u = [UInt8.ofNat (48 + u)] := decDigits_one h
      rw [e]
      show 0 * 10 + ((UInt8.ofNat (48 + u)).toNat - 48) = u
      rw [ofNat_toNat (by omega)]
      omega
    · have e : decDigits u = decDigits (u / 10) ++ [UInt8.ofNat (48 + u % 10)] := by rw [decDigits, dif_neg h]
      have hl : (decDigits u).length = (decDigits (u / 10)).length + 1 := by rw [e]; simp
      rw [hl, vl_snoc, Nat.zero_add]
      have e2 : dgF (decDigits u) (decDigits (u / 10)).length = 48 + u % 10 := by
        unfold dgF
        rw [e, List.getElem?_append_right (Nat.le_refl _), Nat.sub_self]
        show (UInt8.ofNat (48 + u % 10)).toNat = _
        rw [ofNat_toNat (by omega)]
      have e3 := vl_ext (F := dgF (decDigits u)) (f := dgF (decDigits (u / 10))) (decDigits (u / 10)).length 0 0 (fun j hj => by
        unfold dgF
        rw [Nat.zero_add, e, List.getElem?_append_left hj])
      rw [e2, e3, ih (u / 10) (by omega)]
      omega
theorem lead_all {g : Nat → Nat} {m : Nat} {c : Int} (h : ∀ j, j < m → Ch.isT Ch.tab c (g j) = true ∧ g j < 128) : ∀ (k p : Nat), p ≤ m → m ≤ p + k → leadF g m c k p = m
  | 0, p, _, _ => rfl
  | k + 1, p, h1, h2 => by
    by_cases c1 : p < m
    · obtain ⟨a, b⟩ := h p c1
      have e : dec (off g p) (m - p) = (g p, 1) := dec_low (f := off g p) (by simpa [off] using b)
      rw [leadF_step _ _ _ _ _ c1, e]
      show (if Ch.isT Ch.tab c (g p) = true then _ else _) = _
      rw [if_pos a]
      exact lead_all h k (p + 1) (by omega) (by omega)
    · rw [leadF_end _ _ _ _ _ c1]
theorem dig_not : ∀ v : Nat, 48 ≤ v ∧ v ≤ 57 → Ch.isT Ch.tab 2 v = false ∧ ¬ bl v := by
  intro v h
  have : v = 48 ∨ v = 49 ∨ v = 50 ∨ v = 51 ∨ v = 52 ∨ v = 53 ∨ v = 54 ∨ v = 55 ∨ v = 56 ∨ v = 57 := by omega
  unfold bl
  rcases this with rfl | rfl | rfl | rfl | rfl | rfl | rfl | rfl | rfl | rfl <;> exact ⟨by decide, by decide⟩
theorem lead_no {g : Nat → Nat} {m : Nat} {c : Int} (hg : ∀ j, g j < 256) (hm : 0 < m) (hl : g 0 < 128) (hc : Ch.isT Ch.tab c (g 0) = false) : ¬ 0 < lead g m c := by
  rw [lead_pos hg hm, dec_low hl]
  show ¬ Ch.isT Ch.tab c (g 0) = true
  rw [hc]; simp
theorem run_low_all {g : Nat → Nat} {m : Nat} (h : ∀ j, j < m → g j < 128) : ∀ k, k ≤ m → Run g m 0 k
  | 0, _ => .refl _
  | k + 1, hk => (run_low_all h k (by omega)).trans (run_one (h k (by omega)) (by omega))
theorem back_num (u : Nat) (hu : u ≤ 1000000) : Back 2 ⟨#[]⟩ u := by
  have hlen : 0 < (decDigits u).length := by rw [decDigits_length]; exact nDigits_pos u
  have hd := dgF_range u
  obtain ⟨a1, a2⟩ := dig_not _ (hd 0)
  have h4 : lead (dgF (decDigits u)) (decDigits u).length 4 = (decDigits u).length := lead_all (fun j _ => ⟨(c4_is _).2 (by have := hd j; omega), by have := hd j; omega⟩) _ 0 (Nat.zero_le _) (by omega)
  have hn : num (dgF (decDigits u)) (decDigits u).length = u := by
    unfold num
    rw [numF_vl _ _ _ _ (by rw [vl_dg]; exact hu), vl_dg]
  refine back_of (x := ⟨2, ⟨#[]⟩, u, (decDigits u).length, true⟩) (fun j => dgF_lt _ j) hlen a2 (run_low_all (fun j _ => by have := hd j; omega) _ (Nat.le_refl _)) ?_ rfl rfl ?_
  · unfold rd
    rw [if_neg (lead_no (fun j => dgF_lt _ j) hlen (by have := hd 0; omega) a1), if_pos (by rw [h4]; exact hlen)]
    unfold rdNum
    rw [h4, hn, if_neg (by omega), Nat.sub_self, if_neg (by show ¬ 0 < 0; omega)]
  · rw [dgF_arr]
    show _ = pt (((2 : Nat) : Int), ⟨#[]⟩, (u : Int))
    rw [pt_num]
    unfold itoa
    rw [if_neg (by omega)]
    rfl

/-! names -/
theorem dec_cut {f : Nat → Nat} {n k : Nat} (hf : ∀ j, f j < 256) (hw : whole f n = true) (h1 : fs f n ≤ k) (h2 : k ≤ n) : dec f k = dec f n := by
  have hl := whole_lt hw
  have hd := whole_down hw h1 h2
  have e := (whole_up hd h2).2
  rw [dec_whole f k hf (by omega), dec_whole f n hf (by omega), if_pos hd, if_pos hw, e]
theorem leadF_cut {f : Nat → Nat} {n : Nat} {c : Int} (hf : ∀ j, f j < 256) : ∀ (K p K' : Nat), Run f n p n → p ≤ n → n ≤ p + K → leadF f n c K p ≤ p + K' → leadF f (leadF f n c K p) c K' p = leadF f n c K p
  | 0, p, K', _, h1, h2, _ => by
    obtain rfl : p = n := by omega
    show leadF f p c K' p = p
    rw [leadF_end _ _ _ _ _ (by omega)]
  | K + 1, p, K', hr, h1, h2, h3 => by
    by_cases c1 : p < n
    · have hw := run_whole hr c1
      have hl := whole_lt hw
      have hd : (dec (off f p) (n - p)).2 = fs (off f p) (n - p) := by rw [dec_whole (off f p) (n - p) (fun _ => hf _) (by omega), if_pos hw]
      rw [leadF_step _ _ _ _ _ c1] at h3 ⊢
      by_cases t : Ch.isT Ch.tab c (dec (off f p) (n - p)).1 = true
      · rw [if_pos t] at h3 ⊢
        rw [hd] at h3 ⊢
        have q := leadF_le (n := n) (c := c) hf K (p + fs (off f p) (n - p)) (by omega)
        obtain ⟨k, rfl⟩ : ∃ k, K' = k + 1 := ⟨K' - 1, by omega⟩
        rw [leadF_step _ _ _ _ _ (by omega), dec_cut (f := off f p) (n := n - p) (fun _ => hf _) hw (by omega) (by omega), if_pos t, hd]
        exact leadF_cut hf K _ k (run_step hr c1) (by omega) (by omega) (by omega)
      · rw [if_neg t]
        rw [leadF_end _ _ _ _ _ (by omega)]
    · rw [leadF_end _ _ _ _ _ c1, leadF_end _ _ _ _ _ c1]
theorem back_name {f : Nat → Nat} {n : Nat} (hf : ∀ j, f j < 256) (hn : 0 < n) (hr : Run f n 0 n) (h : 0 < lead f n 2) : Back 0 (arr f (lead f n 3)) 0 := by
  have h3 := lead23 hf hn h
  have hle := lead_le (f := f) (n := n) (c := 3) hf
  have hw := run_whole hr hn
  rw [off_zero, Nat.sub_zero] at hw
  have hfs : fs f n ≤ lead f n 3 := by
    have r3 := lead_run (c := 3) hf hr
    obtain ⟨L, hL⟩ : ∃ L, lead f n 3 = L := ⟨_, rfl⟩
    rw [hL] at r3 h3 ⊢
    cases r3 with
    | refl => omega
    | step _ r => have := r.le; rw [off_zero, Nat.sub_zero, Nat.zero_add] at this; exact this
  have e3 : lead f (lead f n 3) 3 = lead f n 3 := leadF_cut hf n 0 _ hr (Nat.zero_le _) (by omega) (by show lead f n 3 ≤ _; omega)
  have ed : dec f (lead f n 3) = dec f n := dec_cut hf hw hfs hle
  have e2 : 0 < lead f (lead f n 3) 2 := (lead_pos hf h3).2 (by rw [ed]; exact (lead_pos hf hn).1 h)
  refine back_of (g := f) (m := lead f n 3) (x := ⟨0, arr f (lead f n 3), 0, lead f n 3, true⟩) hf h3 ?_ ((lead_run hf hr).down (Nat.le_refl _) hle) ?_ rfl rfl ?_
  · intro hb
    have := (lead_pos hf hn).1 h
    rw [dec_low (bl_low hb)] at this
    have k := (c_blank hb).1
    rw [show ((f 0, 1) : Nat × Nat).1 = f 0 from rfl, k] at this
    cases this
  · unfold rd
    rw [if_pos e2, e3]
  · exact (pt_else _ _ _ (by show ((0 : Nat) : Int) ≠ 2; decide) (by show ((0 : Nat) : Int) ≠ 1; decide)).symm

/-! signs -/
def sgF (s : List Nat) : Nat → Nat := fun j => s[j]?.getD 0
theorem back_sign : ∀ s ∈ sgs, Back 3 (bt s) 0 := by
  have key : ∀ s ∈ sgs, (∀ j, sgF s j < 256) ∧ 0 < s.length ∧ ¬ bl (sgF s 0) ∧ V (sgF s) s.length 0 = true ∧ rd (sgF s) s.length = ⟨3, bt s, 0, s.length, true⟩ ∧ arr (sgF s) s.length = bt s := by
    have h1 : ∀ s ∈ sgs, (∀ c ∈ s, c < 256) := by decide
    have h2 : ∀ s ∈ sgs, 0 < s.length ∧ ¬ bl (sgF s 0) ∧ V (sgF s) s.length 0 = true := by unfold bl; decide
    intro s hs
    refine ⟨fun j => ?_, (h2 s hs).1, (h2 s hs).2.1, (h2 s hs).2.2, ?_⟩
    · unfold sgF
      by_cases hj : j < s.length
      · rw [List.getElem?_eq_getElem hj]; exact h1 s hs _ (List.getElem_mem hj)
      · rw [List.getElem?_eq_none (by omega)]; decide
    · simp only [sgs, List.mem_cons, List.not_mem_nil, or_false] at hs
      rcases hs with rfl | rfl | rfl | rfl | rfl | rfl | rfl | rfl | rfl | rfl | rfl | rfl | rfl | rfl | rfl <;> exact ⟨by kernel_rfl, by kernel_rfl⟩
  intro s hs
  obtain ⟨a1, a2, a3, a4, a5, a6⟩ := key s hs
  refine back_of (g := sgF s) (m := s.length) (x := ⟨3, bt s, 0, s.length, true⟩) a1 a2 a3 ((vd_run _ _).1 a4) a5 rfl rfl ?_
  rw [a6]
  exact (pt_else _ _ _ (by show ((3 : Nat) : Int) ≠ 2; decide) (by show ((3 : Nat) : Int) ≠ 1; decide)).symm
theorem rdSgn_in {f : Nat → Nat} {n : Nat} : ∀ (l : List (List Nat)), (rdSgn f n l).ok = true → ∃ s ∈ l, rdSgn f n l = ⟨3, bt s, 0, s.length, true⟩
  | [], h => by simp [rdSgn] at h
  | s :: l, h => by
    unfold rdSgn at h ⊢
    split
    · exact ⟨s, by simp, rfl⟩
    · next c =>
      rw [if_neg c] at h
      obtain ⟨t, ht, e⟩ := rdSgn_in l h
      exact ⟨t, by simp [ht], e⟩

/-! texts -/
theorem back_text {f : Nat → Nat} {n : Nat} (hf : ∀ j, f j < 256) (hr : Run f n 0 n) (h0 : f 0 = 34 ∨ f 0 = 39) {k : Nat} (h : k < n - 1) (i1 : ∀ j, j < k → f (1 + j) ≠ f 0) (i3 : f (1 + k) = f 0) : Back 1 (arr (off f 1) k) 0 := by
  have hmem : (34 : UInt8) ∈ (arr (off f 1) k).data.toList ↔ ∃ j, j < k ∧ f (1 + j) = 34 := by
    rw [List.mem_iff_getElem]
    have hs : (arr (off f 1) k).data.toList.length = k := by simp [arr]
    constructor
    · rintro ⟨j, hj, e⟩
      have hj' : j < k := by omega
      refine ⟨j, hj', ?_⟩
      simp only [arr, Array.getElem_toList, Array.getElem_ofFn] at e
      have := congrArg UInt8.toNat e
      have hlt := hf (1 + j)
      simp [off] at this
      omega
    · rintro ⟨j, hj, e⟩
      refine ⟨j, by omega, ?_⟩
      simp only [arr, Array.getElem_toList, Array.getElem_ofFn, off, e]
      rfl
  obtain ⟨q, hq, hqv, hqn⟩ : ∃ q : Nat, quo (arr (off f 1) k) = q.toUInt8 ∧ (q = 34 ∨ q = 39) ∧ ∀ j, j < k → f (1 + j) ≠ q := by
    unfold quo
    by_cases c : (34 : UInt8) ∈ (arr (off f 1) k).data.toList
    · rw [if_pos c]
      obtain ⟨j, hj, e⟩ := hmem.1 c
      clear hmem c
      have := i1 j hj
      have e0 : f 0 = 39 := by omega
      exact ⟨39, rfl, .inr rfl, fun j hj => by have := i1 j hj; omega⟩
    · rw [if_neg c]
      exact ⟨34, rfl, .inl rfl, fun j hj e => c (hmem.2 ⟨j, hj, e⟩)⟩
  clear hmem
  obtain ⟨g, hg⟩ : ∃ g : Nat → Nat, g = fun j => if j = 0 then q else if j ≤ k then f j else q := ⟨_, rfl⟩
  have g0 : g 0 = q := by rw [hg]; rfl
  have gj : ∀ j, j < k → g (1 + j) = f (1 + j) := fun j hj => by rw [hg]; show (if 1 + j = 0 then q else if 1 + j ≤ k then f (1 + j) else q) = _; rw [if_neg (by omega), if_pos (by omega)]
  have gk : g (1 + k) = q := by rw [hg]; show (if 1 + k = 0 then q else if 1 + k ≤ k then f (1 + k) else q) = _; rw [if_neg (by omega), if_neg (by omega)]
  have glt : ∀ j, g j < 256 := fun j => by
    rw [hg]
    show (if j = 0 then q else if j ≤ k then f j else q) < 256
    split
    · omega
    · split
      · exact hf j
      · omega
  have eidx : idx (off g 1) (k + 2 - 1) (g 0) = k := by
    rw [g0]
    exact idx_of (fun j hj => by show g (1 + j) ≠ q; rw [gj j hj]; exact hqn j hj) (by omega) (fun _ => gk)
  have earr : arr (off g 1) k = arr (off f 1) k := arr_ext (fun j hj => gj j hj)
  have r1 : Run g (k + 2) 0 1 := run_one (by omega) (by omega)
  have r2 : Run f n 1 (1 + k) := by
    have x1 : Run f n 0 1 := run_one (by omega) (by omega)
    have x2 : Run f n 0 (1 + k) := run_low (f := f) (n := n) (j := 1 + k) (by omega) (by omega) hr (by omega) (by omega)
    have x3 := run_rest hr x1
    exact run_low (f := f) (n := n) (j := 1 + k) (by omega) (by omega) x3 (by omega) (by omega)
  have r3 : Run (off f 1) k 0 k := (run_unshift (d := 1) r2 0 k rfl rfl).down (Nat.le_refl _) (by omega)
  have r4 : Run (off g 1) (k + 1) 0 k := (r3.congr (fun j hj => (gj j hj).symm)).up (by omega)
  have r5 : Run g (k + 2) 1 (1 + k) := run_shift (F := g) (N := k + 2) (d := 1) r4 (by omega)
  have r6 : Run g (k + 2) (1 + k) (1 + k + 1) := run_one (by omega) (by omega)
  have nn : Ch.isT Ch.tab 2 (q : Nat) = false ∧ Ch.isT Ch.tab 4 (q : Nat) = false ∧ ¬ bl q := by
    unfold bl
    rcases hqv with rfl | rfl <;> exact ⟨by decide, by decide, by decide⟩
  refine back_of (g := g) (m := k + 2) (x := ⟨1, arr (off f 1) k, 0, k + 2, true⟩) glt (by omega) (by rw [g0]; exact nn.2.2) ?_ ?_ rfl rfl ?_
  · have := (r1.trans r5).trans r6
    rwa [show 1 + k + 1 = k + 2 by omega] at this
  · unfold rd
    rw [if_neg (lead_no glt (by omega) (by omega) (by rw [g0]; exact nn.1)), if_neg (lead_no glt (by omega) (by omega) (by rw [g0]; exact nn.2.1)), if_pos (by rw [g0]; exact hqv)]
    unfold rdTxt
    rw [eidx, if_pos (by omega), earr]
  · show _ = pt (((1 : Nat) : Int), arr (off f 1) k, ((0 : Nat) : Int))
    rw [pt_text, hq]
    apply ByteArray.ext
    apply Array.ext
    · simp [arr]; omega
    · intro i h1 h2
      have hi : i < k + 2 := by simpa [arr] using h1
      simp only [arr, ByteArray.data_append, Array.getElem_append, Array.getElem_ofFn, Array.size_append, Array.size_ofFn]
      by_cases c0 : i = 0
      · subst c0; simp [g0]
      · by_cases c1 : i < 1 + k
        · have := gj (i - 1) (by omega)
          rw [show 1 + (i - 1) = i by omega] at this
          simp [c0, c1, this, off, show 1 + (i - 1) = i by omega]
        · obtain rfl : i = 1 + k := by omega
          simp [gk]

theorem back_any {x : Wd} (h : Rdd x) : Back x.k x.tx x.nm := by
  obtain ⟨f, n, hf, hn, hr, rfl, ho⟩ := h
  unfold rd at ho ⊢
  split
  · next h => exact back_name hf hn hr h
  · next h =>
    rw [if_neg h] at ho
    split
    · next h4 =>
      rw [if_pos h4] at ho
      unfold rdNum at ho ⊢
      split
      · next c => rw [if_pos c] at ho; cases ho
      · next c =>
        rw [if_neg c] at ho
        split
        · next c2 => rw [if_pos c2] at ho; cases ho
        · exact back_num _ (by show num f (lead f n 4) ≤ _; omega)
    · next h4 =>
      rw [if_neg h4] at ho
      split
      · next h5 =>
        rw [if_pos h5] at ho
        unfold rdTxt at ho ⊢
        split
        · next c =>
          obtain ⟨_, i1, i2⟩ := idx_spec (off f 1) (n - 1) (f 0)
          exact back_text hf hr h5 c i1 (i2 c)
        · next c => rw [if_neg c] at ho; cases ho
      · next h5 =>
        rw [if_neg h5] at ho
        obtain ⟨s, hs, e⟩ := rdSgn_in sgs ho
        rw [e]
        exact back_sign s hs
/-- what is written is not much longer than what was read -/
theorem rdd_size0 {x : Wd} (h : Rdd x) : (pt (x.k, x.tx, x.nm)).size + 1 ≤ 8 * x.wd ∧ x.tx.size ≤ x.wd ∧ x.nm ≤ 1000000 := by
  obtain ⟨f, n, hf, hn, hr, rfl, ho⟩ := h
  have hp := (rd_spec hf hn).2.1 ho
  have key : (rd f n).k = 2 ∧ (rd f n).nm ≤ 1000000 ∧ (rd f n).tx.size = 0 ∨ (rd f n).k = 1 ∧ (rd f n).tx.size + 2 = (rd f n).wd ∧ (rd f n).nm = 0 ∨ ((rd f n).k = 0 ∨ (rd f n).k = 3) ∧ (rd f n).tx.size = (rd f n).wd ∧ (rd f n).nm = 0 := by
    unfold rd at ho ⊢
    split
    · exact .inr (.inr ⟨.inl rfl, arr_size _ _, rfl⟩)
    · next h =>
      rw [if_neg h] at ho
      split
      · next h4 =>
        rw [if_pos h4] at ho
        unfold rdNum at ho ⊢
        split
        · next c => rw [if_pos c] at ho; cases ho
        · next c =>
          rw [if_neg c] at ho
          split
          · next c2 => rw [if_pos c2] at ho; cases ho
          · exact .inl ⟨rfl, (by show num f (lead f n 4) ≤ _; omega), rfl⟩
      · next h4 =>
        rw [if_neg h4] at ho
        split
        · next h5 =>
          rw [if_pos h5] at ho
          unfold rdTxt at ho ⊢
          split
          · exact .inr (.inl ⟨rfl, (by show (arr _ _).size + 2 = _; rw [arr_size]), rfl⟩)
          · next c => rw [if_neg c] at ho; cases ho
        · next h5 =>
          rw [if_neg h5] at ho
          obtain ⟨s, hs, e⟩ := rdSgn_in sgs ho
          rw [e]
          exact .inr (.inr ⟨.inr rfl, (by show (s.map Nat.toUInt8).toArray.size = _; simp), rfl⟩)
  generalize rd f n = x at hp key
  refine ⟨?_, by omega, by omega⟩
  unfold pt
  rcases key with ⟨k1, k2, _⟩ | ⟨k1, k2, _⟩ | ⟨k1, k2, _⟩
  · rw [if_pos (by show (x.k : Int) = 2; omega)]
    have e : (itoa (x.nm : Int)).length ≤ 7 := by
      unfold itoa
      rw [if_neg (by omega), decDigits_length]
      exact nDigits_le 6 _ (by simp; omega)
    show (itoa (x.nm : Int)).toArray.size + 1 ≤ _
    simp
    omega
  · rw [if_neg (by show ¬ (x.k : Int) = 2; omega), if_pos (by show (x.k : Int) = 1; omega), ByteArray.size_append, ByteArray.size_append]
    show 1 + x.tx.size + 1 + 1 ≤ _
    omega
  · rw [if_neg (by show ¬ (x.k : Int) = 2; omega), if_neg (by show ¬ (x.k : Int) = 1; omega)]
    show x.tx.size + 1 ≤ _
    omega
theorem rdd_size {x : Wd} (h : Rdd x) : (pt (x.k, x.tx, x.nm)).size + 1 ≤ 8 * x.wd := (rdd_size0 h).1
theorem rdd_facts {x : Wd} (h : Rdd x) : x.tx.size ≤ x.wd ∧ x.nm ≤ 1000000 := (rdd_size0 h).2
theorem wds_wd {f : Nat → Nat} {n : Nat} (hf : ∀ j, f j < 256) : ∀ (k p : Nat), p ≤ n → ∀ x ∈ (wds f n k p).1, x.2.wd ≤ n
  | 0, p, _, x, hx => by simp [wds] at hx
  | k + 1, p, hp, x, hx => by
    by_cases h : p < n
    · cases ho : (rd (off f p) (n - p)).ok
      · rw [wds_bad h ho] at hx; simp at hx
      · rw [wds_ok h ho] at hx
        obtain ⟨a1, a2, a3, a4⟩ := nxt_spec hf h ho
        rcases List.mem_cons.1 hx with rfl | hx
        · show (rd (off f p) (n - p)).wd ≤ n; omega
        · exact wds_wd hf k _ a3 x hx
    · rw [wds_end _ _ _ _ h] at hx; simp at hx
theorem wds_rdd {f : Nat → Nat} {n : Nat} (hf : ∀ j, f j < 256) : ∀ (k p : Nat), p ≤ n → Run f n p n → ∀ x ∈ (wds f n k p).1, Rdd x.2
  | 0, p, _, _, x, hx => by simp [wds] at hx
  | k + 1, p, hp, hr, x, hx => by
    by_cases h : p < n
    · cases ho : (rd (off f p) (n - p)).ok
      · rw [wds_bad h ho] at hx; simp at hx
      · rw [wds_ok h ho] at hx
        obtain ⟨a1, a2, a3, a4⟩ := nxt_spec hf h ho
        rcases List.mem_cons.1 hx with rfl | hx
        · exact ⟨off f p, n - p, fun _ => hf _, by omega, run_unshift (d := p) hr 0 _ rfl (by omega), rfl, ho⟩
        · exact wds_rdd hf k _ a3 ((a4 hr).diff hr (by rw [Nat.sub_self]; exact whole_none _)) x hx
    · rw [wds_end _ _ _ _ h] at hx; simp at hx
/-- the words of a list by their number -/
def nth (l : List (Nat × Wd)) : Nat → Int × ByteArray × Int := fun i => (l[i]?.map key).getD (0, ⟨#[]⟩, 0)
theorem wds_tsz {f : Nat → Nat} {n : Nat} (hf : ∀ j, f j < 256) : ∀ (k p : Nat), p ≤ n → Run f n p n → tsz (nth (wds f n k p).1) (wds f n k p).1.length ≤ 8 * (n - p)
  | 0, p, _, _ => by simp [wds, tsz]
  | k + 1, p, hp, hr => by
    by_cases h : p < n
    · cases ho : (rd (off f p) (n - p)).ok
      · rw [wds_bad h ho]; simp [tsz]
      · rw [wds_ok h ho]
        obtain ⟨a1, a2, a3, a4⟩ := nxt_spec hf h ho
        have ih := wds_tsz hf k _ a3 ((a4 hr).diff hr (by rw [Nat.sub_self]; exact whole_none _))
        have hs := rdd_size (x := rd (off f p) (n - p)) ⟨off f p, n - p, fun _ => hf _, by omega, run_unshift (d := p) hr 0 _ rfl (by omega), rfl, ho⟩
        rw [List.length_cons, tsz_shift]
        have e1 : nth ((p, rd (off f p) (n - p)) :: (wds f n k (nxt f n p)).1) 0 = (((rd (off f p) (n - p)).k : Int), (rd (off f p) (n - p)).tx, ((rd (off f p) (n - p)).nm : Int)) := rfl
        have e2 : (fun j => nth ((p, rd (off f p) (n - p)) :: (wds f n k (nxt f n p)).1) (j + 1)) = nth (wds f n k (nxt f n p)).1 := rfl
        rw [e1, e2]
        omega
    · rw [wds_end _ _ _ _ h]; simp [tsz]
/-- what the printed words are read as -/
theorem pr_back {l : List (Nat × Wd)} (h : ∀ x ∈ l, Rdd x.2) : ∀ i, i ≤ l.length → ∃ g m, (∀ j, g j < 256) ∧ arr g m = pr (nth l) i ∧ flt g m = none ∧ (words g m).1.map key = (l.take i).map key
  | 0, _ => ⟨fun _ => 0, 0, fun _ => by show 0 < 256; omega, rfl, rfl, rfl⟩
  | i + 1, hi => by
    have hx : l[i]? = some l[i] := List.getElem?_eq_getElem (by omega)
    have hb := back_any (h l[i] (List.getElem_mem (by omega)))
    have en : nth l i = ((l[i].2.k : Int), l[i].2.tx, (l[i].2.nm : Int)) := by unfold nth; rw [hx]; rfl
    obtain ⟨g, m, hg, ha, hfl, hw⟩ := hb
    have et : (l.take (i + 1)).map key = (l.take i).map key ++ [((l[i].2.k : Int), l[i].2.tx, (l[i].2.nm : Int))] := by
      rw [List.take_add_one, hx, List.map_append]
      rfl
    unfold pr
    by_cases c : i = 0
    · rw [if_pos c, en]
      refine ⟨g, m, hg, ha, hfl, ?_⟩
      rw [hw, et]
      subst c
      rfl
    · rw [if_neg c, en]
      obtain ⟨F, N, hF, hA, hFl, hW⟩ := pr_back h i (by omega)
      have hC := cat_of (f := F) (g := g) (m := N) (l := m) (k := 0) (gs := ⟨#[32]⟩) hF hg rfl
      obtain ⟨q1, q2⟩ := hC.good hFl hfl
      refine ⟨_, _, hC.hF, ?_, q1, ?_⟩
      · rw [← cat_arr, hA, ha]
      · rw [q2, List.map_append, et, hW, ← hw]
        congr 1
        rw [List.map_map]
        rfl
end Lx
end Go.Proofs.YtoccedbnnafjcaaDoor
