/-
  WALKS over lexis.fault and further.
-/
import Derived.Test.YtoccedbnnafjcaaDoorLxPlc
import Derived.Test.YtoccedbnnafjcaaDoorLxBase
import Derived.Deep.RegionHeld3
namespace Go.Proofs.YtoccedbnnafjcaaDoor
open Go.RowKit Go.Lib
namespace Lx
/-- the cells of a place -/
def plA (p : Nat × Nat × Nat × Nat) : Array Value := #[.int .i64 (p.1 : Nat), .int .i64 (p.2.1 : Nat), .int .i64 (p.2.2.1 : Nat), .int .i64 (p.2.2.2 : Nat)]
theorem two_new (w : World) (A B : Obj) : ((w.alloc A).alloc B).drew.heap[w.heap.size]? = some A ∧ ((w.alloc A).alloc B).drew.heap[w.heap.size + 1]? = some B ∧ Below w.heap.size w ((w.alloc A).alloc B).drew := by
  refine ⟨?_, ?_, (((Below.refl w.heap.size w).alloc (Nat.le_refl _) _).alloc (by simp) _).drew⟩
  · show ((w.heap.push A).push B)[w.heap.size]? = _
    rw [Array.getElem?_push_lt (by simp), Array.getElem_push_eq]
  · show ((w.heap.push A).push B)[w.heap.size + 1]? = _
    have := Array.getElem?_push_size (xs := w.heap.push A) (x := B)
    simpa using this
theorem three_new (w : World) (A B C : Obj) : (((w.alloc A).alloc B).drew.alloc C).heap[w.heap.size]? = some A ∧ (((w.alloc A).alloc B).drew.alloc C).heap[w.heap.size + 1]? = some B ∧ Below w.heap.size w (((w.alloc A).alloc B).drew.alloc C) := by
  obtain ⟨h1, h2, h3⟩ := two_new w A B
  have hs : ((w.alloc A).alloc B).drew.heap.size = w.heap.size + 1 + 1 := by show ((w.heap.push A).push B).size = _; simp
  have hb := (Below.refl ((w.alloc A).alloc B).drew.heap.size ((w.alloc A).alloc B).drew).alloc (Nat.le_refl _) C
  exact ⟨(hb.block _ (by omega)).trans h1, (hb.block _ (by omega)).trans h2, h3.alloc (by omega) _⟩
theorem three_last (w : World) (A B C : Obj) : (((w.alloc A).alloc B).drew.alloc C).heap[w.heap.size + 1 + 1]? = some C := by
  have := heap_new ((w.alloc A).alloc B).drew C
  rwa [show ((w.alloc A).alloc B).drew.heap.size = w.heap.size + 1 + 1 by show ((w.heap.push A).push B).size = _; simp] at this
end Lx

set_option maxRecDepth 100000 in
set_option maxHeartbeats 2000000 in
theorem fault_any (f : Nat → Nat) (n b off cap a : Nat) (why : Int) (w : World) (hf : ∀ j, f j < 256) (ha : a ≤ n) (hc : n ≤ cap) (hm : cap ≤ maxLen) (hbig : n ≤ 4611686018427387904) (hp : Bytes w b off n f) :
    Calls Tryd.prog 18 #[.slice (some ⟨b, off, none⟩) n cap, .int .i64 a, .int .i64 why] w fun e w' => ∃ d, e = .returned (.pointer (some ⟨d, 0, none⟩)) ∧ w.heap.size ≤ d ∧
      w'.heap[d]? = some (.cells #[.int .i64 (a : Nat), .int .i64 ((Rn.plc f n a).1 : Nat), .int .i64 ((Rn.plc f n a).2.1 : Nat), .int .i64 ((Rn.plc f n a).2.2 : Nat), .int .i64 why] 40 (0, 0)) ∧ Below w.heap.size w w' := by
  have cA := at_in f n b off cap a w hf ha hc hm hbig hp
  generalize Rn.plc f n a = P at *
  obtain ⟨x, y, z⟩ := P
  dsimp only at cA ⊢
  clear hp
  go_enter Tryd.func18, Tryd.ntmps18
  go_wp2_with fail
  refine cA.mono ?_
  rintro e w1 ⟨rfl, hb⟩
  clear cA
  go_wp2_with fail
  go_ret
  refine ⟨w1.heap.size + 1, rfl, by have := hb.size; omega, ?_, (hb.alloc hb.size _).alloc (by have := hb.size; simp; omega) _⟩
  have := Lx.heap_new (w1.alloc (.cells #[.int .i64 a, .int .i64 x, .int .i64 y, .int .i64 z] 30)) (.cells #[.int .i64 a, .int .i64 x, .int .i64 y, .int .i64 z, .int .i64 why] 40)
  simpa using this

set_option maxRecDepth 100000 in
set_option maxHeartbeats 4000000 in
theorem further_any (f : Nat → Nat) (n b off cap d a : Nat) (w : World) (hf : ∀ j, f j < 256) (hd : d ≤ a) (ha : a < n) (hc : n ≤ cap) (hm : cap ≤ maxLen) (hbig : n ≤ 1152921504606846976) (hp : Bytes w b off n f) (hr : Fd.Run f n 0 d) :
    Calls Tryd.prog 22 #[.slice (some ⟨b, off, none⟩) n cap, .agg (Lx.plA (d, Rn.plc f n d)), .int .i64 a] w fun e w' => e = .returned (.agg (Lx.plA (a, Rn.plc f n a))) ∧ Below w.heap.size w w' := by
  have eq := Lx.plc_shf (f := f) (n := n) (d := d) (a := a - d) hf hr (by omega)
  rw [show d + (a - d) = a by omega] at eq
  have b1 := Lx.plc_bound (f := f) (n := n) (a := d) hf
  have b2 := Lx.plc_bound (f := Rn.off f d) (n := n - d) (a := a - d) (fun _ => hf _)
  have cA : ∀ W, Below w.heap.size w W → _ := fun W hb => at_in (Rn.off f d) (n - d) b (off + d) (cap - d) (a - d) W (fun _ => hf _) (by omega) (by omega) (by omega) (by omega) ((hp.below hb (Nat.le_refl _)).off (by omega))
  rw [← eq]
  unfold Lx.shf
  generalize Rn.plc (Rn.off f d) (n - d) (a - d) = R at *
  generalize Rn.plc f n d = P at *
  obtain ⟨x, y, z⟩ := P
  obtain ⟨x2, y2, z2⟩ := R
  dsimp only at cA b1 b2 ⊢
  unfold Lx.plA
  dsimp only
  have hcap : cap ≤ 9223372036854775807 := by unfold maxLen at hm; omega
  have i1 : (d : Int) ≤ n := by omega
  have i2 : (n : Int) ≤ cap := by omega
  have i3 : (0 : Int) ≤ d := by omega
  have i4 : ¬ cap = d := by omega
  have i5 : ¬ cap - d = 0 := by omega
  have i6 : (d : Int) ≤ cap := by omega
  have e1 : (n : Int) - d = ((n - d : Nat) : Int) := by omega
  have e3 : IntKind.i64.wrap ((a : Int) - d) = ((a - d : Nat) : Int) := by rw [IntKind.wrap_i64]; omega
  obtain ⟨C, hC⟩ : ∃ C, (if y2 = 1 then z - 1 + z2 else z2) = C := ⟨_, rfl⟩
  rw [hC]
  have HC := hide' hC
  clear hC
  obtain ⟨S', hSd⟩ : ∃ S' : World → Prop, S' = fun W => W.heap[w.heap.size]? = some (.cells #[.int .i64 (d : Nat), .int .i64 (x : Nat), .int .i64 (y : Nat), .int .i64 (z : Nat)] 30 (0, 0)) ∧ W.heap[w.heap.size + 1]? = some (.cells #[.int .i64 0, .int .i64 0, .int .i64 0, .int .i64 0] 30 (0, 0)) ∧ Below w.heap.size w W := ⟨_, rfl⟩
  have hSL : ∀ W, S' W → w.heap.size + 1 < W.heap.size := fun W h => by rw [hSd] at h; exact (Array.getElem?_eq_some_iff.1 h.2.1).1
  have hSB : ∀ W W8, S' W → Below W.heap.size W W8 → S' W8 := fun W W8 h hb => by
    have := hSL W h
    rw [hSd] at h ⊢
    exact ⟨(hb.block _ (by omega)).trans h.1, (hb.block _ (by omega)).trans h.2.1, h.2.2.trans (hb.mono h.2.2.size)⟩
  have hSA : ∀ W, S' W → ∀ o, S' (W.alloc o) := fun W h o => hSB _ _ h ((Below.refl _ _).alloc (Nat.le_refl _) o)
  have hSC : ∀ W T, S' W → w.heap.size + 1 < T → ∀ vs : List Value, S' (W.setCells T 0 vs) := fun W T h hT vs => by
    rw [hSd] at h ⊢
    exact ⟨(Lx.heap_far (by omega) _ _ _).trans h.1, (Lx.heap_far (by omega) _ _ _).trans h.2.1, Lx.below_cells (by omega) _ _ _ h.2.2⟩
  have hS0 : S' ((w.alloc (.cells #[.int .i64 (d : Nat), .int .i64 (x : Nat), .int .i64 (y : Nat), .int .i64 (z : Nat)] 30)).alloc (.cells #[.int .i64 0, .int .i64 0, .int .i64 0, .int .i64 0] 30)).drew := by rw [hSd]; exact Lx.two_new w _ _
  have sK : ∀ W, S' W → W.cell? ⟨w.heap.size, 0, none⟩ = some (.int .i64 (d : Nat)) := fun W h => by rw [hSd] at h; rw [Lib.cell_of_heap h.1]; rfl
  have cB : ∀ W, S' W → Calls Tryd.prog 16 #[.slice (some ⟨b, off + d, none⟩) (n - d : Nat) (cap - d : Nat), .int .i64 (a - d : Nat)] W fun e w' => e = .returned (.tuple #[.agg #[.int .i64 (a - d : Nat), .int .i64 (x2 : Nat), .int .i64 (y2 : Nat), .int .i64 (z2 : Nat)], .int .i64 0]) ∧ Below W.heap.size W w' := fun W h => by
    rw [hSd] at h
    exact cA W h.2.2
  have plInfo : (Tryd.prog.info? 30).map (·.size) = some 4 := by kernel_rfl
  have HSD := hide' hSd
  obtain ⟨WR, hWR⟩ : ∃ WR, WR = (w.alloc (.cells #[.int .i64 (d : Nat), .int .i64 (x : Nat), .int .i64 (y : Nat), .int .i64 (z : Nat)] 30)).alloc (.cells #[.int .i64 0, .int .i64 0, .int .i64 0, .int .i64 0] 30) := ⟨_, rfl⟩
  rw [← hWR] at hS0
  clear hp hm cA eq hSd
  go_enter Tryd.func22, Tryd.ntmps22
  go_wp2_with fail
  change Code.wp _ _ _ _ ((w.alloc (.cells #[.int .i64 (d : Nat), .int .i64 (x : Nat), .int .i64 (y : Nat), .int .i64 (z : Nat)] 30)).alloc (.cells #[.int .i64 0, .int .i64 0, .int .i64 0, .int .i64 0] 30))
  rw [← hWR]
  clear hWR
  refine wp_region_held_drew (S := S') (by kernel_rfl) hS0 (fun hHeld => ?_)
  simp only [List.size_toArray, List.length_cons, List.length_nil, Nat.reduceAdd]
  generalize WR.drew = W0 at hHeld hS0 ⊢
  clear hS0
  refine wpAnyH_take (i := 0) (v := .slice (some ⟨b, off, none⟩) n cap) rfl (by kernel_rfl) (by kernel_rfl) (by kernel_rfl) (fun _ _ _ h => h) (Or.inl ⟨by rfl, ?y0⟩) (by assumption) ?_
  case y0 => (intro w' hSw; have qK := sK w' hSw; go_simp; try rfl)
  try simp only [List.getElem_toArray, List.getElem_cons_zero, Act.put, List.setIfInBounds_toArray, List.set_cons_zero, List.set_cons_succ]
  refine wpAnyH_take (i := 1) (v := .pointer (some ⟨w.heap.size, 0, none⟩)) rfl (by kernel_rfl) (by kernel_rfl) (by kernel_rfl) (fun _ _ _ h => h) (Or.inl ⟨by rfl, ?y1⟩) (by assumption) ?_
  case y1 => (intro w' hSw; have qK := sK w' hSw; go_simp; try rfl)
  try simp only [List.getElem_toArray, List.getElem_cons_zero, List.getElem_cons_succ, Act.put, List.setIfInBounds_toArray, List.set_cons_zero, List.set_cons_succ]
  refine wpAnyH_take (i := 2) (v := .int .i64 (d : Nat)) rfl (by kernel_rfl) (by kernel_rfl) (by kernel_rfl) (fun _ _ _ h => h) (Or.inl ⟨by rfl, ?y2⟩) (by assumption) ?_
  case y2 => (intro w' hSw; have qK := sK w' hSw; go_simp; try rfl)
  try simp only [List.getElem_toArray, List.getElem_cons_zero, List.getElem_cons_succ, Act.put, List.setIfInBounds_toArray, List.set_cons_zero, List.set_cons_succ]
  refine wpAnyH_take (i := 3) (v := .slice (some ⟨b, off + d, none⟩) (n - d : Nat) (cap - d : Nat)) rfl (by kernel_rfl) (by kernel_rfl) (by kernel_rfl) (fun _ _ _ h => h) (Or.inl ⟨by rfl, ?y3⟩) (by assumption) ?_
  case y3 => (intro w' hSw; have qK := sK w' hSw; go_simp; try rfl)
  try simp only [List.getElem_toArray, List.getElem_cons_zero, List.getElem_cons_succ, Act.put, List.setIfInBounds_toArray, List.set_cons_zero, List.set_cons_succ]
  refine wpAnyH_take (i := 4) (v := .int .i64 (a : Nat)) rfl (by kernel_rfl) (by kernel_rfl) (by kernel_rfl) (fun _ _ _ h => h) (Or.inl ⟨by rfl, ?y4⟩) (by assumption) ?_
  case y4 => (intro w' hSw; have qK := sK w' hSw; go_simp; try rfl)
  try simp only [List.getElem_toArray, List.getElem_cons_zero, List.getElem_cons_succ, Act.put, List.setIfInBounds_toArray, List.set_cons_zero, List.set_cons_succ]
  refine wpAnyH_take (i := 5) (v := .pointer (some ⟨w.heap.size, 0, none⟩)) rfl (by kernel_rfl) (by kernel_rfl) (by kernel_rfl) (fun _ _ _ h => h) (Or.inl ⟨by rfl, ?y5⟩) (by assumption) ?_
  case y5 => (intro w' hSw; have qK := sK w' hSw; go_simp; try rfl)
  try simp only [List.getElem_toArray, List.getElem_cons_zero, List.getElem_cons_succ, Act.put, List.setIfInBounds_toArray, List.set_cons_zero, List.set_cons_succ]
  refine wpAnyH_take (i := 6) (v := .int .i64 (d : Nat)) rfl (by kernel_rfl) (by kernel_rfl) (by kernel_rfl) (fun _ _ _ h => h) (Or.inl ⟨by rfl, ?y6⟩) (by assumption) ?_
  case y6 => (intro w' hSw; have qK := sK w' hSw; go_simp; try rfl)
  try simp only [List.getElem_toArray, List.getElem_cons_zero, List.getElem_cons_succ, Act.put, List.setIfInBounds_toArray, List.set_cons_zero, List.set_cons_succ]
  refine wpAnyH_take (i := 7) (v := .int .i64 (a - d : Nat)) rfl (by kernel_rfl) (by kernel_rfl) (by kernel_rfl) (fun _ _ _ h => h) (Or.inl ⟨by rfl, ?y7⟩) (by assumption) ?_
  case y7 => (intro w' hSw; have qK := sK w' hSw; go_simp; try rfl)
  try simp only [List.getElem_toArray, List.getElem_cons_zero, List.getElem_cons_succ, Act.put, List.setIfInBounds_toArray, List.set_cons_zero, List.set_cons_succ]
  refine wpAnyH_ready (rs := [8, 12]) (by kernel_rfl) (by simp) ?_
  refine AllReadyH.cons rfl (fun K hK => ?_) ?_
  · try simp only [List.getElem_toArray, List.getElem_cons_zero, List.getElem_cons_succ]
    go_simp
    refine (cB _ hHeld).mono ?_
    rintro e W1 ⟨rfl, hb1⟩
    go_wp2_with fail
    have hS1 := hSB _ _ hHeld hb1
    refine hK.out _ _ hS1 (fun hHeld9 => ?_)
    clear hK K hHeld9
    try simp only [List.getElem_toArray, List.getElem_cons_zero, List.getElem_cons_succ, Act.put, List.setIfInBounds_toArray, List.set_cons_zero, List.set_cons_succ]
    refine wpAnyH_take (i := 9) (v := .tuple #[.agg #[.int .i64 (a - d : Nat), .int .i64 (x2 : Nat), .int .i64 (y2 : Nat), .int .i64 (z2 : Nat)], .int .i64 0]) rfl (by kernel_rfl) (by kernel_rfl) (by kernel_rfl) (fun _ _ _ h => h) (Or.inl ⟨by rfl, ?y9⟩) (by assumption) ?_
    case y9 => (intro w' hSw; have qK := sK w' hSw; go_simp; try rfl)
    try simp only [List.getElem_toArray, List.getElem_cons_zero, List.getElem_cons_succ, Act.put, List.setIfInBounds_toArray, List.set_cons_zero, List.set_cons_succ]
    refine wpAnyH_take (i := 10) (v := .agg #[.int .i64 (a - d : Nat), .int .i64 (x2 : Nat), .int .i64 (y2 : Nat), .int .i64 (z2 : Nat)]) rfl (by kernel_rfl) (by kernel_rfl) (by kernel_rfl) (fun _ _ _ h => h) (Or.inl ⟨by rfl, ?y10⟩) (by assumption) ?_
    case y10 => (intro w' hSw; have qK := sK w' hSw; go_simp; try rfl)
    try simp only [List.getElem_toArray, List.getElem_cons_zero, List.getElem_cons_succ, Act.put, List.setIfInBounds_toArray, List.set_cons_zero, List.set_cons_succ]
    refine wpAnyH_take (i := 11) (v := .int .i64 0) rfl (by kernel_rfl) (by kernel_rfl) (by kernel_rfl) (fun _ _ _ h => h) (Or.inl ⟨by rfl, ?y11⟩) (by assumption) ?_
    case y11 => (intro w' hSw; have qK := sK w' hSw; go_simp; try rfl)
    try simp only [List.getElem_toArray, List.getElem_cons_zero, List.getElem_cons_succ, Act.put, List.setIfInBounds_toArray, List.set_cons_zero, List.set_cons_succ]
    refine wpAnyH_ready (rs := [12]) (by kernel_rfl) (by simp) ?_
    refine AllReadyH.cons rfl (fun K hK => ?_) AllReadyH.nil
    try simp only [List.getElem_toArray, List.getElem_cons_zero, List.getElem_cons_succ]
    go_simp
    have hSa := hSA _ hS1 (.cells #[.int .i64 0, .int .i64 0, .int .i64 0, .int .i64 0] 30)
    have hTa := Lx.heap_new W1 (.cells #[.int .i64 0, .int .i64 0, .int .i64 0, .int .i64 0] 30)
    have hTg := hSL _ hS1
    refine hK.out _ _ hSa (fun hHeld9 => ?_)
    clear hK K hHeld9
    try simp only [List.getElem_toArray, List.getElem_cons_zero, List.getElem_cons_succ, Act.put, List.setIfInBounds_toArray, List.set_cons_zero, List.set_cons_succ]
    change wpAnyH _ _ _ _ _ _ _ _ (World.alloc W1 (.cells #[.int .i64 0, .int .i64 0, .int .i64 0, .int .i64 0] 30))
    generalize W1.alloc (.cells #[.int .i64 0, .int .i64 0, .int .i64 0, .int .i64 0] 30) = W2 at hSa hTa ⊢
    refine wpAnyH_ready (rs := [13]) (by kernel_rfl) (by simp) ?_
    refine AllReadyH.cons rfl (fun K hK => ?_) AllReadyH.nil
    try simp only [List.getElem_toArray, List.getElem_cons_zero, List.getElem_cons_succ]
    rw [if_pos (by rfl)]
    refine wp_store_mid 30 (.tmp 7) (.tmp 19) ?_ W1.heap.size 0 #[.int .i64 (a - d : Nat), .int .i64 (x2 : Nat), .int .i64 (y2 : Nat), .int .i64 (z2 : Nat)] ?_ ?_ (Lx.there_of hTa 0 4 (Nat.le_refl _)) plInfo (by simp [Value.oneCell']) ?_
    · rfl
    · rfl
    · rfl
    refine hK.out _ _ (hSC _ _ hSa hTg _) (fun hHeld9 => ?_)
    clear hK K
    try simp only [Act.put]
    have hTT := Lx.heap_setCells (#[.int .i64 (a - d : Nat), .int .i64 (x2 : Nat), .int .i64 (y2 : Nat), .int .i64 (z2 : Nat)] : Array Value).toList 0 _ _ hTa
    generalize W2.setCells W1.heap.size 0 _ = W9 at hHeld9 hTT ⊢
    try simp only [List.getElem_toArray, List.getElem_cons_zero, List.getElem_cons_succ, Act.put, List.setIfInBounds_toArray, List.set_cons_zero, List.set_cons_succ]
    refine wpAnyH_take (i := 14) (v := .int .i64 0) rfl (by kernel_rfl) (by kernel_rfl) (by kernel_rfl) (fun _ _ _ h => h) (Or.inl ⟨by rfl, ?y14⟩) (by assumption) ?_
    case y14 => (intro w' hSw; have qK := sK w' hSw; go_simp; try rfl)
    try simp only [List.getElem_toArray, List.getElem_cons_zero, List.getElem_cons_succ, Act.put, List.setIfInBounds_toArray, List.set_cons_zero, List.set_cons_succ]
    refine wpAnyH_done (by kernel_rfl) ?_ _
    generalize W1.heap.size = T at hTg hTT ⊢
    have hX := hHeld9
    rw [HSD.out] at hX
    obtain ⟨x1, x3, x4⟩ := hX
    have hTT' : W9.heap[T]? = some (.cells #[.int .i64 (a - d : Nat), .int .i64 (x2 : Nat), .int .i64 (y2 : Nat), .int .i64 (z2 : Nat)] 30 (0, 0)) := hTT
    have k1 : W9.cell? ⟨w.heap.size, 1, none⟩ = some (.int .i64 (x : Nat)) := by rw [Lib.cell_of_heap x1]; rfl
    have k2 : W9.cell? ⟨w.heap.size, 2, none⟩ = some (.int .i64 (y : Nat)) := by rw [Lib.cell_of_heap x1]; rfl
    have k3 : W9.cell? ⟨w.heap.size, 3, none⟩ = some (.int .i64 (z : Nat)) := by rw [Lib.cell_of_heap x1]; rfl
    have t0 : W9.cell? ⟨T, 0, none⟩ = some (.int .i64 (a - d : Nat)) := by rw [Lib.cell_of_heap hTT']; rfl
    have t1 : W9.cell? ⟨T, 1, none⟩ = some (.int .i64 (x2 : Nat)) := by rw [Lib.cell_of_heap hTT']; rfl
    have t2 : W9.cell? ⟨T, 2, none⟩ = some (.int .i64 (y2 : Nat)) := by rw [Lib.cell_of_heap hTT']; rfl
    have t3 : W9.cell? ⟨T, 3, none⟩ = some (.int .i64 (z2 : Nat)) := by rw [Lib.cell_of_heap hTT']; rfl
    have f0 := fun j => Lib.frozen_of_heap hTT' j
    have f1 := fun j => Lib.frozen_of_heap x3 j
    have z0 : W9.cell? ⟨w.heap.size + 1, 0, none⟩ = some (.int .i64 0) := by rw [Lib.cell_of_heap x3]; rfl
    have z1 : W9.cell? ⟨w.heap.size + 1, 1, none⟩ = some (.int .i64 0) := by rw [Lib.cell_of_heap x3]; rfl
    have z2' : W9.cell? ⟨w.heap.size + 1, 2, none⟩ = some (.int .i64 0) := by rw [Lib.cell_of_heap x3]; rfl
    have z3 : W9.cell? ⟨w.heap.size + 1, 3, none⟩ = some (.int .i64 0) := by rw [Lib.cell_of_heap x3]; rfl
    have n1 : ¬ T = w.heap.size := by omega
    have n2 : ¬ T = w.heap.size + 1 := by omega
    have n3 : ¬ w.heap.size = T := by omega
    have n4 : ¬ w.heap.size + 1 = T := by omega
    have HX4 := hide' x4
    have HX3 := hide' x3
    clear hTT hTT' x1 x3 x4 hHeld9 HSD cB hSB hSA hSC sK hSL
    by_cases hy : y2 = 1
    · have g1 : ((y2 : Int) == 1) = true := by simp [hy]
      obtain rfl : C = z - 1 + z2 := by rw [← HC.out, if_pos hy]
      clear hy HC
      go_wp2
      have hw : ((((W9.setCell ⟨T, 3, none⟩ (.int .i64 ((z2 : Int) + ((z : Int) - 1)))).setCell ⟨T, 2, none⟩ (.int .i64 ((y2 : Int) + ((y : Int) - 1)))).setCell ⟨T, 1, none⟩ (.int .i64 ((x2 : Int) + (x : Int)))).setCell ⟨T, 0, none⟩ (.int .i64 (a : Nat))).heap[w.heap.size + 1]? = some (.cells #[.int .i64 0, .int .i64 0, .int .i64 0, .int .i64 0] 30 (0, 0)) := ((RowKit.Below.heap_setCell _ _ _ _ n4).trans ((RowKit.Below.heap_setCell _ _ _ _ n4).trans ((RowKit.Below.heap_setCell _ _ _ _ n4).trans ((RowKit.Below.heap_setCell _ _ _ _ n4).trans HX3.out))))
      refine bodyPost_ret (v := .agg ([.int .i64 (a : Nat), .int .i64 ((x2 : Int) + (x : Int)), .int .i64 ((y2 : Int) + ((y : Int) - 1)), .int .i64 ((z2 : Int) + ((z : Int) - 1))] : List Value).toArray) (Lx.results_cell Tryd.results22 _ ⟨w.heap.size + 1, 0, none⟩ rfl _ _ (run_loadVar_mid (((((W9.setCell ⟨T, 3, none⟩ (.int .i64 ((z2 : Int) + ((z : Int) - 1)))).setCell ⟨T, 2, none⟩ (.int .i64 ((y2 : Int) + ((y : Int) - 1)))).setCell ⟨T, 1, none⟩ (.int .i64 ((x2 : Int) + (x : Int)))).setCell ⟨T, 0, none⟩ (.int .i64 (a : Nat))).setCells (w.heap.size + 1) 0 [.int .i64 (a : Nat), .int .i64 ((x2 : Int) + (x : Int)), .int .i64 ((y2 : Int) + ((y : Int) - 1)), .int .i64 ((z2 : Int) + ((z : Int) - 1))]) (w.heap.size + 1) 0 30 [.int .i64 (a : Nat), .int .i64 ((x2 : Int) + (x : Int)), .int .i64 ((y2 : Int) + ((y : Int) - 1)), .int .i64 ((z2 : Int) + ((z : Int) - 1))] _ (World.rangeAt_setCells_same _ _ _ _ (Lx.there_of hw 0 4 (Nat.le_refl _))) Tryd.underlying30 rfl plInfo)) rfl ⟨?_, Lx.below_cells (Nat.le_succ _) [.int .i64 (a : Nat), .int .i64 ((x2 : Int) + (x : Int)), .int .i64 ((y2 : Int) + ((y : Int) - 1)), .int .i64 ((z2 : Int) + ((z : Int) - 1))] 0 _ ((((HX4.out.setCell (p := ⟨T, 3, none⟩) (by show w.heap.size ≤ T; omega) _).setCell (p := ⟨T, 2, none⟩) (by show w.heap.size ≤ T; omega) _).setCell (p := ⟨T, 1, none⟩) (by show w.heap.size ≤ T; omega) _).setCell (p := ⟨T, 0, none⟩) (by show w.heap.size ≤ T; omega) _)⟩
      rw [show ((x2 : Int) + (x : Int)) = ((x + x2 : Nat) : Int) by omega, show ((y2 : Int) + ((y : Int) - 1)) = ((y - 1 + y2 : Nat) : Int) by omega, show ((z2 : Int) + ((z : Int) - 1)) = ((z - 1 + z2 : Nat) : Int) by omega]
    · have g1 : ((y2 : Int) == 1) = false := by simp; omega
      obtain rfl : C = z2 := by rw [← HC.out, if_neg hy]
      clear hy HC
      go_wp2
      have hw : (((W9.setCell ⟨T, 2, none⟩ (.int .i64 ((y2 : Int) + ((y : Int) - 1)))).setCell ⟨T, 1, none⟩ (.int .i64 ((x2 : Int) + (x : Int)))).setCell ⟨T, 0, none⟩ (.int .i64 (a : Nat))).heap[w.heap.size + 1]? = some (.cells #[.int .i64 0, .int .i64 0, .int .i64 0, .int .i64 0] 30 (0, 0)) := ((RowKit.Below.heap_setCell _ _ _ _ n4).trans ((RowKit.Below.heap_setCell _ _ _ _ n4).trans ((RowKit.Below.heap_setCell _ _ _ _ n4).trans HX3.out)))
      refine bodyPost_ret (v := .agg ([.int .i64 (a : Nat), .int .i64 ((x2 : Int) + (x : Int)), .int .i64 ((y2 : Int) + ((y : Int) - 1)), .int .i64 (C : Nat)] : List Value).toArray) (Lx.results_cell Tryd.results22 _ ⟨w.heap.size + 1, 0, none⟩ rfl _ _ (run_loadVar_mid ((((W9.setCell ⟨T, 2, none⟩ (.int .i64 ((y2 : Int) + ((y : Int) - 1)))).setCell ⟨T, 1, none⟩ (.int .i64 ((x2 : Int) + (x : Int)))).setCell ⟨T, 0, none⟩ (.int .i64 (a : Nat))).setCells (w.heap.size + 1) 0 [.int .i64 (a : Nat), .int .i64 ((x2 : Int) + (x : Int)), .int .i64 ((y2 : Int) + ((y : Int) - 1)), .int .i64 (C : Nat)]) (w.heap.size + 1) 0 30 [.int .i64 (a : Nat), .int .i64 ((x2 : Int) + (x : Int)), .int .i64 ((y2 : Int) + ((y : Int) - 1)), .int .i64 (C : Nat)] _ (World.rangeAt_setCells_same _ _ _ _ (Lx.there_of hw 0 4 (Nat.le_refl _))) Tryd.underlying30 rfl plInfo)) rfl ⟨?_, Lx.below_cells (Nat.le_succ _) [.int .i64 (a : Nat), .int .i64 ((x2 : Int) + (x : Int)), .int .i64 ((y2 : Int) + ((y : Int) - 1)), .int .i64 (C : Nat)] 0 _ (((HX4.out.setCell (p := ⟨T, 2, none⟩) (by show w.heap.size ≤ T; omega) _).setCell (p := ⟨T, 1, none⟩) (by show w.heap.size ≤ T; omega) _).setCell (p := ⟨T, 0, none⟩) (by show w.heap.size ≤ T; omega) _)⟩
      rw [show ((x2 : Int) + (x : Int)) = ((x + x2 : Nat) : Int) by omega, show ((y2 : Int) + ((y : Int) - 1)) = ((y - 1 + y2 : Nat) : Int) by omega]
  refine AllReadyH.cons rfl (fun K hK => ?_) AllReadyH.nil
  try simp only [List.getElem_toArray, List.getElem_cons_zero, List.getElem_cons_succ]
  go_simp
  have hSa := hSA _ hHeld (.cells #[.int .i64 0, .int .i64 0, .int .i64 0, .int .i64 0] 30)
  have hTa := Lx.heap_new W0 (.cells #[.int .i64 0, .int .i64 0, .int .i64 0, .int .i64 0] 30)
  have hTg := hSL _ hHeld
  refine hK.out _ _ hSa (fun hHeld9 => ?_)
  clear hK K hHeld9
  try simp only [List.getElem_toArray, List.getElem_cons_zero, List.getElem_cons_succ, Act.put, List.setIfInBounds_toArray, List.set_cons_zero, List.set_cons_succ]
  change wpAnyH _ _ _ _ _ _ _ _ (World.alloc W0 (.cells #[.int .i64 0, .int .i64 0, .int .i64 0, .int .i64 0] 30))
  generalize W0.alloc (.cells #[.int .i64 0, .int .i64 0, .int .i64 0, .int .i64 0] 30) = W2 at hSa hTa ⊢
  refine wpAnyH_ready (rs := [8]) (by kernel_rfl) (by simp) ?_
  refine AllReadyH.cons rfl (fun K hK => ?_) AllReadyH.nil
  try simp only [List.getElem_toArray, List.getElem_cons_zero, List.getElem_cons_succ]
  go_simp
  refine (cB _ hSa).mono ?_
  rintro e W1 ⟨rfl, hb1⟩
  go_wp2_with fail
  have hS1 := hSB _ _ hSa hb1
  have hT1 := (hb1.block _ ((Array.getElem?_eq_some_iff.1 hTa).1)).trans hTa
  refine hK.out _ _ hS1 (fun hHeld9 => ?_)
  clear hK K hHeld9
  try simp only [List.getElem_toArray, List.getElem_cons_zero, List.getElem_cons_succ, Act.put, List.setIfInBounds_toArray, List.set_cons_zero, List.set_cons_succ]
  refine wpAnyH_take (i := 9) (v := .tuple #[.agg #[.int .i64 (a - d : Nat), .int .i64 (x2 : Nat), .int .i64 (y2 : Nat), .int .i64 (z2 : Nat)], .int .i64 0]) rfl (by kernel_rfl) (by kernel_rfl) (by kernel_rfl) (fun _ _ _ h => h) (Or.inl ⟨by rfl, ?y9⟩) (by assumption) ?_
  case y9 => (intro w' hSw; have qK := sK w' hSw; go_simp; try rfl)
  try simp only [List.getElem_toArray, List.getElem_cons_zero, List.getElem_cons_succ, Act.put, List.setIfInBounds_toArray, List.set_cons_zero, List.set_cons_succ]
  refine wpAnyH_take (i := 10) (v := .agg #[.int .i64 (a - d : Nat), .int .i64 (x2 : Nat), .int .i64 (y2 : Nat), .int .i64 (z2 : Nat)]) rfl (by kernel_rfl) (by kernel_rfl) (by kernel_rfl) (fun _ _ _ h => h) (Or.inl ⟨by rfl, ?y10⟩) (by assumption) ?_
  case y10 => (intro w' hSw; have qK := sK w' hSw; go_simp; try rfl)
  try simp only [List.getElem_toArray, List.getElem_cons_zero, List.getElem_cons_succ, Act.put, List.setIfInBounds_toArray, List.set_cons_zero, List.set_cons_succ]
  refine wpAnyH_take (i := 11) (v := .int .i64 0) rfl (by kernel_rfl) (by kernel_rfl) (by kernel_rfl) (fun _ _ _ h => h) (Or.inl ⟨by rfl, ?y11⟩) (by assumption) ?_
  case y11 => (intro w' hSw; have qK := sK w' hSw; go_simp; try rfl)
  try simp only [List.getElem_toArray, List.getElem_cons_zero, List.getElem_cons_succ, Act.put, List.setIfInBounds_toArray, List.set_cons_zero, List.set_cons_succ]
  refine wpAnyH_ready (rs := [13]) (by kernel_rfl) (by simp) ?_
  refine AllReadyH.cons rfl (fun K hK => ?_) AllReadyH.nil
  try simp only [List.getElem_toArray, List.getElem_cons_zero, List.getElem_cons_succ]
  rw [if_pos (by rfl)]
  refine wp_store_mid 30 (.tmp 7) (.tmp 19) ?_ W0.heap.size 0 #[.int .i64 (a - d : Nat), .int .i64 (x2 : Nat), .int .i64 (y2 : Nat), .int .i64 (z2 : Nat)] ?_ ?_ (Lx.there_of hT1 0 4 (Nat.le_refl _)) plInfo (by simp [Value.oneCell']) ?_
  · rfl
  · rfl
  · rfl
  refine hK.out _ _ (hSC _ _ hS1 hTg _) (fun hHeld9 => ?_)
  clear hK K
  try simp only [Act.put]
  have hTT := Lx.heap_setCells (#[.int .i64 (a - d : Nat), .int .i64 (x2 : Nat), .int .i64 (y2 : Nat), .int .i64 (z2 : Nat)] : Array Value).toList 0 _ _ hT1
  generalize W1.setCells W0.heap.size 0 _ = W9 at hHeld9 hTT ⊢
  try simp only [List.getElem_toArray, List.getElem_cons_zero, List.getElem_cons_succ, Act.put, List.setIfInBounds_toArray, List.set_cons_zero, List.set_cons_succ]
  refine wpAnyH_take (i := 14) (v := .int .i64 0) rfl (by kernel_rfl) (by kernel_rfl) (by kernel_rfl) (fun _ _ _ h => h) (Or.inl ⟨by rfl, ?y14⟩) (by assumption) ?_
  case y14 => (intro w' hSw; have qK := sK w' hSw; go_simp; try rfl)
  try simp only [List.getElem_toArray, List.getElem_cons_zero, List.getElem_cons_succ, Act.put, List.setIfInBounds_toArray, List.set_cons_zero, List.set_cons_succ]
  refine wpAnyH_done (by kernel_rfl) ?_ _
  generalize W0.heap.size = T at hTg hTT ⊢
  have hX := hHeld9
  rw [HSD.out] at hX
  obtain ⟨x1, x3, x4⟩ := hX
  have hTT' : W9.heap[T]? = some (.cells #[.int .i64 (a - d : Nat), .int .i64 (x2 : Nat), .int .i64 (y2 : Nat), .int .i64 (z2 : Nat)] 30 (0, 0)) := hTT
  have k1 : W9.cell? ⟨w.heap.size, 1, none⟩ = some (.int .i64 (x : Nat)) := by rw [Lib.cell_of_heap x1]; rfl
  have k2 : W9.cell? ⟨w.heap.size, 2, none⟩ = some (.int .i64 (y : Nat)) := by rw [Lib.cell_of_heap x1]; rfl
  have k3 : W9.cell? ⟨w.heap.size, 3, none⟩ = some (.int .i64 (z : Nat)) := by rw [Lib.cell_of_heap x1]; rfl
  have t0 : W9.cell? ⟨T, 0, none⟩ = some (.int .i64 (a - d : Nat)) := by rw [Lib.cell_of_heap hTT']; rfl
  have t1 : W9.cell? ⟨T, 1, none⟩ = some (.int .i64 (x2 : Nat)) := by rw [Lib.cell_of_heap hTT']; rfl
  have t2 : W9.cell? ⟨T, 2, none⟩ = some (.int .i64 (y2 : Nat)) := by rw [Lib.cell_of_heap hTT']; rfl
  have t3 : W9.cell? ⟨T, 3, none⟩ = some (.int .i64 (z2 : Nat)) := by rw [Lib.cell_of_heap hTT']; rfl
  have f0 := fun j => Lib.frozen_of_heap hTT' j
  have f1 := fun j => Lib.frozen_of_heap x3 j
  have z0 : W9.cell? ⟨w.heap.size + 1, 0, none⟩ = some (.int .i64 0) := by rw [Lib.cell_of_heap x3]; rfl
  have z1 : W9.cell? ⟨w.heap.size + 1, 1, none⟩ = some (.int .i64 0) := by rw [Lib.cell_of_heap x3]; rfl
  have z2' : W9.cell? ⟨w.heap.size + 1, 2, none⟩ = some (.int .i64 0) := by rw [Lib.cell_of_heap x3]; rfl
  have z3 : W9.cell? ⟨w.heap.size + 1, 3, none⟩ = some (.int .i64 0) := by rw [Lib.cell_of_heap x3]; rfl
  have n1 : ¬ T = w.heap.size := by omega
  have n2 : ¬ T = w.heap.size + 1 := by omega
  have n3 : ¬ w.heap.size = T := by omega
  have n4 : ¬ w.heap.size + 1 = T := by omega
  have HX4 := hide' x4
  have HX3 := hide' x3
  clear hTT hTT' x1 x3 x4 hHeld9 HSD cB hSB hSA hSC sK hSL
  by_cases hy : y2 = 1
  · have g1 : ((y2 : Int) == 1) = true := by simp [hy]
    obtain rfl : C = z - 1 + z2 := by rw [← HC.out, if_pos hy]
    clear hy HC
    go_wp2
    have hw : ((((W9.setCell ⟨T, 3, none⟩ (.int .i64 ((z2 : Int) + ((z : Int) - 1)))).setCell ⟨T, 2, none⟩ (.int .i64 ((y2 : Int) + ((y : Int) - 1)))).setCell ⟨T, 1, none⟩ (.int .i64 ((x2 : Int) + (x : Int)))).setCell ⟨T, 0, none⟩ (.int .i64 (a : Nat))).heap[w.heap.size + 1]? = some (.cells #[.int .i64 0, .int .i64 0, .int .i64 0, .int .i64 0] 30 (0, 0)) := ((RowKit.Below.heap_setCell _ _ _ _ n4).trans ((RowKit.Below.heap_setCell _ _ _ _ n4).trans ((RowKit.Below.heap_setCell _ _ _ _ n4).trans ((RowKit.Below.heap_setCell _ _ _ _ n4).trans HX3.out))))
    refine bodyPost_ret (v := .agg ([.int .i64 (a : Nat), .int .i64 ((x2 : Int) + (x : Int)), .int .i64 ((y2 : Int) + ((y : Int) - 1)), .int .i64 ((z2 : Int) + ((z : Int) - 1))] : List Value).toArray) (Lx.results_cell Tryd.results22 _ ⟨w.heap.size + 1, 0, none⟩ rfl _ _ (run_loadVar_mid (((((W9.setCell ⟨T, 3, none⟩ (.int .i64 ((z2 : Int) + ((z : Int) - 1)))).setCell ⟨T, 2, none⟩ (.int .i64 ((y2 : Int) + ((y : Int) - 1)))).setCell ⟨T, 1, none⟩ (.int .i64 ((x2 : Int) + (x : Int)))).setCell ⟨T, 0, none⟩ (.int .i64 (a : Nat))).setCells (w.heap.size + 1) 0 [.int .i64 (a : Nat), .int .i64 ((x2 : Int) + (x : Int)), .int .i64 ((y2 : Int) + ((y : Int) - 1)), .int .i64 ((z2 : Int) + ((z : Int) - 1))]) (w.heap.size + 1) 0 30 [.int .i64 (a : Nat), .int .i64 ((x2 : Int) + (x : Int)), .int .i64 ((y2 : Int) + ((y : Int) - 1)), .int .i64 ((z2 : Int) + ((z : Int) - 1))] _ (World.rangeAt_setCells_same _ _ _ _ (Lx.there_of hw 0 4 (Nat.le_refl _))) Tryd.underlying30 rfl plInfo)) rfl ⟨?_, Lx.below_cells (Nat.le_succ _) [.int .i64 (a : Nat), .int .i64 ((x2 : Int) + (x : Int)), .int .i64 ((y2 : Int) + ((y : Int) - 1)), .int .i64 ((z2 : Int) + ((z : Int) - 1))] 0 _ ((((HX4.out.setCell (p := ⟨T, 3, none⟩) (by show w.heap.size ≤ T; omega) _).setCell (p := ⟨T, 2, none⟩) (by show w.heap.size ≤ T; omega) _).setCell (p := ⟨T, 1, none⟩) (by show w.heap.size ≤ T; omega) _).setCell (p := ⟨T, 0, none⟩) (by show w.heap.size ≤ T; omega) _)⟩
    rw [show ((x2 : Int) + (x : Int)) = ((x + x2 : Nat) : Int) by omega, show ((y2 : Int) + ((y : Int) - 1)) = ((y - 1 + y2 : Nat) : Int) by omega, show ((z2 : Int) + ((z : Int) - 1)) = ((z - 1 + z2 : Nat) : Int) by omega]
  · have g1 : ((y2 : Int) == 1) = false := by simp; omega
    obtain rfl : C = z2 := by rw [← HC.out, if_neg hy]
    clear hy HC
    go_wp2
    have hw : (((W9.setCell ⟨T, 2, none⟩ (.int .i64 ((y2 : Int) + ((y : Int) - 1)))).setCell ⟨T, 1, none⟩ (.int .i64 ((x2 : Int) + (x : Int)))).setCell ⟨T, 0, none⟩ (.int .i64 (a : Nat))).heap[w.heap.size + 1]? = some (.cells #[.int .i64 0, .int .i64 0, .int .i64 0, .int .i64 0] 30 (0, 0)) := ((RowKit.Below.heap_setCell _ _ _ _ n4).trans ((RowKit.Below.heap_setCell _ _ _ _ n4).trans ((RowKit.Below.heap_setCell _ _ _ _ n4).trans HX3.out)))
    refine bodyPost_ret (v := .agg ([.int .i64 (a : Nat), .int .i64 ((x2 : Int) + (x : Int)), .int .i64 ((y2 : Int) + ((y : Int) - 1)), .int .i64 (C : Nat)] : List Value).toArray) (Lx.results_cell Tryd.results22 _ ⟨w.heap.size + 1, 0, none⟩ rfl _ _ (run_loadVar_mid ((((W9.setCell ⟨T, 2, none⟩ (.int .i64 ((y2 : Int) + ((y : Int) - 1)))).setCell ⟨T, 1, none⟩ (.int .i64 ((x2 : Int) + (x : Int)))).setCell ⟨T, 0, none⟩ (.int .i64 (a : Nat))).setCells (w.heap.size + 1) 0 [.int .i64 (a : Nat), .int .i64 ((x2 : Int) + (x : Int)), .int .i64 ((y2 : Int) + ((y : Int) - 1)), .int .i64 (C : Nat)]) (w.heap.size + 1) 0 30 [.int .i64 (a : Nat), .int .i64 ((x2 : Int) + (x : Int)), .int .i64 ((y2 : Int) + ((y : Int) - 1)), .int .i64 (C : Nat)] _ (World.rangeAt_setCells_same _ _ _ _ (Lx.there_of hw 0 4 (Nat.le_refl _))) Tryd.underlying30 rfl plInfo)) rfl ⟨?_, Lx.below_cells (Nat.le_succ _) [.int .i64 (a : Nat), .int .i64 ((x2 : Int) + (x : Int)), .int .i64 ((y2 : Int) + ((y : Int) - 1)), .int .i64 (C : Nat)] 0 _ (((HX4.out.setCell (p := ⟨T, 2, none⟩) (by show w.heap.size ≤ T; omega) _).setCell (p := ⟨T, 1, none⟩) (by show w.heap.size ≤ T; omega) _).setCell (p := ⟨T, 0, none⟩) (by show w.heap.size ≤ T; omega) _)⟩
    rw [show ((x2 : Int) + (x : Int)) = ((x + x2 : Nat) : Int) by omega, show ((y2 : Int) + ((y : Int) - 1)) = ((y - 1 + y2 : Nat) : Int) by omega]
end Go.Proofs.YtoccedbnnafjcaaDoor
