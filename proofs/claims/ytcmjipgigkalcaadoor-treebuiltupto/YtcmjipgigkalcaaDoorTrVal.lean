/-
  THE WALK over (*tree.Tree).Value.
-/
import Derived.Test.YtcmjipgigkalcaaDoorTrRound
import Derived.Test.YtcmjipgigkalcaaDoorRfBld
import Derived.Test.YtcmjipgigkalcaaDoorRnCat
namespace Go.Proofs.YtcmjipgigkalcaaDoor
open Go.RowKit Go.Shelf Go.Lib
attribute [local go_sem] Oper.semAt_some
namespace Tr
/-- the text of a node's own event -/
def tx1 (E : Nat → Ev Value) (n : Nat) (k : Int) : List UInt8 := if 0 ≤ k then (E ((grun E n).nth k.toNat).fst.toNat).tx.data.toList else []
/-- the texts of nodes -/
def vtx (E : Nat → Ev Value) (n : Nat) (l : List Int) : List UInt8 := l.flatMap (tx1 E n)
theorem vtx_snoc (E : Nat → Ev Value) (n : Nat) (l : List Int) (k : Int) : vtx E n (l ++ [k]) = vtx E n l ++ tx1 E n k := by simp [vtx]
/-- the numbers as such -/
def vals {a b : Int} (l : List (Num a b)) : List Int := l.map (·.1)
theorem vals_snoc {a b : Int} (l : List (Num a b)) (x : Num a b) : vals (l ++ [x]) = vals l ++ [x.1] := by simp [vals]
theorem vals_numS (a b : Int) : vals (numS a b) = numL a b := numS_val a b
/-- between two rounds -/
structure VI (E : Nat → Ev Value) (n D N : Nat) {a b : Int} (w : World) (pre : List (Num a b)) (W : World) : Prop where
  below : Below N w W
  box : W.heap[N]? = some (.cells #[.pointer (some ⟨D, 0, none⟩)] 25 (0, 0))
  out : Lib.IsBuilderF 71 5 (N + 1) (N + 1) (Lib.byteCells (vtx E n (vals pre))) W
  len : (vtx E n (vals pre)).length ≤ 1048576 * pre.length
  cnt : pre.length ≤ (numS a b).length
  big : N + 1 < W.heap.size
  fin : W.heap[N + 1 + 1 + 1]? = some (.cells #[.int .i64 b] 3 (0, 0))
theorem VI.own (E : Nat → Ev Value) (n D N : Nat) {a b : Int} (w : World) (B : Nat) (hB : N ≤ B) : OwnFrom B (VI E n D N (a := a) (b := b) w) := by
  intro pre W W' row h hg hr
  have hk : ∀ (k : Nat) (o : Obj), W.heap[k]? = some o → o.isCells = true → W'.heap[k]? = some o := fun k o h1 h2 => kept_cells hg (fun r e => (hr r e).2) h1 h2
  refine ⟨?_, hk _ _ h.box rfl, builder_kept h.out hk, h.len, h.cnt, Nat.lt_of_lt_of_le h.big hg.size, hk _ _ h.fin rfl⟩
  exact h.below.trans ⟨hg.os, hg.tape, hg.output, hg.size, fun k hk' => hg.block k (by have := h.big; omega) (fun e => by have := (hr k e.symm).1; omega)⟩
end Tr
set_option maxRecDepth 100000 in
set_option maxHeartbeats 4000000 in
theorem trValue (w : World) (B D n : Nat) (E : Nat → Tr.Ev Value) (L q cap nd : Nat) (h : Tr.TreeR w B D n E L q cap nd) (hs : ∀ i, i < n → Tr.Tiny (E i)) (hn : n ≤ 1048576) (k : Int) (hk1 : -1 ≤ k) (hk2 : k < nd) :
    Calls Tryd.prog 15 #[.pointer (some ⟨D, 0, none⟩), .int .i64 k] w fun e w' => e = .returned (.tuple #[.string ⟨(Tr.vtx E n (Tr.numL k (Tr.bh E n nd k))).toArray⟩, .int .i64 0]) ∧ Below w.heap.size w w' := by
  have hndn := h.shp.ndn
  have hbh : Tr.bh E n nd k ≤ nd := by
    unfold Tr.bh
    split
    · omega
    · obtain ⟨b, z, e1, _, _, _, _, e2, _⟩ := h.shp.beh k.toNat (by omega)
      omega
  refine (callsIn_wide (n := 6)).1 ?_
  refine callsIn_of_wp_marks Tryd.func15 rfl trivial ?_ rfl
  simp only [Tryd.ntmps15, List.size_toArray, List.length_cons, List.length_nil, Nat.reduceAdd, Nat.reduceSub, Array.replicate_succ, Array.replicate_zero, List.push_toArray, List.append_toArray, List.nil_append, List.cons_append]
  have hA1 : Below w.heap.size w (w.alloc (.cells #[.pointer (some ⟨D, 0, none⟩)] 25)) := (Below.refl _ _).alloc (Nat.le_refl _) _
  have cL := trLacks _ B D n E L q cap nd (h.below hA1) k (-1)
  rw [if_neg (by omega)] at cL
  have hA2 : Below w.heap.size w ((w.alloc (.cells #[.pointer (some ⟨D, 0, none⟩)] 25)).alloc (.cells #[.pointer none, .slice none 0 0] 71)) := hA1.alloc (by simp) _
  have cA := trAlong _ B D n E L q cap nd (h.below hA2) (by omega) k 2 (by decide)
  have hal : Tr.alF E n nd k 2 = (k, Tr.bh E n nd k) := by
    unfold Tr.alF
    rw [if_neg (by omega), if_neg (by decide), if_pos rfl]
  rw [hal] at cA
  have CL := hide' cL
  have CA := hide' cA
  clear cL cA hA1 hal
  gi_wp2_with fail
  refine ⟨trivial, ?_⟩
  refine (callsIn_wide.2 CL.out).mono ?_
  rintro e w' ⟨rfl, rfl⟩
  gi_wp2_with fail
  refine ⟨trivial, ?_⟩
  refine (callsIn_wide.2 CA.out).mono ?_
  rintro e w' ⟨rfl, rfl⟩
  clear CL CA
  gi_wp2
  obtain ⟨b, hb⟩ : ∃ b, Tr.bh E n nd k = b := ⟨_, rfl⟩
  rw [hb] at hbh
  simp only [hb]
  obtain ⟨W0, hW0⟩ : ∃ W0, ((((w.alloc (.cells #[.pointer (some ⟨D, 0, none⟩)] 25)).alloc (.cells #[.pointer none, .slice none 0 0] 71)).alloc (.cells #[.int .i64 k] 3)).alloc (.cells #[.int .i64 b] 3)) = W0 := ⟨_, rfl⟩
  have hsz0 : W0.heap.size = w.heap.size + 4 := by
    subst hW0
    simp
  have hB0 : Below w.heap.size w W0 := by
    subst hW0
    exact (hA2.alloc (by simp; omega) _).alloc (by simp; omega) _
  have hbf : W0.cell? ⟨w.heap.size + 1 + 1, 0, none⟩ = some (.int .i64 k) := by
    subst hW0
    have h1 := World.alloc_heap_new ((w.alloc (.cells #[.pointer (some ⟨D, 0, none⟩)] 25)).alloc (.cells #[.pointer none, .slice none 0 0] 71)) (.cells #[.int .i64 k] 3)
    rw [World.size_alloc, World.size_alloc] at h1
    rw [Lib.cell_of_heap ((Below.heap_alloc _ _ _ (by simp)).trans h1)]
    rfl
  have hbe : W0.heap[w.heap.size + 1 + 1 + 1]? = some (.cells #[.int .i64 b] 3 (0, 0)) := by
    subst hW0
    have h1 := World.alloc_heap_new (((w.alloc (.cells #[.pointer (some ⟨D, 0, none⟩)] 25)).alloc (.cells #[.pointer none, .slice none 0 0] 71)).alloc (.cells #[.int .i64 k] 3)) (.cells #[.int .i64 b] 3)
    rw [World.size_alloc, World.size_alloc, World.size_alloc] at h1
    exact h1
  have hbe2 : W0.cell? ⟨w.heap.size + 1 + 1 + 1, 0, none⟩ = some (.int .i64 b) := by rw [Lib.cell_of_heap hbe]; rfl
  have hI0 : Tr.VI E n D w.heap.size (a := k) (b := b) w [] W0 := by
    refine ⟨hB0, ?_, ?_, by simp [Tr.vtx, Tr.vals], by simp, by omega, hbe⟩
    · subst hW0
      rw [Below.heap_alloc _ _ _ (by simp; omega), Below.heap_alloc _ _ _ (by simp; omega), Below.heap_alloc _ _ _ (by simp)]
      exact World.alloc_heap_new w _
    · subst hW0
      have hb := Lib.IsBuilderF.of (Lib.fresh_isBuilder 71 5 (w.alloc (.cells #[.pointer (some ⟨D, 0, none⟩)] 25)))
      rw [World.size_alloc] at hb
      exact (hb.alloc _).alloc _
  rw [hW0]
  have HW0 := hide' hW0
  clear hW0 hA2
  refine wpIn_rangeFunc_ownG rfl (by omega) (gf := 55) (lb := #[.pointer (some ⟨w.heap.size + 1 + 1, 0, none⟩), .pointer (some ⟨w.heap.size + 1 + 1 + 1, 0, none⟩)]) rfl trivial (enters_of Tryd.func55 (by kernel_rfl) rfl)
    (trNum_stops Fence.wide 5 trivial rfl (by omega) (w.heap.size + 1 + 1) (w.heap.size + 1 + 1 + 1) k b (by omega) (by omega) W0 hbf hbe2) Tr.keep1_t (Tr.keep1_b (by omega)) (Below.refl _ _) (fun _ => rfl)
    (Tr.VI E n D w.heap.size w) (fun _ _ _ => False) (Tr.VI.own E n D w.heap.size w _ (by omega)) (fun _ _ _ _ _ h _ _ => h) hI0
    (fun x => { tmps := #[.pointer (some ⟨D, 0, none⟩), .int .i64 k, .pointer (some ⟨w.heap.size, 0, none⟩), undef, .string ⟨#[]⟩, .int .i64 0, .int .i64 0, .pointer (some ⟨w.heap.size + 1, 0, none⟩), .int .i64 x.1, .pointer (some ⟨D, 0, none⟩), .int .i64 k, .int .i64 0, .int .i64 0, .bool false, undef, .pointer (some ⟨D, 0, none⟩), .int .i64 k, .func (.func 55) #[] #[.pointer (some ⟨w.heap.size + 1 + 1, 0, none⟩), .pointer (some ⟨w.heap.size + 1 + 1 + 1, 0, none⟩)], .int .i64 x.1, undef, undef, undef, undef, undef, undef, undef, undef, undef, undef, undef, undef, undef, undef, undef, undef, undef, undef, undef], defers := [] }) ?assign ?body ?done ?stop
  case assign =>
    intro l x W K hK
    simp only [Tr.encI]
    gi_wp2
    exact hK
  case body =>
    rintro l pre ⟨x, hx1, hx2⟩ W hI hlt
    dsimp only
    have hsn := Tr.vals_snoc pre ⟨x, hx1, hx2⟩
    dsimp only at hsn
    have hbig := hI.big
    have hbW : Below w.heap.size w W := hI.below
    by_cases h0 : 0 ≤ x
    · obtain ⟨j, rfl⟩ : ∃ j : Nat, x = j := ⟨x.toNat, by omega⟩
      have hT := h.below hbW
      have c0 := hT.c0
      have c1 := hT.c1
      obtain ⟨_, _, c2, _⟩ := hT.node (k := j) (by omega)
      obtain ⟨f, ef, hf1, _⟩ := h.shp.evt j (by omega)
      obtain ⟨b1, o1, cap1, e1, _, _, kc⟩ := hT.evs.row.at (by omega)
      cases e1
      obtain ⟨_, _, _, _, _, c3, _, _⟩ := kc f hf1
      rw [ef] at c2
      rw [Nat.zero_add] at c3
      have d0 := h.c0
      obtain ⟨_, _, d2, _⟩ := h.node (k := j) (by omega)
      obtain ⟨b1, o1, cap1, e1, _, _, kd⟩ := h.evs.row.at (by omega)
      cases e1
      obtain ⟨_, _, _, _, _, d3, _, _⟩ := kd f hf1
      clear kd
      have cb : W.cell? ⟨w.heap.size, 0, none⟩ = some (.pointer (some ⟨D, 0, none⟩)) := by rw [Lib.cell_of_heap hI.box]; rfl
      have htx : Tr.tx1 E n (j : Int) = (E f).tx.data.toList := by
        unfold Tr.tx1
        rw [if_pos h0, Int.toNat_natCast, ef, Int.toNat_natCast]
      have hsm := (hs f hf1).2.1
      have hl := hI.len
      have hc := hI.cnt
      rw [Tr.numS_length] at hlt
      have hlen2 : (E f).tx.data.toList.length = (E f).tx.size := rfl
      have hO : Lib.IsBuilderF 71 5 (w.heap.size + 1) (w.heap.size + 1) (Lib.byteCells (Tr.vtx E n (Tr.vals pre))) W.drew := builder_kept hI.out (fun _ _ h _ => h)
      have cW := writeString_k (w.heap.size + 1) (w.heap.size + 1) _ (E f).tx W.drew hO (by rw [Lib.byteCells_length]; omega) (by show _ ≤ W.heap.size; omega)
      obtain ⟨cb1, hcb⟩ := isB_block hO
      have hfin : ∀ W1, Lib.BuilderAtF 71 5 (w.heap.size + 1) (w.heap.size + 1) (.pointer (some ⟨w.heap.size + 1, 0, none⟩)) (Lib.byteCells (Tr.vtx E n (Tr.vals pre)) ++ Lib.strCells (E f).tx) W1 → Below (w.heap.size + 1) W.drew W1 → Lib.OthersKept 5 (some (w.heap.size + 1)) W.drew W1 → KeepsFrom W0.heap.size W W1 ∧ Tr.Keep1 (w.heap.size + 1 + 1 + 1) W W1 ∧ Tr.VI E n D w.heap.size w (pre ++ [⟨(j : Int), hx1, hx2⟩]) W1 := by
        intro W1 h2 b1 k1
        have hKO := keepsOthers_of k1 b1 hcb
        have e1 : Tr.vtx E n (Tr.vals (pre ++ [⟨(j : Int), hx1, hx2⟩])) = Tr.vtx E n (Tr.vals pre) ++ (E f).tx.data.toList := by rw [hsn, Tr.vtx_snoc, htx]
        have e2 : Lib.byteCells (Tr.vtx E n (Tr.vals (pre ++ [⟨(j : Int), hx1, hx2⟩]))) = Lib.byteCells (Tr.vtx E n (Tr.vals pre)) ++ Lib.strCells (E f).tx := by
          rw [e1, Lib.byteCells_append]
          rfl
        refine ⟨?_, ?_, (hbW.drew.trans (b1.mono (Nat.le_succ _))), ?_, ?_, ?_, ?_, ?_, ?_⟩
        · exact (show KeepsOthers W W1 from ⟨hKO.size, hKO.same⟩).from _
        · have h3 : W1.heap[w.heap.size + 1 + 1 + 1]? = some (.cells #[.int .i64 b] 3 (0, 0)) := k1 _ _ hI.fin (fun e => by have := Option.some.inj e; omega) (fun c fz e => by cases e)
          exact World.cell?_of_block (a := ⟨w.heap.size + 1 + 1 + 1, 0, none⟩) (h3.trans hI.fin.symm)
        · exact (b1.block w.heap.size (Nat.lt_succ_self _)).trans hI.box
        · rw [e2]; exact .inr h2
        · rw [e1, List.length_append]; simp; omega
        · rw [Tr.numS_length]; simp; omega
        · have := b1.size; exact Nat.lt_of_lt_of_le hbig this
        · exact k1 _ _ hI.fin (fun e => by have := Option.some.inj e; omega) (fun c fz e => by cases e)
      have g1 : (j : Int) < (nd : Int) := by omega
      have g2 : (f : Int) < (n : Int) := by omega
      have g3 : 0 ≤ (f : Int) := by omega
      have CW := hide' cW
      have HF := hide' hfin
      clear cW hfin hO hcb hT kc hsn htx hI ef hl hc hlt hlen2 hsm hbW h0 hI0 hbf hbe hbe2 hB0
      gi_wp2_with fail
      obtain ⟨S, hSd⟩ : ∃ S : World → Prop, S = fun W' => W'.cell? ⟨w.heap.size, 0, none⟩ = some (.pointer (some ⟨D, 0, none⟩)) ∧ W'.cell? ⟨D, 0, none⟩ = some (.slice (some ⟨L, 0, none⟩) n n) ∧ W'.cell? ⟨D, 1, none⟩ = some (.slice (some ⟨q, 0, none⟩) nd cap) ∧ W'.cell? ⟨q, j * 4 + 2, none⟩ = some (.int .i64 (f : Nat)) ∧ W'.cell? ⟨L, f * 8 + 5, none⟩ = some (.string (E f).tx) := ⟨_, rfl⟩
      have hS0 : S W.drew := by rw [hSd]; exact ⟨cb, c0, c1, c2, c3⟩
      have hSO : ∀ W', S W' → _ ∧ _ ∧ _ ∧ _ ∧ _ := fun W' h => by rw [hSd] at h; exact h
      have hSN : ∀ W1, W1.cell? ⟨w.heap.size, 0, none⟩ = some (.pointer (some ⟨D, 0, none⟩)) → W1.cell? ⟨D, 0, none⟩ = some (.slice (some ⟨L, 0, none⟩) n n) → W1.cell? ⟨D, 1, none⟩ = some (.slice (some ⟨q, 0, none⟩) nd cap) → W1.cell? ⟨q, j * 4 + 2, none⟩ = some (.int .i64 (f : Nat)) → W1.cell? ⟨L, f * 8 + 5, none⟩ = some (.string (E f).tx) → S W1 := fun W1 h1 h2 h3 h4 h5 => by rw [hSd]; exact ⟨h1, h2, h3, h4, h5⟩
      have hSB : ∀ W1, Below (w.heap.size + 1) W.drew W1 → S W1 := fun W1 hb => hSN W1 ((hb.cell (p := ⟨w.heap.size, 0, none⟩) (Nat.lt_succ_self _)).trans cb) ((hb.cell (p := ⟨D, 0, none⟩) (by have h9 : D < w.heap.size := block_lt_of_cell d0; show D < _; omega)).trans c0) ((hb.cell (p := ⟨D, 1, none⟩) (by have h9 : D < w.heap.size := block_lt_of_cell d0; show D < _; omega)).trans c1) ((hb.cell (p := ⟨q, j * 4 + 2, none⟩) (by have h9 : q < w.heap.size := block_lt_of_cell d2; show q < _; omega)).trans c2) ((hb.cell (p := ⟨L, f * 8 + 5, none⟩) (by have h9 : L < w.heap.size := block_lt_of_cell d3; show L < _; omega)).trans c3)
      have HSO := hide' hSO
      have HSB := hide' hSB
      clear hSO hSB hSN hSd d0 d2 d3
      obtain ⟨Mid, hMid⟩ : ∃ Mid : Act → World → Prop, Mid = fun a' W' => a'.defers = [] ∧ KeepsFrom W0.heap.size W W' ∧ Tr.Keep1 (w.heap.size + 1 + 1 + 1) W W' ∧ Tr.VI E n D w.heap.size w (pre ++ [⟨(j : Int), hx1, hx2⟩]) W' := ⟨_, rfl⟩
      have HMid := hide' hMid
      clear hMid
      refine wpIn_mono (Q := Exit.then Mid (fun _ _ _ => False)) ?_ ?_
      · refine Tr.wpIn_round_held (S := S) (by kernel_rfl) (by kernel_rfl) (by rintro ⟨_, _, h⟩; exact h) hS0 (fun hHeld => ?_)
        simp only [List.size_toArray, List.length_cons, List.length_nil, Nat.reduceAdd]
        refine wpAnyH_take (i := 0) (v := .pointer (some ⟨D, 0, none⟩)) rfl (by kernel_rfl) (by kernel_rfl) (by kernel_rfl) (fun _ _ _ h => h) (Or.inl ⟨by rfl, ?y0⟩) (by assumption) ?_
        case y0 => (intro w' hSw; obtain ⟨q0, q1, q2, q3, q4⟩ := HSO.out w' hSw; go_simp)
        simp only [List.getElem_toArray, List.getElem_cons_zero, Act.put, List.setIfInBounds_toArray, List.set_cons_zero, List.set_cons_succ]
        refine wpAnyH_take (i := 1) (v := .pointer (some ⟨D, 0, none⟩)) rfl (by kernel_rfl) (by kernel_rfl) (by kernel_rfl) (fun _ _ _ h => h) (Or.inl ⟨by rfl, ?y1⟩) (by assumption) ?_
        case y1 => (intro w' hSw; obtain ⟨q0, q1, q2, q3, q4⟩ := HSO.out w' hSw; go_simp)
        simp only [List.getElem_toArray, List.getElem_cons_zero, List.getElem_cons_succ, Act.put, List.setIfInBounds_toArray, List.set_cons_zero, List.set_cons_succ]
        refine wpAnyH_take (i := 2) (v := .pointer (some ⟨D, 0, none⟩)) rfl (by kernel_rfl) (by kernel_rfl) (by kernel_rfl) (fun _ _ _ h => h) (Or.inl ⟨by rfl, ?y2⟩) (by assumption) ?_
        case y2 => (intro w' hSw; obtain ⟨q0, q1, q2, q3, q4⟩ := HSO.out w' hSw; go_simp)
        simp only [List.getElem_toArray, List.getElem_cons_zero, List.getElem_cons_succ, Act.put, List.setIfInBounds_toArray, List.set_cons_zero, List.set_cons_succ]
        refine wpAnyH_take (i := 3) (v := .slice (some ⟨L, 0, none⟩) n n) rfl (by kernel_rfl) (by kernel_rfl) (by kernel_rfl) (fun _ _ _ h => h) (Or.inl ⟨by rfl, ?y3⟩) (by assumption) ?_
        case y3 => (intro w' hSw; obtain ⟨q0, q1, q2, q3, q4⟩ := HSO.out w' hSw; go_simp)
        simp only [List.getElem_toArray, List.getElem_cons_zero, List.getElem_cons_succ, Act.put, List.setIfInBounds_toArray, List.set_cons_zero, List.set_cons_succ]
        refine wpAnyH_take (i := 4) (v := .pointer (some ⟨D, 0, none⟩)) rfl (by kernel_rfl) (by kernel_rfl) (by kernel_rfl) (fun _ _ _ h => h) (Or.inl ⟨by rfl, ?y4⟩) (by assumption) ?_
        case y4 => (intro w' hSw; obtain ⟨q0, q1, q2, q3, q4⟩ := HSO.out w' hSw; go_simp)
        simp only [List.getElem_toArray, List.getElem_cons_zero, List.getElem_cons_succ, Act.put, List.setIfInBounds_toArray, List.set_cons_zero, List.set_cons_succ]
        refine wpAnyH_take (i := 5) (v := .pointer (some ⟨D, 0, none⟩)) rfl (by kernel_rfl) (by kernel_rfl) (by kernel_rfl) (fun _ _ _ h => h) (Or.inl ⟨by rfl, ?y5⟩) (by assumption) ?_
        case y5 => (intro w' hSw; obtain ⟨q0, q1, q2, q3, q4⟩ := HSO.out w' hSw; go_simp)
        simp only [List.getElem_toArray, List.getElem_cons_zero, List.getElem_cons_succ, Act.put, List.setIfInBounds_toArray, List.set_cons_zero, List.set_cons_succ]
        refine wpAnyH_take (i := 6) (v := .pointer (some ⟨D, 1, none⟩)) rfl (by kernel_rfl) (by kernel_rfl) (by kernel_rfl) (fun _ _ _ h => h) (Or.inl ⟨by rfl, ?y6⟩) (by assumption) ?_
        case y6 => (intro w' hSw; obtain ⟨q0, q1, q2, q3, q4⟩ := HSO.out w' hSw; go_simp)
        simp only [List.getElem_toArray, List.getElem_cons_zero, List.getElem_cons_succ, Act.put, List.setIfInBounds_toArray, List.set_cons_zero, List.set_cons_succ]
        refine wpAnyH_take (i := 7) (v := .slice (some ⟨q, 0, none⟩) nd cap) rfl (by kernel_rfl) (by kernel_rfl) (by kernel_rfl) (fun _ _ _ h => h) (Or.inl ⟨by rfl, ?y7⟩) (by assumption) ?_
        case y7 => (intro w' hSw; obtain ⟨q0, q1, q2, q3, q4⟩ := HSO.out w' hSw; go_simp)
        simp only [List.getElem_toArray, List.getElem_cons_zero, List.getElem_cons_succ, Act.put, List.setIfInBounds_toArray, List.set_cons_zero, List.set_cons_succ]
        refine wpAnyH_take (i := 8) (v := .int .i64 (j : Nat)) rfl (by kernel_rfl) (by kernel_rfl) (by kernel_rfl) (fun _ _ _ h => h) (Or.inl ⟨by rfl, ?y8⟩) (by assumption) ?_
        case y8 => (intro w' hSw; obtain ⟨q0, q1, q2, q3, q4⟩ := HSO.out w' hSw; go_simp)
        simp only [List.getElem_toArray, List.getElem_cons_zero, List.getElem_cons_succ, Act.put, List.setIfInBounds_toArray, List.set_cons_zero, List.set_cons_succ]
        refine wpAnyH_take (i := 9) (v := .pointer (some ⟨q, j * 4, none⟩)) rfl (by kernel_rfl) (by kernel_rfl) (by kernel_rfl) (fun _ _ _ h => h) (Or.inl ⟨by rfl, ?y9⟩) (by assumption) ?_
        case y9 => (intro w' hSw; obtain ⟨q0, q1, q2, q3, q4⟩ := HSO.out w' hSw; go_simp)
        simp only [List.getElem_toArray, List.getElem_cons_zero, List.getElem_cons_succ, Act.put, List.setIfInBounds_toArray, List.set_cons_zero, List.set_cons_succ]
        refine wpAnyH_take (i := 10) (v := .pointer (some ⟨q, j * 4 + 2, none⟩)) rfl (by kernel_rfl) (by kernel_rfl) (by kernel_rfl) (fun _ _ _ h => h) (Or.inl ⟨by rfl, ?y10⟩) (by assumption) ?_
        case y10 => (intro w' hSw; obtain ⟨q0, q1, q2, q3, q4⟩ := HSO.out w' hSw; go_simp)
        simp only [List.getElem_toArray, List.getElem_cons_zero, List.getElem_cons_succ, Act.put, List.setIfInBounds_toArray, List.set_cons_zero, List.set_cons_succ]
        refine wpAnyH_take (i := 11) (v := .int .i64 (f : Nat)) rfl (by kernel_rfl) (by kernel_rfl) (by kernel_rfl) (fun _ _ _ h => h) (Or.inl ⟨by rfl, ?y11⟩) (by assumption) ?_
        case y11 => (intro w' hSw; obtain ⟨q0, q1, q2, q3, q4⟩ := HSO.out w' hSw; go_simp)
        simp only [List.getElem_toArray, List.getElem_cons_zero, List.getElem_cons_succ, Act.put, List.setIfInBounds_toArray, List.set_cons_zero, List.set_cons_succ]
        refine wpAnyH_take (i := 12) (v := .pointer (some ⟨L, f * 8, none⟩)) rfl (by kernel_rfl) (by kernel_rfl) (by kernel_rfl) (fun _ _ _ h => h) (Or.inl ⟨by rfl, ?y12⟩) (by assumption) ?_
        case y12 => (intro w' hSw; obtain ⟨q0, q1, q2, q3, q4⟩ := HSO.out w' hSw; go_simp)
        simp only [List.getElem_toArray, List.getElem_cons_zero, List.getElem_cons_succ, Act.put, List.setIfInBounds_toArray, List.set_cons_zero, List.set_cons_succ]
        refine wpAnyH_take (i := 13) (v := .pointer (some ⟨L, f * 8 + 5, none⟩)) rfl (by kernel_rfl) (by kernel_rfl) (by kernel_rfl) (fun _ _ _ h => h) (Or.inl ⟨by rfl, ?y13⟩) (by assumption) ?_
        case y13 => (intro w' hSw; obtain ⟨q0, q1, q2, q3, q4⟩ := HSO.out w' hSw; go_simp)
        simp only [List.getElem_toArray, List.getElem_cons_zero, List.getElem_cons_succ, Act.put, List.setIfInBounds_toArray, List.set_cons_zero, List.set_cons_succ]
        refine wpAnyH_take (i := 14) (v := .string (E f).tx) rfl (by kernel_rfl) (by kernel_rfl) (by kernel_rfl) (fun _ _ _ h => h) (Or.inl ⟨by rfl, ?y14⟩) (by assumption) ?_
        case y14 => (intro w' hSw; obtain ⟨q0, q1, q2, q3, q4⟩ := HSO.out w' hSw; go_simp)
        simp only [List.getElem_toArray, List.getElem_cons_zero, List.getElem_cons_succ, Act.put, List.setIfInBounds_toArray, List.set_cons_zero, List.set_cons_succ]
        refine wpAnyH_ready (rs := [15]) (by kernel_rfl) (by simp) ?_
        refine AllReadyH.cons rfl (fun K hK => ?_) AllReadyH.nil
        try simp only [List.getElem_toArray, List.getElem_cons_zero, List.getElem_cons_succ]
        go_simp
        refine CW.out.mono ?_
        rintro e W1 ⟨rfl, h2, b1, k1⟩
        have hm2 := HF.out W1 h2 b1 k1
        refine hK.out _ _ (HSB.out W1 b1) (fun hHeld => ?_)
        refine wpAnyH_done (by kernel_rfl) ?_ _
        show Mid _ _
        rw [HMid.out]
        exact ⟨rfl, hm2⟩
      · intro e a' W' he
        cases e with
        | normal =>
          have h9 : Mid a' W' := he
          rw [HMid.out] at h9
          exact h9.2
        | _ => exact he.elim
    · have h0' : ¬ (0 : Int) ≤ x := h0
      have htx : Tr.tx1 E n x = [] := by unfold Tr.tx1; rw [if_neg h0]
      have HT := hide' htx
      have HSN := hide' hsn
      clear htx hsn
      gi_wp2
      have e1 : Tr.vtx E n (Tr.vals (pre ++ [⟨x, hx1, hx2⟩])) = Tr.vtx E n (Tr.vals pre) := by rw [HSN.out, Tr.vtx_snoc, HT.out, List.append_nil]
      refine ⟨(KeepsOthers.refl _).from _, rfl, hI.below, hI.box, ?_, ?_, ?_, hI.big, hI.fin⟩
      · rw [e1]; exact hI.out
      · rw [e1]; have := hI.len; simp; omega
      · simp; omega
  case done =>
    rintro D' ys W hD rfl hI hK
    gi_wp2_with fail
    refine ⟨trivial, ?_⟩
    have hbig := hI.big
    refine (callsIn_wide.2 (Tryd.Builder_String_any_k (w.heap.size + 1) (w.heap.size + 1) _ W hI.out (by omega))).mono ?_
    rintro e W1 ⟨rfl, _, b1, k1⟩
    have hK1 : W1.heap[D']? = some (.deferred (some [])) := k1 D' _ hK (fun e => by cases e; omega) (fun c fz e => by cases e)
    gi_wp2
    refine ⟨by simp, .inl ⟨_, _, rfl, run_takeDeferred hK1, ?_⟩⟩
    exact ⟨_, results_tmp2 rfl _ _ _, by rw [← hb, ← Tr.vals_numS]; rfl, (hI.below.trans (b1.mono (Nat.le_succ _))).trans (belowK_b (w := w) (Nat.le_refl _) W1 D' _ _ (by omega) hK1 rfl rfl)⟩
  case stop =>
    rintro D c pre W _ _ h _
    exact h.elim
end Go.Proofs.YtcmjipgigkalcaaDoor
