/-
  THE WALK over tree.Build; a tree in memory.
-/
import Derived.Test.YtcmjipgigkalcaaDoorTrGrow
namespace Go.Proofs.YtcmjipgigkalcaaDoor
open Go.RowKit Go.Lib
namespace Tr
/-- the same but for where attributes lie -/
def Alike (n : Nat) (E E' : Nat → Ev Value) : Prop := ∀ i, i < n → E' i = { E i with av := (E' i).av }
theorem Alike.fields {n : Nat} {E E' : Nat → Ev Value} (h : Alike n E E') (i : Nat) (hi : i < n) : (E' i).kind = (E i).kind ∧ (E' i).num = (E i).num ∧ (E' i).dep = (E i).dep ∧ (E' i).nm = (E i).nm ∧ (E' i).ats = (E i).ats ∧ (E' i).tx = (E i).tx ∧ (E' i).fr = (E i).fr ∧ (E' i).be = (E i).be := by
  rw [h i hi]
  exact ⟨rfl, rfl, rfl, rfl, rfl, rfl, rfl, rfl⟩
theorem Alike.okB {n : Nat} {E E' : Nat → Ev Value} (h : Alike n E E') (i : Nat) (hi : i < n) : Tr.okB (E' i) = Tr.okB (E i) := by
  rw [h i hi]
  rfl
theorem Alike.drun {n : Nat} {E E' : Nat → Ev Value} (h : Alike n E E') : ∀ i, i ≤ n → Tr.drun Tr.okB E' i = Tr.drun Tr.okB E i
  | 0, _ => rfl
  | i + 1, hi => by
    unfold Tr.drun
    rw [h.drun i (by omega)]
    cases c : Tr.drun Tr.okB E i with
    | none => rfl
    | some s =>
      dsimp only
      obtain ⟨f1, f2, f3, f4, f5, f6, f7, f8⟩ := h.fields i (by omega)
      have hk : (E' (i - 1)).kind = (E (i - 1)).kind := (h.fields (i - 1) (by omega)).1
      unfold dstep
      rw [f1, f2, f3, h.okB i (by omega), hk]
      split
      · rfl
      split
      · rfl
      split
      · rfl
      split
      · cases hl : s.op.getLast? with
        | none => rfl
        | some o =>
          have ho : o < i := by
            have hgi := grun_inv i s c
            have hne : s.op ≠ [] := fun e => by rw [e] at hl; cases hl
            have hk : s.op[s.op.length - 1]? = some o := by rw [List.getLast?_eq_getElem?] at hl; exact hl
            obtain ⟨_, _, _, h3, _⟩ := hgi.opn _ o hk
            exact h3
          obtain ⟨g1, g2, g3, g4, g5, g6, g7, g8⟩ := h.fields o (by omega)
          dsimp only
          unfold closes
          rw [f2, f3, f4, f5, f6, g2, g3, g4]
      · rfl
theorem Alike.doc {n : Nat} {E E' : Nat → Ev Value} (h : Alike n E E') : Tr.doc Tr.okB E' n = Tr.doc Tr.okB E n := by
  unfold Tr.doc
  rw [h.drun n (Nat.le_refl _)]
theorem Alike.grun {n : Nat} {E E' : Nat → Ev Value} (h : Alike n E E') : ∀ i, i ≤ n → Tr.grun E' i = Tr.grun E i
  | 0, _ => rfl
  | i + 1, hi => by
    unfold Tr.grun
    rw [h.grun i (by omega)]
    obtain ⟨f1, f2, _⟩ := h.fields i (by omega)
    unfold gstep
    rw [f1, f2]
/-- a tree in memory: all of it lies from the block B on -/
structure TreeR (W : World) (B D n : Nat) (E : Nat → Ev Value) (L q cap nd : Nat) : Prop where
  blk : W.heap[D]? = some (.cells #[.slice (some ⟨L, 0, none⟩) n n, .slice (some ⟨q, 0, none⟩) nd cap] 61 (0, 0))
  evs : Evs W (.slice (some ⟨L, 0, none⟩) n n) n E
  row : W.ownsRow B 65 4 (.slice (some ⟨q, 0, none⟩) nd cap) nd (ncs (grun E n).ns)
  shp : Shape E (grun E n) nd n
  lowD : B ≤ D
  lowL : B ≤ L
  lowA : ∀ i, i < n → ∀ g, (E i).av.ownBlock = some g → B ≤ g
theorem TreeR.c0 {W : World} {B D n : Nat} {E : Nat → Ev Value} {L q cap nd : Nat} (h : TreeR W B D n E L q cap nd) : W.cell? ⟨D, 0, none⟩ = some (.slice (some ⟨L, 0, none⟩) n n) := by rw [Lib.cell_of_heap h.blk]; rfl
theorem TreeR.c1 {W : World} {B D n : Nat} {E : Nat → Ev Value} {L q cap nd : Nat} (h : TreeR W B D n E L q cap nd) : W.cell? ⟨D, 1, none⟩ = some (.slice (some ⟨q, 0, none⟩) nd cap) := by rw [Lib.cell_of_heap h.blk]; rfl
theorem TreeR.lbk {W : World} {B D n : Nat} {E : Nat → Ev Value} {L q cap nd : Nat} (h : TreeR W B D n E L q cap nd) (h0 : 0 < n) : L < W.heap.size ∧ ∃ o, W.heap[L]? = some o := by
  obtain ⟨b1, o1, cap1, e1, _, _, kc⟩ := h.evs.row.at h0
  cases e1
  have h1 := block_lt_of_cell (kc 0 h0).1
  exact ⟨h1, _, Array.getElem?_eq_getElem h1⟩
theorem TreeR.node {W : World} {B D n : Nat} {E : Nat → Ev Value} {L q cap nd : Nat} (h : TreeR W B D n E L q cap nd) {k : Nat} (hk : k < nd) : W.cell? ⟨q, k * 4, none⟩ = some (.int .i64 ((grun E n).nth k).par) ∧ W.cell? ⟨q, k * 4 + 1, none⟩ = some (.int .i64 ((grun E n).nth k).beh) ∧ W.cell? ⟨q, k * 4 + 2, none⟩ = some (.int .i64 ((grun E n).nth k).fst) ∧ W.cell? ⟨q, k * 4 + 3, none⟩ = some (.int .i64 ((grun E n).nth k).fin) := by
  have hl := h.shp.len
  have hd : (grun E n).ns[k]? = some ((grun E n).nth k) := by
    unfold Gs.nth
    rw [List.getElem?_eq_getElem (by omega)]
    rfl
  have cel : ∀ j u, j < 4 → (Nd.cs ((grun E n).nth k))[j]? = some u → W.cell? ⟨q, k * 4 + j, none⟩ = some u := fun j u hj hu => by
    have h1 := h.row.cells (g := q) rfl (k * 4 + j) u (by rw [ncs_get _ _ _ _ hd hj]; exact hu)
    rw [Go.WideShapes.add_plain, Nat.zero_add] at h1
    exact h1
  exact ⟨cel 0 _ (by omega) rfl, cel 1 _ (by omega) rfl, cel 2 _ (by omega) rfl, cel 3 _ (by omega) rfl⟩
theorem TreeR.keep {W W' : World} {B D n : Nat} {E : Nat → Ev Value} {L q cap nd : Nat} (h : TreeR W B D n E L q cap nd) (hk : ∀ k, B ≤ k → k < W.heap.size → W'.heap[k]? = W.heap[k]?) : TreeR W' B D n E L q cap nd := by
  have kc : ∀ (a : Addr) (u : Value), W.cell? a = some u → B ≤ a.block → W'.cell? a = some u := fun a u hu hB => (World.cell?_of_block (hk a.block hB (block_lt_of_cell hu))).trans hu
  refine ⟨(hk D h.lowD (Array.getElem?_eq_some_iff.1 h.blk).1).trans h.blk, ⟨h.evs.row.keep fun a u hu ha => kc a u hu ?_, fun i hi => (h.evs.att i hi).keep fun a u hu ha => kc a u hu (h.lowA i hi _ ha.symm)⟩, ?_, h.shp, h.lowD, h.lowL, h.lowA⟩
  · have : a.block = L := Option.some.inj ha
    have := h.lowL
    omega
  · refine ⟨h.row.1, ?_⟩
    rcases h.row.2 with h1 | ⟨g, c, cur, hv, hb1, hg, rest⟩
    · exact .inl h1
    · exact .inr ⟨g, c, cur, hv, hb1, (hk g hb1 (Array.getElem?_eq_some_iff.1 hg).1).trans hg, rest⟩
theorem TreeR.below {W W' : World} {B D n : Nat} {E : Nat → Ev Value} {L q cap nd : Nat} (h : TreeR W B D n E L q cap nd) (hb : Below W.heap.size W W') : TreeR W' B D n E L q cap nd := h.keep fun k _ hk => hb.block k hk
/-- what Build answers -/
def BuildE (E : Nat → Ev Value) (n : Nat) (w : World) (r : Ending) (w' : World) : Prop :=
  Below w.heap.size w w' ∧ ((doc okB E n = false ∧ r = .returned (.tuple #[.pointer none, .int .i64 6])) ∨
    (doc okB E n = true ∧ ∃ D E' L q cap nd, r = .returned (.tuple #[.pointer (some ⟨D, 0, none⟩), .int .i64 0]) ∧ Alike n E E' ∧ TreeR w' w.heap.size D n E' L q cap nd))
end Tr
set_option maxHeartbeats 1000000 in
theorem trBuild (v : Value) (n : Nat) (E : Nat → Tr.Ev Value) (w : World) (hE : Tr.Evs w v n E) (hs : ∀ i, i < n → Tr.Small (E i)) (hn : n ≤ 1466015503658) (hS : Spans w) (hT : Lib.Utf8Tabs 1 2 w) :
    Calls Tryd.prog 6 #[v] w fun r w' => Tr.BuildE E n w r w' := by
  have cD := trAreDocument v n E w hE hs hn hS hT
  have cC : ∀ w1, Below w.heap.size w w1 → _ := fun w1 hb => trCopyAll v n E w1 (hE.below hb (Nat.le_refl _)) hs hn
  cases hd : Tr.doc Tr.okB E n with
  | false =>
    rw [hd] at cD
    have HD := hide' hd
    clear hd cC
    go_enter Tryd.func6, Tryd.ntmps6
    go_wp2_with fail
    refine cD.mono ?_
    rintro r w1 ⟨rfl, hb1⟩
    go_wp2_with fail
    go_ret2
    exact ⟨hb1, .inl ⟨HD.out, rfl⟩⟩
  | true =>
    rw [hd] at cD
    have HD := hide' hd
    have CC := hide' cC
    clear hd cC
    go_enter Tryd.func6, Tryd.ntmps6
    go_wp2_with fail
    refine cD.mono ?_
    rintro r w1 ⟨rfl, hb1⟩
    have HB1 := hide' hb1
    clear hb1 cD
    go_wp2_with fail
    refine (CC.out w1 HB1.out).mono ?_
    rintro r w2 ⟨L, E', rfl, hC⟩
    have hA : Tr.Alike n E E' := fun i hi => hC.eq i hi
    have cG := trGrow (.slice (some ⟨L, 0, none⟩) n n) n E' w2 (hC.evs hn) (by rw [hA.doc]; exact HD.out) hn
    have HC := hide' hC
    have HA := hide' hA
    have CG := hide' cG
    clear hC hA cG CC
    go_wp2_with fail
    refine CG.out.mono ?_
    rintro r w3 ⟨rfl, nv, hG⟩
    have HG := hide' hG
    clear hG CG
    go_wp2_with fail
    go_ret2
    have hB2 : Below w.heap.size w w2 := HB1.out.trans (HC.out.bel.mono HB1.out.size)
    have hlow : w.heap.size ≤ w2.heap.size := hB2.size
    have hB3 : Below w.heap.size w w3 := hB2.trans (HG.out.bel.mono hlow)
    obtain ⟨nd, _, hsh⟩ := Tr.doc_shape (show Tr.doc Tr.okB E' n = true by rw [HA.out.doc]; exact HD.out)
    have hrow := HG.out.row
    rw [hsh.len] at hrow
    obtain ⟨p, cap, rfl, _, _, h3, _⟩ := Tr.owns_sl hrow
    obtain ⟨q, rfl⟩ := h3 hsh.pos
    have hl1 := HB1.out.size
    have hl2 := HC.out.low
    refine ⟨hB3, .inr ⟨HD.out, w2.heap.size, E', L, q, cap, nd, rfl, HA.out, HG.out.blk, (HC.out.evs hn).below HG.out.bel (Nat.le_refl _), ?_, hsh, hlow, by omega, fun i hi g hg => ?_⟩⟩
    · refine ⟨hrow.1, ?_⟩
      rcases hrow.2 with h1 | ⟨g, c, cur, hv, hb1, rest⟩
      · exact .inl h1
      · exact .inr ⟨g, c, cur, hv, by omega, rest⟩
    · have := (HC.out.att i hi).2 g hg
      omega
end Go.Proofs.YtcmjipgigkalcaaDoor
