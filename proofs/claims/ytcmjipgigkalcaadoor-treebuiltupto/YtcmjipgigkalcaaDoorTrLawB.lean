import Derived.Test.YtcmjipgigkalcaaDoorTrLawBM
import Derived.Test.YtcmjipgigkalcaaDoorTrBeg
import Derived.Test.YtcmjipgigkalcaaDoorTrNodes
import Derived.Test.YtcmjipgigkalcaaDoorTrSame
import Derived.Test.YtcmjipgigkalcaaDoorTrCopied
import Derived.Test.YtcmjipgigkalcaaDoorTrAlong
import Derived.BigGuard
import Derived.Deep.RegionHeld
/-
  What lies there while TreeBuilt is walked: the tree, the document's nodes; the calls of both at a number.
-/
namespace Go.Proofs.YtcmjipgigkalcaaDoor
open Go.RowKit Go.Shelf Go.Lib
namespace Tr
/-- what the document's nodes say, by the tree -/
structure RD (E E2 : Nat → Ev Value) (n nd : Nat) (RL : Nat → RN) : Prop where
  par : ∀ m, m < nd → (RL m).par = ((grun E2 n).nth m).par
  last : ∀ m, m < nd → (RL m).last = ((grun E2 n).nth m).beh - 1
  at_ : ∀ m, m < nd → (RL m).at_ = ((grun E2 n).nth m).fst
  clo : ∀ m, m < nd → (RL m).clo = ((grun E2 n).nth m).fin - 1
  ev : ∀ m, m < nd → (RL m).ev = E ((grun E2 n).nth m).fst.toNat
  val : ∀ m : Nat, m < nd → (RL m).val = ⟨(vtx E2 n (numL m (bh E2 n nd m))).toArray⟩
  top : (RL 0).val = ⟨(vtx E2 n (numL (-1) nd)).toArray⟩
  fst : ((grun E2 n).nth 0).fst = 0
  fin : ((grun E2 n).nth 0).fin = n
theorem nd_same {E E2 : Nat → Ev Value} {n : Nat} (hd : doc okB E n = true) (ha : Alike n E E2) {W : World} {B D L q cap nd : Nat} (h : TreeR W B D n E2 L q cap nd) : (rrun E n).nd = nd := by
  obtain ⟨nd', s1, e1, _⟩ := rrun_doc hd
  have h1 := s1.len
  have h2 := h.shp.len
  rw [ha.grun n (Nat.le_refl _)] at h2
  omega
theorem rd_of {E E2 : Nat → Ev Value} {n : Nat} (hd : doc okB E n = true) (ha : Alike n E E2) {W : World} {B D L q cap nd : Nat} (h : TreeR W B D n E2 L q cap nd) (RL : Nat → RN) (hRL : RL = fun j => rnd E ((rrun E n).L j)) : RD E E2 n nd RL := by
  obtain ⟨nd', s1, e1, hm⟩ := rrun_doc hd
  obtain rfl : nd' = nd := by rw [← e1]; exact nd_same hd ha h
  have hg := ha.grun n (Nat.le_refl _)
  have hR := doc_root hd
  have hval : ∀ m : Nat, m < nd' → (RL m).val = ⟨(vtx E2 n (numL m (bh E2 n nd' m))).toArray⟩ := fun m h0 => by
    obtain ⟨_, _, _, _, hv⟩ := hm m h0
    obtain ⟨b, z, hb, _, _, _, hmb, hbn, _⟩ := s1.beh m h0
    have e2 : bh E2 n nd' (m : Int) = b := by unfold bh; rw [if_neg (by omega), Int.toNat_natCast, hg]; exact hb
    have hk : b = m + (b - m) := by omega
    rw [hRL]
    show (⟨((rrun E n).L m).val.toArray⟩ : ByteArray) = _
    rw [hv, hb, e2, Int.toNat_natCast, hk]
    rw [vtx_txs E E2 n (fa (grun E n)) m (b - m) fun x h1 h2 => ?_]
    obtain ⟨f, hf, hfn, _⟩ := s1.evt x (by omega)
    rw [hg, hf]
    unfold fa
    rw [hf, Int.toNat_natCast]
    exact ⟨rfl, (ha.fields f hfn).2.2.2.2.2.1⟩
  refine ⟨fun m h0 => ?_, fun m h0 => ?_, fun m h0 => ?_, fun m h0 => ?_, fun m h0 => ?_, hval, ?_, ?_, ?_⟩
  · rw [hRL, hg]; exact (hm m h0).1
  · rw [hRL, hg]; exact (hm m h0).2.2.2.1
  · rw [hRL, hg]; exact (hm m h0).2.1
  · rw [hRL, hg]; exact (hm m h0).2.2.1
  · rw [hRL, hg]
    show E ((rrun E n).L m).at_.toNat = _
    rw [(hm m h0).2.1]
  · rw [hval 0 s1.pos]
    have e2 : bh E2 n nd' ((0 : Nat) : Int) = nd' := by unfold bh; rw [if_neg (by omega), Int.toNat_natCast, hg]; exact s1.root.1
    rw [e2, numL_step (a := -1) (by omega)]
    show _ = (⟨(tx1 E2 n (-1) ++ vtx E2 n (numL (-1 + 1) nd')).toArray⟩ : ByteArray)
    unfold tx1
    rw [if_neg (by decide), List.nil_append]
    rfl
  · rw [hg]; exact hR.1
  · rw [hg]; exact hR.2
/-- Beginning, of a document's events and of others -/
theorem beg_yes {E : Nat → Ev Value} {n : Nat} (h : doc okB E n = true) : begA E n = .tuple #[.bool true, .int .i64 0, .bool true] := by
  obtain ⟨nd, h1, h2⟩ := doc_shape h
  have := h2.pos
  have := h2.ndn
  unfold begA
  rw [h1]
  dsimp only
  rw [decide_eq_true (by omega)]
  rfl
theorem beg_no {E : Nat → Ev Value} {n : Nat} (h : doc okB E n = false) : (∃ x : Int, begA E n = .tuple #[.bool false, .int .i64 x, .bool false]) ∨ ∃ x : Int, begA E n = .tuple #[.bool true, .int .i64 x, .bool false] := by
  unfold begA
  unfold doc at h
  rcases hr : drun okB E n with _ | s
  · exact .inl ⟨0, rfl⟩
  · rw [hr] at h
    dsimp only at h ⊢
    refine .inr ⟨s.op.length, ?_⟩
    have : (decide (0 < n) && decide (s.op.length = 0)) = false := by
      rw [Bool.and_eq_false_iff] at h ⊢
      rcases h with h | h
      · cases n with
        | zero => exact .inl rfl
        | succ n =>
          have h1 := (grun_fst n s hr).2
          have h2 := (grun_inv (n + 1) s hr).len
          rw [decide_eq_false_iff_not] at h
          omega
      · right
        rw [decide_eq_false_iff_not]
        intro e
        rw [List.eq_nil_of_length_eq_zero e] at h
        cases h
    rw [this]
theorem atRow_nil (W : World) : AtRow W (.slice none 0 0) [] := ⟨none, 0, rfl, Nat.le_refl _, by omega, fun _ => rfl, fun h => absurd h (by simp)⟩
theorem Alike.trans9 {n : Nat} {E E' E'' : Nat → Ev Value} (h : Alike n E E') (k : Alike n E' E'') : Alike n E E'' := fun i hi => by
  have h1 := k i hi
  rw [h i hi] at h1
  exact h1
/-- what lies there -/
structure TB (w : World) (v : Value) (n : Nat) (E : Nat → Ev Value) (B D : Nat) (E2 : Nat → Ev Value) (L q cap nd : Nat) (lv : Value) (RL : Nat → RN) (W : World) : Prop where
  bel : Below w.heap.size w W
  evs : Evs w v n E
  al : Alike n E E2
  tr : TreeR W B D n E2 L q cap nd
  nr : NRow W lv nd RL
  ti : ∀ i, i < n → Tiny (E i)
  nn : n ≤ 1048576
  eb : ∀ i, i < n → (evB (E i)).length ≤ 16777216
  rd : RD E E2 n nd RL
theorem TB.go {w : World} {v : Value} {n : Nat} {E : Nat → Ev Value} {B D : Nat} {E2 : Nat → Ev Value} {L q cap nd : Nat} {lv : Value} {RL : Nat → RN} {W W' : World} (h : TB w v n E B D E2 L q cap nd lv RL W) (hb : Below W.heap.size W W') : TB w v n E B D E2 L q cap nd lv RL W' :=
  ⟨h.bel.trans (hb.mono h.bel.size), h.evs, h.al, h.tr.below hb, h.nr.below hb (Nat.le_refl _), h.ti, h.nn, h.eb, h.rd⟩
theorem TB.ti2 {w : World} {v : Value} {n : Nat} {E : Nat → Ev Value} {B D : Nat} {E2 : Nat → Ev Value} {L q cap nd : Nat} {lv : Value} {RL : Nat → RN} {W : World} (h : TB w v n E B D E2 L q cap nd lv RL W) : ∀ i, i < n → Tiny (E2 i) := fun i hi => by
  rw [h.al i hi]
  exact h.ti i hi
/-- a node's text, its form -/
def valK (RL : Nat → RN) (k : Int) : ByteArray := (RL k.toNat).val
def frmK (E : Nat → Ev Value) (RL : Nat → RN) (k : Int) : ByteArray := ⟨(evsF E (RL k.toNat).at_.toNat ((RL k.toNat).clo + 1 - (RL k.toNat).at_).toNat).toArray⟩
end Tr
section
variable {w : World} {v : Value} {n : Nat} {E : Nat → Tr.Ev Value} {B D : Nat} {E2 : Nat → Tr.Ev Value} {L q cap nd : Nat} {lv : Value} {RL : Nat → Tr.RN} {W : World}
theorem Tr.TB.value (h : Tr.TB w v n E B D E2 L q cap nd lv RL W) (k : Int) (h0 : -1 ≤ k) (h1 : k < nd) :
    Calls Tryd.prog 15 #[.pointer (some ⟨D, 0, none⟩), .int .i64 k] W fun r w' => r = .returned (.tuple #[.string (Tr.valK RL k), .int .i64 0]) ∧ Below W.heap.size W w' := by
  have c := trValue W B D n E2 L q cap nd h.tr h.ti2 h.nn k h0 h1
  have e : Tr.valK RL k = ⟨(Tr.vtx E2 n (Tr.numL k (Tr.bh E2 n nd k))).toArray⟩ := by
    unfold Tr.valK
    by_cases hk : k < 0
    · obtain rfl : k = -1 := by omega
      have hb : Tr.bh E2 n nd (-1) = nd := by unfold Tr.bh; rw [if_pos (by decide)]
      rw [hb]
      exact h.rd.top
    · obtain ⟨j, rfl⟩ : ∃ j : Nat, k = j := ⟨k.toNat, by omega⟩
      rw [Int.toNat_natCast]
      exact h.rd.val j (by omega)
  rw [e]
  exact c
theorem Tr.TB.refValue (h : Tr.TB w v n E B D E2 L q cap nd lv RL W) (k : Int) (h1 : k < nd) :
    Calls Tryd.prog 17 #[lv, .int .i64 k] W fun r w' => r = .returned (.string (Tr.valK RL k)) ∧ Below W.heap.size W w' :=
  refValue9 lv nd RL W k h.nr h.tr.shp.pos h1
theorem Tr.TB.place (h : Tr.TB w v n E B D E2 L q cap nd lv RL W) (j : Nat) (hj : j < nd) : ∃ f z : Nat, ((Tr.grun E2 n).nth j).fst = f ∧ ((Tr.grun E2 n).nth j).fin = z ∧ f < z ∧ z ≤ n ∧ (RL j).at_ = f ∧ (RL j).clo = (f : Int) + ((z - f : Nat) : Int) - 1 ∧ Tr.frmK E RL (j : Nat) = ⟨(Tr.evsF E f (z - f)).toArray⟩ := by
  obtain ⟨f, hf, _⟩ := h.tr.shp.evt j hj
  obtain ⟨b, z, _, hz, hfz, hzn, _⟩ := h.tr.shp.beh j hj
  rw [hf] at hfz
  have e1 := h.rd.at_ j hj
  have e2 := h.rd.clo j hj
  rw [hf] at e1
  rw [hz] at e2
  have hlt : f < z := by omega
  refine ⟨f, z, hf, hz, hlt, hzn, e1, by rw [e2]; omega, ?_⟩
  unfold Tr.frmK
  rw [Int.toNat_natCast, e1, e2, Int.toNat_natCast, show ((z : Int) - 1 + 1 - (f : Int)).toNat = z - f by omega]
theorem Tr.TB.print (h : Tr.TB w v n E B D E2 L q cap nd lv RL W) (k : Int) (h0 : -1 ≤ k) (h1 : k < nd) :
    Calls Tryd.prog 16 #[.pointer (some ⟨D, 0, none⟩), .int .i64 k] W fun r w' => r = .returned (.tuple #[.string (Tr.frmK E RL k), .int .i64 0]) ∧ Below W.heap.size W w' := by
  have hnn := h.nn
  by_cases hk : k < 0
  · obtain rfl : k = -1 := by omega
    obtain ⟨f, z, hf, hz, hfz, hzn, _, _, hfr⟩ := h.place 0 h.tr.shp.pos
    have e1 := h.rd.fst
    have e2 := h.rd.fin
    obtain rfl : f = 0 := by omega
    obtain rfl : z = n := by omega
    have hlen := Tr.evsF_len h.eb 0 z (by omega)
    have c := trPrintAll W B D z E2 L q cap nd h.tr h.ti2 h.nn (by rw [← Tr.evsF_zero, Tr.evsF_alike h.al 0 z (by omega)]; omega)
    rw [← Tr.evsF_zero, Tr.evsF_alike h.al 0 z (by omega)] at c
    have e : Tr.frmK E RL (-1) = Tr.frmK E RL ((0 : Nat) : Int) := rfl
    rw [e, hfr]
    exact c
  · obtain ⟨j, rfl⟩ : ∃ j : Nat, k = j := ⟨k.toNat, by omega⟩
    obtain ⟨f, z, hf, hz, hfz, hzn, _, _, hfr⟩ := h.place j (by omega)
    have hlen := Tr.evsF_len h.eb f (z - f) (by omega)
    have c := trPrintN W B D n E2 L q cap nd h.tr h.ti2 h.nn j f z (by omega) hf hz hfz hzn (by rw [Tr.evsF_alike h.al f (z - f) (by omega)]; omega)
    rw [Tr.evsF_alike h.al f (z - f) (by omega)] at c
    rw [hfr]
    exact c
theorem Tr.kinds9 (hd : Tr.doc Tr.okB E n = true) : ∀ i, i < n → 0 ≤ (E i).kind ∧ (E i).kind ≤ 2 := fun i hi => by
  obtain ⟨s, hs⟩ := Tr.doc_all hd i (by omega)
  obtain ⟨s', hs'⟩ := Tr.doc_all hd (i + 1) hi
  unfold Tr.drun at hs'
  rw [hs] at hs'
  dsimp only at hs'
  unfold Tr.dstep at hs'
  split at hs'
  · cases hs'
  split at hs'
  · next h0 => omega
  split at hs'
  · next h0 => omega
  split at hs'
  · next h0 => omega
  · cases hs'
theorem Tr.TB.refForm (h : Tr.TB w v n E B D E2 L q cap nd lv RL W) (hd : Tr.doc Tr.okB E n = true) (k : Int) (h1 : k < nd) :
    Calls Tryd.prog 18 #[v, lv, .int .i64 k] W fun r w' => r = .returned (.string (Tr.frmK E RL k)) ∧ Below W.heap.size W w' := by
  have hnn := h.nn
  have hj : k.toNat < nd := by have := h.tr.shp.pos; omega
  obtain ⟨f, z, hf, hz, hfz, hzn, ha, hc, hfr⟩ := h.place k.toNat hj
  have hlen := Tr.evsF_len h.eb f (z - f) (by omega)
  have c := refForm9 v n E lv nd RL W k f (z - f) h.nr h.tr.shp.pos h1 ha hc (h.evs.below h.bel (Nat.le_refl _)) h.ti (Tr.kinds9 hd) h.nn (by omega) (by omega)
  have e : Tr.frmK E RL k = Tr.frmK E RL (k.toNat : Nat) := by unfold Tr.frmK; rw [Int.toNat_natCast]
  rw [e, hfr]
  exact c
theorem Tr.TB.along (h : Tr.TB w v n E B D E2 L q cap nd lv RL W) (hn : nd ≤ 900) (k ax : Int) :
    Calls Tryd.prog 20 #[.pointer (some ⟨D, 0, none⟩), .int .i64 k, .int .i64 ax] W fun e w' => Tr.AlE W (Tr.alL E2 n nd k ax) e w' := trAlongAll W B D n E2 L q cap nd h.tr hn k ax
theorem Tr.TB.refAlong (h : Tr.TB w v n E B D E2 L q cap nd lv RL W) (hn : nd ≤ 900) (k ax : Int) :
    Calls Tryd.prog 21 #[lv, .int .i64 k, .int .i64 ax] W fun r w' => ∃ u, r = .returned u ∧ Tr.IO w' W.heap.size u (Tr.alL E2 n nd k ax) ∧ Below W.heap.size W w' := refAlongAll lv nd n E2 RL W h.nr h.tr.shp hn h.rd.par h.rd.last k ax
theorem Tr.TB.len (h : Tr.TB w v n E B D E2 L q cap nd lv RL W) (hn : nd ≤ 900) (k ax : Int) : (Tr.alL E2 n nd k ax).length ≤ 2000 := by
  unfold Tr.alL
  split
  · simp
  next hk =>
  have hu := Tr.bh_up h.tr.shp (x := k) (by omega) (by omega)
  split
  · rw [← Tr.chL_filter h.tr.shp (by omega) (by omega)]
    refine Nat.le_trans (List.length_filter_le _ _) ?_
    rw [Tr.numL_length]
    omega
  split
  · rw [Tr.numL_length]; omega
  split
  · rw [Tr.numL_length]; omega
  split
  · simp
  · simp
/-- the node's cells in the document's row -/
theorem Tr.TB.lpar {bl ol capl : Nat} (h : Tr.TB w v n E B D E2 L q cap nd (.slice (some ⟨bl, ol, none⟩) nd capl) RL W) {j : Nat} (hj : j < nd) : W.cell? ⟨bl, ol + j * 13 + 8, none⟩ = some (.int .i64 ((Tr.grun E2 n).nth j).par) := by
  obtain ⟨p, c, e, _, _, c3⟩ := h.nr
  cases e
  obtain ⟨b, o, e2, c4⟩ := c3 (by omega)
  cases e2
  rw [← h.rd.par j hj]
  exact c4 j 8 _ hj rfl
theorem Tr.TB.lev {bl ol capl : Nat} (h : Tr.TB w v n E B D E2 L q cap nd (.slice (some ⟨bl, ol, none⟩) nd capl) RL W) {j f : Nat} (hj : j < nd) (hf : ((Tr.grun E2 n).nth j).fst = f) : W.rangeAt bl (ol + j * 13) (E f).cs.toList := by
  obtain ⟨p, c, e, _, _, c3⟩ := h.nr
  cases e
  obtain ⟨b, o, e2, c4⟩ := c3 (by omega)
  cases e2
  have he : (RL j).ev = E f := by rw [h.rd.ev j hj, hf, Int.toNat_natCast]
  intro k u hk
  rw [← he] at hk
  have h8 : k < 8 := (List.getElem?_eq_some_iff.1 hk).1
  refine c4 j k u hj ?_
  match k, h8, hk with
  | 0, _, hk | 1, _, hk | 2, _, hk | 3, _, hk | 4, _, hk | 5, _, hk | 6, _, hk | 7, _, hk => exact hk
theorem Tr.TB.lat {pl : Option Addr} {capl : Nat} (h : Tr.TB w v n E B D E2 L q cap nd (.slice pl nd capl) RL W) : ∃ bl ol, pl = some ⟨bl, ol, none⟩ := by
  obtain ⟨p, c, e, _, _, c3⟩ := h.nr
  cases e
  obtain ⟨b, o, e2, _⟩ := c3 h.tr.shp.pos
  exact ⟨b, o, e2⟩
end
end Go.Proofs.YtcmjipgigkalcaaDoor
/-
  THE WALK over gimletlaw09.TreeBuilt. (Made by gen_lawb.py.)
-/
namespace Go.Proofs.YtcmjipgigkalcaaDoor
open Go.RowKit Go.Shelf Go.Lib
set_option maxRecDepth 100000 in
set_option maxHeartbeats 8000000 in
theorem lawBuilt (v : Value) (n : Nat) (E : Nat → Tr.Ev Value) (w : World) (hE : Tr.Evs w v n E) (hs : ∀ i, i < n → Tr.Tiny (E i)) (hn : n ≤ 1048576) (hb : ∀ i, i < n → (Tr.evB (E i)).length ≤ 16777216) (hS : Spans w) (hT : Lib.Utf8Tabs 1 2 w) :
    Calls Tryd.prog 3 #[v] w fun r w' => r = .returned (.bool true) ∧ Below w.heap.size w w' := by
  have HE := hide' hE
  have HS := hide' hS
  have HT := hide' hT
  have HTI := hide' hs
  have HSM := hide' (fun i hi => (hs i hi).small)
  have HBB := hide' hb
  have C1 := hide' (trAwake w hS hT)
  clear hE hS hT hs hb
  go_enter Tryd.func3, Tryd.ntmps3
  go_wp2_with fail
  refine C1.out.mono ?_
  rintro e w1 ⟨rfl, hb1⟩
  have H1 := hide' hb1
  clear hb1 C1
  have C2 := hide' (trCopied v n E w1 (HE.out.below H1.out (Nat.le_refl _)) HSM.out (by omega))
  go_wp2_with fail
  refine C2.out.mono ?_
  rintro e w2 ⟨L0, E1, rfl, hc⟩
  have HC := hide' hc
  have H2 := hide' (H1.out.trans (hc.bel.mono H1.out.size))
  have HAL : Hid (Tr.Alike n E E1) := fun i hi => hc.eq i hi
  clear hc C2 H1
  have C2 := hide' (trBuild _ n E1 w2 (HC.out.evs (by omega)) (HAL.out.small HSM.out) (by omega) (HS.out.below H2.out (Nat.le_refl _)) (tabs_below HT.out H2.out (Nat.le_refl _)))
  go_wp2_with fail
  refine C2.out.mono ?_
  rintro e w3 ⟨hb3, hb3'⟩
  have H3 := hide' (H2.out.trans (hb3.mono H2.out.size))
  have CB := hide' (refBeginning9 v n E w3 (HE.out.below H3.out (Nat.le_refl _)) HTI.out hn)
  have H23 := hide' hb3
  clear C2 hb3
  rcases hb3' with ⟨hd, rfl⟩ | ⟨hd, D, E2, Lz, q, cap, nd, rfl, hal2, hR⟩
  · rw [HAL.out.doc] at hd
    have hbeg : (∃ x : Int, Tr.begA E n = .tuple #[.bool false, .int .i64 x, .bool false]) ∨ ∃ x : Int, Tr.begA E n = .tuple #[.bool true, .int .i64 x, .bool false] := Tr.beg_no hd
    have CA : Hid (∀ W, Below w3.heap.size w3 W → _) := fun W hW => trAll _ v n E1 E W ((HC.out.evs (by omega)).below (H23.out.trans (hW.mono H23.out.size)) (Nat.le_refl _)) (HE.out.below (H3.out.trans (hW.mono H3.out.size)) (Nat.le_refl _)) HAL.out.symm
    rcases hbeg with ⟨x, hx⟩ | ⟨x, hx⟩
    all_goals
      rw [hx] at CB
      clear hx hd
      go_wp2_with fail
      refine CB.out.mono ?_
      rintro e w4 ⟨rfl, hb4⟩
      have H4 := hide' hb4
      clear hb4 CB
      go_wp2_with fail
      refine (CA.out w4 H4.out).mono ?_
      rintro e w5 ⟨rfl, hb5⟩
      have H5 := hide' ((H3.out.trans (H4.out.mono H3.out.size)).trans (hb5.mono (Nat.le_trans H3.out.size H4.out.size)))
      clear hb5 CA
      go_wp2_with fail
      go_ret
      exact ⟨rfl, H5.out⟩
  rw [HAL.out.doc] at hd
  have HD := hide' hd
  have HAL2 : Hid (Tr.Alike n E E2) := fun i hi => by
    have h1 := hal2 i hi
    rw [HAL.out i hi] at h1
    exact h1
  have CA : Hid (∀ W, Below w3.heap.size w3 W → _) := fun W hW => trAll _ v n E1 E W ((HC.out.evs (by omega)).below (H23.out.trans (hW.mono H23.out.size)) (Nat.le_refl _)) (HE.out.below (H3.out.trans (hW.mono H3.out.size)) (Nat.le_refl _)) HAL.out.symm
  have CNO : Hid (∀ W, Below w.heap.size w W → _) := fun W hW => refNodes9 v n E W (HE.out.below hW (Nat.le_refl _)) HTI.out hn HD.out
  rw [Tr.beg_yes hd] at CB
  have HR := hide' hR
  clear hd hal2 hR HAL
  go_wp2_with fail
  refine CB.out.mono ?_
  rintro e w4 ⟨rfl, hb4⟩
  have H4 := hide' hb4
  clear hb4 CB
  go_wp2_with fail
  refine (CA.out w4 H4.out).mono ?_
  rintro e w5 ⟨rfl, hb5⟩
  have H35 := hide' (H4.out.trans (hb5.mono H4.out.size))
  have H5 := hide' (H3.out.trans (H35.out.mono H3.out.size))
  clear hb5 CA H4
  go_wp2_with fail
  refine (CNO.out w5 H5.out).mono ?_
  rintro e w6 ⟨lv, rfl, hNR, hb6⟩
  have hnd : (Tr.rrun E n).nd = nd := Tr.nd_same HD.out HAL2.out HR.out
  obtain ⟨RL, hRL⟩ : ∃ RL, (fun j => Tr.rnd E ((Tr.rrun E n).L j)) = RL := ⟨_, rfl⟩
  rw [hnd, hRL] at hNR
  have HRD := hide' (Tr.rd_of HD.out HAL2.out HR.out RL hRL.symm)
  obtain ⟨Bz, hBz⟩ : ∃ Bz, w2.heap.size = Bz := ⟨_, rfl⟩
  rw [hBz] at HR
  have HW : Hid (Tr.TB w v n E Bz D E2 Lz q cap nd lv RL w6) := ⟨H5.out.trans (hb6.mono H5.out.size), HE.out, HAL2.out, (HR.out.below H35.out).below hb6, hNR, HTI.out, hn, HBB.out, HRD.out⟩
  obtain ⟨pl, capl, rfl, hcl, hcl2, _⟩ := hNR
  clear hb6 hnd hRL CNO H3 H23 HC H2 HAL2 HR HRD HBB HTI HS HT H5 H35 hBz
  have CL : Hid (∀ W, Tr.TB w v n E Bz D E2 Lz q cap nd (.slice pl nd capl) RL W → _) := fun W h => trLen W Bz D n E2 Lz q cap nd h.tr
  have CE : Hid (∀ W, Tr.TB w v n E Bz D E2 Lz q cap nd (.slice pl nd capl) RL W → _) := fun W h => trEvents W Bz D n E2 Lz q cap nd h.tr (fun i hi => (h.ti2 i hi).small) (by omega)
  go_wp2_with fail
  refine (CL.out w6 HW.out).mono ?_
  rintro e w7 ⟨rfl, rfl⟩
  go_wp2_with fail
  refine (CE.out w7 HW.out).mono ?_
  rintro e w8 ⟨Lc, Ec, rfl, hcc⟩
  have HW8 := hide' (HW.out.go hcc.bel)
  have CA := hide' (trAll (.slice (some ⟨Lc, 0, none⟩) n n) v n Ec E w8 (hcc.evs (by omega)) (HE.out.below HW8.out.bel (Nat.le_refl _)) ((show Tr.Alike n E2 Ec from fun i hi => hcc.eq i hi).symm.trans9 HW.out.al.symm))
  clear hcc HW CE CL HE HSM
  go_wp2_with fail
  refine CA.out.mono ?_
  rintro e w9 ⟨rfl, hb9⟩
  have HW9 := hide' (HW8.out.go hb9)
  clear CA hb9 HW8
  by_cases h4 : (nd : Int) > 400
  · clear HD
    go_wp2_with fail
    go_ret
    exact ⟨rfl, HW9.out.bel⟩
  have h9 : nd ≤ 900 := by omega
  have h4' : ¬ (400 : Int) < (nd : Int) := by omega
  have HPL := hide' HW9.out.lat
  have CNX : Hid (∀ W, Tr.TB w v n E Bz D E2 Lz q cap nd (.slice pl nd capl) RL W → ∀ k, (k < 0 ∨ (nd : Int) ≤ k) → _) := fun W h k hk => trNodeX W Bz D n E2 Lz q cap nd h.tr k hk
  have CVX : Hid (∀ W, Tr.TB w v n E Bz D E2 Lz q cap nd (.slice pl nd capl) RL W → ∀ k, (k < -1 ∨ (nd : Int) ≤ k) → _) := fun W h k hk => trValueX W Bz D n E2 Lz q cap nd h.tr k hk
  have CPX : Hid (∀ W, Tr.TB w v n E Bz D E2 Lz q cap nd (.slice pl nd capl) RL W → ∀ k, (k < -1 ∨ (nd : Int) ≤ k) → _) := fun W h k hk => trPrintX W Bz D n E2 Lz q cap nd h.tr k hk
  have CNI : Hid (∀ W, Tr.TB w v n E Bz D E2 Lz q cap nd (.slice pl nd capl) RL W → ∀ j, j < nd → _) := fun W h j hj => trNode W Bz D n E2 Lz q cap nd h.tr (fun i hi => (h.ti2 i hi).small) j hj
  have CP : Hid (∀ W, Tr.TB w v n E Bz D E2 Lz q cap nd (.slice pl nd capl) RL W → ∀ k, _) := fun W h k => trParent W Bz D n E2 Lz q cap nd h.tr k
  have CVI : Hid (∀ W, Tr.TB w v n E Bz D E2 Lz q cap nd (.slice pl nd capl) RL W → ∀ k, -1 ≤ k → k < (nd : Int) → _) := fun W h k h0 h1 => h.value k h0 h1
  have CPI : Hid (∀ W, Tr.TB w v n E Bz D E2 Lz q cap nd (.slice pl nd capl) RL W → ∀ k, -1 ≤ k → k < (nd : Int) → _) := fun W h k h0 h1 => h.print k h0 h1
  have CRV : Hid (∀ W, Tr.TB w v n E Bz D E2 Lz q cap nd (.slice pl nd capl) RL W → ∀ k, -1 ≤ k → k < (nd : Int) → _) := fun W h k _ h1 => h.refValue k h1
  have CRF : Hid (∀ W, Tr.TB w v n E Bz D E2 Lz q cap nd (.slice pl nd capl) RL W → ∀ k, -1 ≤ k → k < (nd : Int) → _) := fun W h k _ h1 => h.refForm HD.out k h1
  have CAL : Hid (∀ W, Tr.TB w v n E Bz D E2 Lz q cap nd (.slice pl nd capl) RL W → ∀ k a, _) := fun W h k a => h.along h9 k a
  have CRL : Hid (∀ W, Tr.TB w v n E Bz D E2 Lz q cap nd (.slice pl nd capl) RL W → ∀ k a, _) := fun W h k a => h.refAlong h9 k a
  have CLN : Hid (∀ k a, (Tr.alL E2 n nd k a).length ≤ 2000) := fun k a => HW9.out.len h9 k a
  have hnn : nd ≤ 1048576 := by omega
  clear HD h9
  go_wp2_with fail
  go_loopw [10] (fun kv wr => ∃ k : Int, kv = .int .i64 k ∧ -2 ≤ k ∧ k ≤ (nd : Int) + 1 ∧ Hid (Tr.TB w v n E Bz D E2 Lz q cap nd (.slice pl nd capl) RL wr)) (fun kv _ => ((nd : Int) + 1 - RowKit.intOf kv).toNat)
  case atStart => exact ⟨-2, rfl, by omega, by omega, HW9⟩
  case round =>
    clear HW9
    obtain ⟨k, rfl, hk0, hk1, HW⟩ := hrel
    by_cases hle : k ≤ (nd : Int)
    · by_cases c1 : k = (nd : Int)
      · have HK0 : Hid (k < 0 ∨ (nd : Int) ≤ k) := by show _ ∨ _; omega
        have HK1 : Hid (k < -1 ∨ (nd : Int) ≤ k) := by show _ ∨ _; omega
        have f1 : ¬ k < -1 := by omega
        have f2 : ¬ k < 0 := by omega
        have f3 : (k == (nd : Int)) = true := by simpa using c1
        have C1 := hide' c1
        clear c1
        have CN := hide' (CNX.out wr HW.out k HK0.out)
        have CPk := fun W h => CP.out W h k
        simp only [if_pos HK0.out] at CPk
        have CP2 := hide' CPk
        clear CPk
        go_wp2_with fail
        refine CN.out.mono ?_
        rintro e wn ⟨rfl, hbn⟩
        have hz := (HW.out.go hbn).go ((Below.refl wn.heap.size wn).alloc (Nat.le_refl _) (.cells #[.int .i64 0, .int .i64 0, .int .i64 0, .string ⟨#[]⟩, .slice none 0 0, .string ⟨#[]⟩, .int .i64 0, .int .i64 0] 39))
        have HWA := hide' hz
        clear hbn hz CN
        go_wp2_with fail
        refine (CP2.out _ HWA.out).mono ?_
        rintro e w5 ⟨rfl, rfl⟩
        have CS := hide' (trSame (⟨0, 0, 0, ⟨#[]⟩, .slice none 0 0, [], ⟨#[]⟩, 0, 0⟩ : Tr.Ev Value) (.slice none 0 0) (wn.alloc (.cells #[.int .i64 0, .int .i64 0, .int .i64 0, .string ⟨#[]⟩, .slice none 0 0, .string ⟨#[]⟩, .int .i64 0, .int .i64 0] 39)) (Tr.atRow_nil _) (Tr.atRow_nil _))
        dsimp only [Tr.Ev.cs] at CS
        clear CP2
        go_wp2_with fail
        refine CS.out.mono ?_
        rintro e w6 ⟨rfl, hb6⟩
        have HW6 := hide' (HWA.out.go hb6)
        clear hb6 CS HWA
        have CV := hide' (CVX.out w6 HW6.out k HK1.out)
        go_wp2_with fail
        refine CV.out.mono ?_
        rintro e w7 ⟨rfl, hb7⟩
        have HW7 := hide' (HW6.out.go hb7)
        clear CV hb7 HW6
        have CV := hide' (CPX.out w7 HW7.out k HK1.out)
        go_wp2_with fail
        refine CV.out.mono ?_
        rintro e w8 ⟨rfl, hb8⟩
        have HWL := hide' (HW7.out.go hb8)
        clear CV hb8 HW7
        clear HW
        obtain ⟨WO, hWO⟩ : ∃ WO, WO = wr := ⟨_, rfl⟩
        subst hWO
        go_wp2_with fail
        go_loopw [17] (fun av wx => ∃ a : Int, av = .int .i64 a ∧ -1 ≤ a ∧ a ≤ 5 ∧ Hid (Tr.TB w v n E Bz D E2 Lz q cap nd (.slice pl nd capl) RL wx)) (fun av _ => (5 - RowKit.intOf av).toNat)
        case atStart => exact ⟨-1, rfl, by omega, by omega, HWL⟩
        case round =>
          clear HWL
          obtain ⟨a, rfl, ha0, ha1, HX⟩ := hrel
          by_cases hlt : a < 5
          · have C1 := hide' (CAL.out wr HX.out k a)
            obtain ⟨l, hl⟩ : ∃ l, Tr.alL E2 n nd k a = l := ⟨_, rfl⟩
            rw [hl] at C1
            have HLL := hide' hl
            clear hl
            go_wp2_with fail
            refine C1.out.mono ?_
            rintro e wa ⟨va, rfl, hIa, hba⟩
            have HIA := hide' hIa.row
            have HXA := hide' (HX.out.go hba)
            clear C1 hba hIa
            have C2 := hide' (CRL.out wa HXA.out k a)
            rw [HLL.out] at C2
            go_wp2_with fail
            refine C2.out.mono ?_
            rintro e wb ⟨vb, rfl, hIb, hbb⟩
            have C3 := hide' (trInts wb va vb l.length l (HIA.out.below hbb) hIb.row (by have := CLN.out k a; rw [HLL.out] at this; omega))
            have HXB := hide' (HXA.out.go hbb)
            clear C2 hbb hIb HIA HX HXA
            go_wp2_with fail
            refine C3.out.mono ?_
            rintro e wc ⟨rfl, hbc⟩
            have HXC := hide' (HXB.out.go hbc)
            clear C3 hbc HXB
            have ew : IntKind.i64.wrap (a + 1) = a + 1 := by rw [IntKind.wrap_i64]; omega
            go_wp2_with fail
            go_roundw
            case rel => exact ⟨a + 1, rfl, by omega, by omega, HXC⟩
            case measure => simp [RowKit.intOf]; omega
          · have ew : IntKind.i64.wrap (k + 1) = k + 1 := by rw [IntKind.wrap_i64]; omega
            go_wp2_with fail
            exact ⟨⟨k + 1, rfl, by omega, by omega, HX⟩, by simp [RowKit.intOf]; omega⟩
      by_cases c2 : k < -1
      · have HK0 : Hid (k < 0 ∨ (nd : Int) ≤ k) := by show _ ∨ _; omega
        have HK1 : Hid (k < -1 ∨ (nd : Int) ≤ k) := by show _ ∨ _; omega
        have f2 : k < 0 := by omega
        have CN := hide' (CNX.out wr HW.out k HK0.out)
        have CPk := fun W h => CP.out W h k
        simp only [if_pos HK0.out] at CPk
        have CP2 := hide' CPk
        clear CPk
        go_wp2_with fail
        refine CN.out.mono ?_
        rintro e wn ⟨rfl, hbn⟩
        have hz := (HW.out.go hbn).go ((Below.refl wn.heap.size wn).alloc (Nat.le_refl _) (.cells #[.int .i64 0, .int .i64 0, .int .i64 0, .string ⟨#[]⟩, .slice none 0 0, .string ⟨#[]⟩, .int .i64 0, .int .i64 0] 39))
        have HWA := hide' hz
        clear hbn hz CN
        go_wp2_with fail
        refine (CP2.out _ HWA.out).mono ?_
        rintro e w5 ⟨rfl, rfl⟩
        have CS := hide' (trSame (⟨0, 0, 0, ⟨#[]⟩, .slice none 0 0, [], ⟨#[]⟩, 0, 0⟩ : Tr.Ev Value) (.slice none 0 0) (wn.alloc (.cells #[.int .i64 0, .int .i64 0, .int .i64 0, .string ⟨#[]⟩, .slice none 0 0, .string ⟨#[]⟩, .int .i64 0, .int .i64 0] 39)) (Tr.atRow_nil _) (Tr.atRow_nil _))
        dsimp only [Tr.Ev.cs] at CS
        clear CP2
        go_wp2_with fail
        refine CS.out.mono ?_
        rintro e w6 ⟨rfl, hb6⟩
        have HW6 := hide' (HWA.out.go hb6)
        clear hb6 CS HWA
        have CV := hide' (CVX.out w6 HW6.out k HK1.out)
        go_wp2_with fail
        refine CV.out.mono ?_
        rintro e w7 ⟨rfl, hb7⟩
        have HW7 := hide' (HW6.out.go hb7)
        clear CV hb7 HW6
        have CV := hide' (CPX.out w7 HW7.out k HK1.out)
        go_wp2_with fail
        refine CV.out.mono ?_
        rintro e w8 ⟨rfl, hb8⟩
        have HWL := hide' (HW7.out.go hb8)
        clear CV hb8 HW7
        clear HW
        obtain ⟨WO, hWO⟩ : ∃ WO, WO = wr := ⟨_, rfl⟩
        subst hWO
        go_wp2_with fail
        go_loopw [17] (fun av wx => ∃ a : Int, av = .int .i64 a ∧ -1 ≤ a ∧ a ≤ 5 ∧ Hid (Tr.TB w v n E Bz D E2 Lz q cap nd (.slice pl nd capl) RL wx)) (fun av _ => (5 - RowKit.intOf av).toNat)
        case atStart => exact ⟨-1, rfl, by omega, by omega, HWL⟩
        case round =>
          clear HWL
          obtain ⟨a, rfl, ha0, ha1, HX⟩ := hrel
          by_cases hlt : a < 5
          · have C1 := hide' (CAL.out wr HX.out k a)
            obtain ⟨l, hl⟩ : ∃ l, Tr.alL E2 n nd k a = l := ⟨_, rfl⟩
            rw [hl] at C1
            have HLL := hide' hl
            clear hl
            go_wp2_with fail
            refine C1.out.mono ?_
            rintro e wa ⟨va, rfl, hIa, hba⟩
            have HIA := hide' hIa.row
            have HXA := hide' (HX.out.go hba)
            clear C1 hba hIa
            have C2 := hide' (CRL.out wa HXA.out k a)
            rw [HLL.out] at C2
            go_wp2_with fail
            refine C2.out.mono ?_
            rintro e wb ⟨vb, rfl, hIb, hbb⟩
            have C3 := hide' (trInts wb va vb l.length l (HIA.out.below hbb) hIb.row (by have := CLN.out k a; rw [HLL.out] at this; omega))
            have HXB := hide' (HXA.out.go hbb)
            clear C2 hbb hIb HIA HX HXA
            go_wp2_with fail
            refine C3.out.mono ?_
            rintro e wc ⟨rfl, hbc⟩
            have HXC := hide' (HXB.out.go hbc)
            clear C3 hbc HXB
            have ew : IntKind.i64.wrap (a + 1) = a + 1 := by rw [IntKind.wrap_i64]; omega
            go_wp2_with fail
            go_roundw
            case rel => exact ⟨a + 1, rfl, by omega, by omega, HXC⟩
            case measure => simp [RowKit.intOf]; omega
          · have ew : IntKind.i64.wrap (k + 1) = k + 1 := by rw [IntKind.wrap_i64]; omega
            go_wp2_with fail
            exact ⟨⟨k + 1, rfl, by omega, by omega, HX⟩, by simp [RowKit.intOf]; omega⟩
      by_cases c3 : k < 0
      · have HK0 : Hid (k < 0 ∨ (nd : Int) ≤ k) := by show _ ∨ _; omega
        have f2 : ¬ k < -1 := by omega
        have f1 : ¬ k = (nd : Int) := by omega
        have f1' : (k == (nd : Int)) = false := by simpa using f1
        have CN := hide' (CNX.out wr HW.out k HK0.out)
        have CPk := fun W h => CP.out W h k
        simp only [if_pos HK0.out] at CPk
        have CP2 := hide' CPk
        clear CPk
        go_wp2_with fail
        refine CN.out.mono ?_
        rintro e wn ⟨rfl, hbn⟩
        have hz := (HW.out.go hbn).go ((Below.refl wn.heap.size wn).alloc (Nat.le_refl _) (.cells #[.int .i64 0, .int .i64 0, .int .i64 0, .string ⟨#[]⟩, .slice none 0 0, .string ⟨#[]⟩, .int .i64 0, .int .i64 0] 39))
        have HWA := hide' hz
        clear hbn hz CN
        go_wp2_with fail
        refine (CP2.out _ HWA.out).mono ?_
        rintro e w5 ⟨rfl, rfl⟩
        have CS := hide' (trSame (⟨0, 0, 0, ⟨#[]⟩, .slice none 0 0, [], ⟨#[]⟩, 0, 0⟩ : Tr.Ev Value) (.slice none 0 0) (wn.alloc (.cells #[.int .i64 0, .int .i64 0, .int .i64 0, .string ⟨#[]⟩, .slice none 0 0, .string ⟨#[]⟩, .int .i64 0, .int .i64 0] 39)) (Tr.atRow_nil _) (Tr.atRow_nil _))
        dsimp only [Tr.Ev.cs] at CS
        clear CP2
        go_wp2_with fail
        refine CS.out.mono ?_
        rintro e w6 ⟨rfl, hb6⟩
        have HW6 := hide' (HWA.out.go hb6)
        clear hb6 CS HWA
        have CV := hide' (CVI.out w6 HW6.out k (by omega) (by omega))
        go_wp2_with fail
        refine CV.out.mono ?_
        rintro e w7 ⟨rfl, hb7⟩
        have HW7 := hide' (HW6.out.go hb7)
        clear CV hb7 HW6
        have CV := hide' (CPI.out w7 HW7.out k (by omega) (by omega))
        go_wp2_with fail
        refine CV.out.mono ?_
        rintro e w8 ⟨rfl, hb8⟩
        have HW8 := hide' (HW7.out.go hb8)
        clear CV hb8 HW7
        have CV := hide' (CRV.out w8 HW8.out k (by omega) (by omega))
        have CF := fun W h => CRF.out W h k (by omega) (by omega)
        obtain ⟨SV, hSV⟩ : ∃ SV, Tr.valK RL k = SV := ⟨_, rfl⟩
        obtain ⟨SP, hSP⟩ : ∃ SP, Tr.frmK E RL k = SP := ⟨_, rfl⟩
        rw [hSV] at CV ⊢
        rw [hSP] at CF ⊢
        have CF2 := hide' CF
        clear CF hSV hSP
        go_wp2_with fail
        refine CV.out.mono ?_
        rintro e w9 ⟨rfl, hb9⟩
        have HW9 := hide' (HW8.out.go hb9)
        clear CV hb9 HW8
        go_wp2_with fail
        refine (CF2.out w9 HW9.out).mono ?_
        rintro e w10 ⟨rfl, hb10⟩
        have HWL := hide' (HW9.out.go hb10)
        clear CF2 hb10 HW9
        clear HW
        obtain ⟨WO, hWO⟩ : ∃ WO, WO = wr := ⟨_, rfl⟩
        subst hWO
        go_wp2_with fail
        go_loopw [17] (fun av wx => ∃ a : Int, av = .int .i64 a ∧ -1 ≤ a ∧ a ≤ 5 ∧ Hid (Tr.TB w v n E Bz D E2 Lz q cap nd (.slice pl nd capl) RL wx)) (fun av _ => (5 - RowKit.intOf av).toNat)
        case atStart => exact ⟨-1, rfl, by omega, by omega, HWL⟩
        case round =>
          clear HWL
          obtain ⟨a, rfl, ha0, ha1, HX⟩ := hrel
          by_cases hlt : a < 5
          · have C1 := hide' (CAL.out wr HX.out k a)
            obtain ⟨l, hl⟩ : ∃ l, Tr.alL E2 n nd k a = l := ⟨_, rfl⟩
            rw [hl] at C1
            have HLL := hide' hl
            clear hl
            go_wp2_with fail
            refine C1.out.mono ?_
            rintro e wa ⟨va, rfl, hIa, hba⟩
            have HIA := hide' hIa.row
            have HXA := hide' (HX.out.go hba)
            clear C1 hba hIa
            have C2 := hide' (CRL.out wa HXA.out k a)
            rw [HLL.out] at C2
            go_wp2_with fail
            refine C2.out.mono ?_
            rintro e wb ⟨vb, rfl, hIb, hbb⟩
            have C3 := hide' (trInts wb va vb l.length l (HIA.out.below hbb) hIb.row (by have := CLN.out k a; rw [HLL.out] at this; omega))
            have HXB := hide' (HXA.out.go hbb)
            clear C2 hbb hIb HIA HX HXA
            go_wp2_with fail
            refine C3.out.mono ?_
            rintro e wc ⟨rfl, hbc⟩
            have HXC := hide' (HXB.out.go hbc)
            clear C3 hbc HXB
            have ew : IntKind.i64.wrap (a + 1) = a + 1 := by rw [IntKind.wrap_i64]; omega
            go_wp2_with fail
            go_roundw
            case rel => exact ⟨a + 1, rfl, by omega, by omega, HXC⟩
            case measure => simp [RowKit.intOf]; omega
          · have ew : IntKind.i64.wrap (k + 1) = k + 1 := by rw [IntKind.wrap_i64]; omega
            go_wp2_with fail
            exact ⟨⟨k + 1, rfl, by omega, by omega, HX⟩, by simp [RowKit.intOf]; omega⟩
      have f1 : ¬ k = (nd : Int) := by omega
      have f1' : (k == (nd : Int)) = false := by simpa using f1
      obtain ⟨j, rfl⟩ : ∃ j : Nat, k = j := ⟨k.toNat, by omega⟩
      have hj : j < nd := by omega
      obtain ⟨bl, ol, rfl⟩ := HPL.out
      obtain ⟨f, hf, hfn, CN0⟩ := CNI.out wr HW.out j hj
      have CN := hide' CN0
      clear CN0
      have CPk := fun W h => CP.out W h (j : Int)
      simp only [if_neg (show ¬ ((j : Int) < 0 ∨ (nd : Int) ≤ (j : Int)) by omega), Int.toNat_natCast] at CPk
      have LPR : Hid (∀ W, Tr.TB w v n E Bz D E2 Lz q cap nd (.slice (some ⟨bl, ol, none⟩) nd capl) RL W → W.cell? ⟨bl, ol + j * 13 + 8, none⟩ = some (.int .i64 ((Tr.grun E2 n).nth j).par)) := fun W h => h.lpar hj
      have LEV : Hid (∀ W, Tr.TB w v n E Bz D E2 Lz q cap nd (.slice (some ⟨bl, ol, none⟩) nd capl) RL W → W.rangeAt bl (ol + j * 13) (E f).cs.toList) := fun W h => h.lev hj hf
      obtain ⟨par, hpar⟩ : ∃ par, ((Tr.grun E2 n).nth j).par = par := ⟨_, rfl⟩
      rw [hpar] at CPk LPR
      have CP2 := hide' CPk
      clear CPk hpar
      have HAE := hide' (HW.out.al.symm f hfn)
      have HEA := hide' (HW.out.evs.att f hfn)
      have HZE : Hid ((Tryd.prog.info? 39).map (·.size) = some (E f).cs.toList.length) := Tr.evSize
      obtain ⟨e, he⟩ : ∃ e, E2 f = e := ⟨_, rfl⟩
      simp only [he] at CN HAE
      clear he hf
      obtain ⟨kind, num, dep, nm, av, ats, tx, fr, be⟩ := e
      go_wp2_with fail
      refine CN.out.mono ?_
      rintro e wn ⟨av', rfl, hA, -, hbn⟩
      dsimp only at hA
      dsimp only [Tr.Ev.cs]
      obtain ⟨pa, na, ca, rfl⟩ : ∃ pa na ca, av' = .slice pa na ca := by obtain ⟨p, c, e, _⟩ := hA.row; exact ⟨p, _, c, e⟩
      have hbx : Below wn.heap.size wn (wn.alloc (.cells #[.int .i64 kind, .int .i64 num, .int .i64 dep, .string nm, .slice pa na ca, .string tx, .int .i64 fr, .int .i64 be] 39)) := (Below.refl wn.heap.size wn).alloc (Nat.le_refl _) _
      have HWA := hide' ((HW.out.go hbn).go hbx)
      have HA1 := hide' (hA.row.below hbx (Nat.le_refl _))
      clear hbn CN hA hbx
      go_wp2_with fail
      refine (CP2.out _ HWA.out).mono ?_
      rintro e w5 ⟨rfl, rfl⟩
      clear CP2
      have g1 : (j : Int) < (nd : Int) := by omega
      have g2 : 0 ≤ (j : Int) := by omega
      obtain ⟨W0, hW0⟩ : ∃ W0, wn.alloc (.cells #[.int .i64 kind, .int .i64 num, .int .i64 dep, .string nm, .slice pa na ca, .string tx, .int .i64 fr, .int .i64 be] 39) = W0 := ⟨_, rfl⟩
      have hrW : W0.rangeAt wn.heap.size 0 [.int .i64 kind, .int .i64 num, .int .i64 dep, .string nm, .slice pa na ca, .string tx, .int .i64 fr, .int .i64 be] := by
        rw [← hW0]
        exact Tr.range_of (heap_alloc_new wn _)
      have hbd : wn.heap.size < W0.heap.size := by rw [← hW0]; simp
      rw [hW0] at HWA HA1
      go_wp2_with fail
      have hT0 := HWA.out
      have hlp := LPR.out W0 hT0
      have hle := LEV.out W0 hT0
      have cS : ∀ W1, Below W0.heap.size W0 W1 → Calls Tryd.prog 14 #[.agg ([.int .i64 kind, .int .i64 num, .int .i64 dep, .string nm, .slice pa na ca, .string tx, .int .i64 fr, .int .i64 be] : List Value).toArray, .agg (E f).cs.toList.toArray] W1 (fun r w' => r = .returned (.bool true) ∧ Below W1.heap.size W1 w') := fun W1 hb => by
        have h1 := trSame (⟨kind, num, dep, nm, .slice pa na ca, ats, tx, fr, be⟩ : Tr.Ev Value) (E f).av W1 (HA1.out.below hb (Nat.le_refl _)) (by
          have h2 := HEA.out.below ((HWA.out.bel).trans (hb.mono HWA.out.bel.size)) (Nat.le_refl _)
          have h3 : (E f).ats = ats := by rw [HAE.out]
          rw [h3] at h2
          exact h2)
        have h4 : (E f).cs = Tr.Ev.cs { kind := kind, num := num, dep := dep, nm := nm, av := (E f).av, ats := ats, tx := tx, fr := fr, be := be } := by
          conv => lhs; rw [HAE.out]
        rw [Array.toArray_toList, h4]
        exact h1
      have i1 : (Tryd.prog.info? 39).map (·.size) = some ([.int .i64 kind, .int .i64 num, .int .i64 dep, .string nm, .slice pa na ca, .string tx, .int .i64 fr, .int .i64 be] : List Value).length := Tr.evSize
      have i2 := HZE.out
      obtain ⟨CW, hCW⟩ : ∃ CW : List Value, CW = [.int .i64 kind, .int .i64 num, .int .i64 dep, .string nm, .slice pa na ca, .string tx, .int .i64 fr, .int .i64 be] := ⟨_, rfl⟩
      rw [← hCW] at hrW cS i1
      generalize (E f).cs.toList = C0 at hle cS i2
      obtain ⟨S, hSd⟩ : ∃ S : World → Prop, S = fun W' => W'.rangeAt wn.heap.size 0 CW ∧ W'.cell? ⟨bl, ol + j * 13 + 8, none⟩ = some (.int .i64 par) ∧ W'.rangeAt bl (ol + j * 13) C0 := ⟨_, rfl⟩
      have hlb : bl < W0.heap.size := block_lt_of_cell hlp
      have hSB : ∀ W', Below W0.heap.size W0 W' → S W' := fun W' hb => by rw [hSd]; exact ⟨Tr.rangeAt_below hrW hb hbd, (hb.cell (p := ⟨bl, ol + j * 13 + 8, none⟩) hlb).trans hlp, Tr.rangeAt_below hle hb hlb⟩
      have hS0 : S W0.drew := hSB _ (Below.refl _ _).drew
      have hSR : ∀ W', S W' → W'.rangeAt wn.heap.size 0 CW := fun W' h => by rw [hSd] at h; exact h.1
      have hSP : ∀ W', S W' → W'.cell? ⟨bl, ol + j * 13 + 8, none⟩ = some (.int .i64 par) := fun W' h => by rw [hSd] at h; exact h.2.1
      have hSR2 : ∀ W', S W' → W'.rangeAt bl (ol + j * 13) C0 := fun W' h => by rw [hSd] at h; exact h.2.2
      have CS := hide' cS
      have HSR := hide' hSR
      have HSP := hide' hSP
      have HSR2 := hide' hSR2
      have HSB := hide' hSB
      have HI1 := hide' i1
      have HI2 := hide' i2
      clear hrW hbd hT0 hlp hle cS i1 i2 hCW hSd hlb hSB hSR hSP hSR2 LPR LEV HAE HEA HZE HA1 hW0
      refine wp_region_held_drew (S := S) (by kernel_rfl) hS0 (fun hHeld => ?_)
      simp only [List.size_toArray, List.length_cons, List.length_nil, Nat.reduceAdd]
      refine wpAnyH_take (i := 0) (v := .int .i64 0) rfl (by kernel_rfl) (by kernel_rfl) (by kernel_rfl) (fun _ _ _ h => h) (Or.inl ⟨by rfl, ?y0⟩) (by assumption) ?_
      case y0 => (intro w' hSw; go_simp)
      try simp only [List.getElem_toArray, List.getElem_cons_zero, Act.put, List.setIfInBounds_toArray, List.set_cons_zero, List.set_cons_succ]
      refine wpAnyH_take (i := 1) (v := .bool false) rfl (by kernel_rfl) (by kernel_rfl) (by kernel_rfl) (fun _ _ _ h => h) (Or.inl ⟨by rfl, ?y1⟩) (by assumption) ?_
      case y1 => (intro w' hSw; go_simp)
      try simp only [List.getElem_toArray, List.getElem_cons_zero, List.getElem_cons_succ, Act.put, List.setIfInBounds_toArray, List.set_cons_zero, List.set_cons_succ]
      refine wpAnyH_take (i := 2) (v := .bool false) rfl (by kernel_rfl) (by kernel_rfl) (by kernel_rfl) (fun _ _ _ h => h) (Or.inl ⟨by rfl, ?y2⟩) (by assumption) ?_
      case y2 => (intro w' hSw; go_simp)
      try simp only [List.getElem_toArray, List.getElem_cons_zero, List.getElem_cons_succ, Act.put, List.setIfInBounds_toArray, List.set_cons_zero, List.set_cons_succ]
      refine wpAnyH_take (i := 3) (v := .int .i64 0) rfl (by kernel_rfl) (by kernel_rfl) (by kernel_rfl) (fun _ _ _ h => h) (Or.inl ⟨by rfl, ?y3⟩) (by assumption) ?_
      case y3 => (intro w' hSw; go_simp)
      try simp only [List.getElem_toArray, List.getElem_cons_zero, List.getElem_cons_succ, Act.put, List.setIfInBounds_toArray, List.set_cons_zero, List.set_cons_succ]
      refine wpAnyH_take (i := 4) (v := .bool false) rfl (by kernel_rfl) (by kernel_rfl) (by kernel_rfl) (fun _ _ _ h => h) (Or.inl ⟨by rfl, ?y4⟩) (by assumption) ?_
      case y4 => (intro w' hSw; go_simp)
      try simp only [List.getElem_toArray, List.getElem_cons_zero, List.getElem_cons_succ, Act.put, List.setIfInBounds_toArray, List.set_cons_zero, List.set_cons_succ]
      refine wpAnyH_take (i := 5) (v := .bool false) rfl (by kernel_rfl) (by kernel_rfl) (by kernel_rfl) (fun _ _ _ h => h) (Or.inl ⟨by rfl, ?y5⟩) (by assumption) ?_
      case y5 => (intro w' hSw; go_simp)
      try simp only [List.getElem_toArray, List.getElem_cons_zero, List.getElem_cons_succ, Act.put, List.setIfInBounds_toArray, List.set_cons_zero, List.set_cons_succ]
      refine wpAnyH_take (i := 6) (v := .bool false) rfl (by kernel_rfl) (by kernel_rfl) (by kernel_rfl) (fun _ _ _ h => h) (Or.inl ⟨by rfl, ?y6⟩) (by assumption) ?_
      case y6 => (intro w' hSw; go_simp)
      try simp only [List.getElem_toArray, List.getElem_cons_zero, List.getElem_cons_succ, Act.put, List.setIfInBounds_toArray, List.set_cons_zero, List.set_cons_succ]
      refine wpAnyH_take (i := 7) (v := .int .i64 par) rfl (by kernel_rfl) (by kernel_rfl) (by kernel_rfl) (fun _ _ _ h => h) (Or.inl ⟨by rfl, ?y7⟩) (by assumption) ?_
      case y7 => (intro w' hSw; go_simp)
      try simp only [List.getElem_toArray, List.getElem_cons_zero, List.getElem_cons_succ, Act.put, List.setIfInBounds_toArray, List.set_cons_zero, List.set_cons_succ]
      refine wpAnyH_take (i := 8) (v := .slice (some ⟨bl, ol, none⟩) nd capl) rfl (by kernel_rfl) (by kernel_rfl) (by kernel_rfl) (fun _ _ _ h => h) (Or.inl ⟨by rfl, ?y8⟩) (by assumption) ?_
      case y8 => (intro w' hSw; go_simp)
      try simp only [List.getElem_toArray, List.getElem_cons_zero, List.getElem_cons_succ, Act.put, List.setIfInBounds_toArray, List.set_cons_zero, List.set_cons_succ]
      refine wpAnyH_take (i := 9) (v := .int .i64 j) rfl (by kernel_rfl) (by kernel_rfl) (by kernel_rfl) (fun _ _ _ h => h) (Or.inl ⟨by rfl, ?y9⟩) (by assumption) ?_
      case y9 => (intro w' hSw; go_simp)
      try simp only [List.getElem_toArray, List.getElem_cons_zero, List.getElem_cons_succ, Act.put, List.setIfInBounds_toArray, List.set_cons_zero, List.set_cons_succ]
      refine wpAnyH_take (i := 10) (v := .pointer (some ⟨bl, ol + j * 13, none⟩)) rfl (by kernel_rfl) (by kernel_rfl) (by kernel_rfl) (fun _ _ _ h => h) (Or.inl ⟨by rfl, ?y10⟩) (by assumption) ?_
      case y10 => (intro w' hSw; go_simp)
      try simp only [List.getElem_toArray, List.getElem_cons_zero, List.getElem_cons_succ, Act.put, List.setIfInBounds_toArray, List.set_cons_zero, List.set_cons_succ]
      refine wpAnyH_take (i := 11) (v := .pointer (some ⟨bl, ol + j * 13 + 8, none⟩)) rfl (by kernel_rfl) (by kernel_rfl) (by kernel_rfl) (fun _ _ _ h => h) (Or.inl ⟨by rfl, ?y11⟩) (by assumption) ?_
      case y11 => (intro w' hSw; go_simp)
      try simp only [List.getElem_toArray, List.getElem_cons_zero, List.getElem_cons_succ, Act.put, List.setIfInBounds_toArray, List.set_cons_zero, List.set_cons_succ]
      refine wpAnyH_take (i := 12) (v := .int .i64 par) rfl (by kernel_rfl) (by kernel_rfl) (by kernel_rfl) (fun _ _ _ h => h) (Or.inl ⟨by rfl, ?y12⟩) (by assumption) ?_
      case y12 => (intro w' hSw; have h1 := HSP.out w' hSw; go_simp)
      try simp only [List.getElem_toArray, List.getElem_cons_zero, List.getElem_cons_succ, Act.put, List.setIfInBounds_toArray, List.set_cons_zero, List.set_cons_succ]
      refine wpAnyH_take (i := 13) (v := .bool false) rfl (by kernel_rfl) (by kernel_rfl) (by kernel_rfl) (fun _ _ _ h => h) (Or.inl ⟨by rfl, ?y13⟩) (by assumption) ?_
      case y13 => (intro w' hSw; go_simp)
      try simp only [List.getElem_toArray, List.getElem_cons_zero, List.getElem_cons_succ, Act.put, List.setIfInBounds_toArray, List.set_cons_zero, List.set_cons_succ]
      refine wpAnyH_take (i := 14) (v := .bool false) rfl (by kernel_rfl) (by kernel_rfl) (by kernel_rfl) (fun _ _ _ h => h) (Or.inl ⟨by rfl, ?y14⟩) (by assumption) ?_
      case y14 => (intro w' hSw; go_simp)
      try simp only [List.getElem_toArray, List.getElem_cons_zero, List.getElem_cons_succ, Act.put, List.setIfInBounds_toArray, List.set_cons_zero, List.set_cons_succ]
      refine wpAnyH_take (i := 15) (v := .bool false) rfl (by kernel_rfl) (by kernel_rfl) (by kernel_rfl) (fun _ _ _ h => h) (Or.inl ⟨by rfl, ?y15⟩) (by assumption) ?_
      case y15 => (intro w' hSw; go_simp)
      try simp only [List.getElem_toArray, List.getElem_cons_zero, List.getElem_cons_succ, Act.put, List.setIfInBounds_toArray, List.set_cons_zero, List.set_cons_succ]
      refine wpAnyH_take (i := 16) (v := .agg CW.toArray) rfl (by kernel_rfl) (by kernel_rfl) (by kernel_rfl) (fun _ _ _ h => h) (yieldsIf_load_mid (by rfl) 39 (.tmp 11) rfl wn.heap.size (0) rfl CW _ HSR.out Tryd.underlying39 rfl HI1.out) (by assumption) ?_
      try simp only [List.getElem_toArray, List.getElem_cons_zero, List.getElem_cons_succ, Act.put, List.setIfInBounds_toArray, List.set_cons_zero, List.set_cons_succ]
      refine wpAnyH_take (i := 17) (v := .slice (some ⟨bl, ol, none⟩) nd capl) rfl (by kernel_rfl) (by kernel_rfl) (by kernel_rfl) (fun _ _ _ h => h) (Or.inl ⟨by rfl, ?y17⟩) (by assumption) ?_
      case y17 => (intro w' hSw; go_simp)
      try simp only [List.getElem_toArray, List.getElem_cons_zero, List.getElem_cons_succ, Act.put, List.setIfInBounds_toArray, List.set_cons_zero, List.set_cons_succ]
      refine wpAnyH_take (i := 18) (v := .int .i64 j) rfl (by kernel_rfl) (by kernel_rfl) (by kernel_rfl) (fun _ _ _ h => h) (Or.inl ⟨by rfl, ?y18⟩) (by assumption) ?_
      case y18 => (intro w' hSw; go_simp)
      try simp only [List.getElem_toArray, List.getElem_cons_zero, List.getElem_cons_succ, Act.put, List.setIfInBounds_toArray, List.set_cons_zero, List.set_cons_succ]
      refine wpAnyH_take (i := 19) (v := .pointer (some ⟨bl, ol + j * 13, none⟩)) rfl (by kernel_rfl) (by kernel_rfl) (by kernel_rfl) (fun _ _ _ h => h) (Or.inl ⟨by rfl, ?y19⟩) (by assumption) ?_
      case y19 => (intro w' hSw; go_simp)
      try simp only [List.getElem_toArray, List.getElem_cons_zero, List.getElem_cons_succ, Act.put, List.setIfInBounds_toArray, List.set_cons_zero, List.set_cons_succ]
      refine wpAnyH_take (i := 20) (v := .pointer (some ⟨bl, ol + j * 13, none⟩)) rfl (by kernel_rfl) (by kernel_rfl) (by kernel_rfl) (fun _ _ _ h => h) (Or.inl ⟨by rfl, ?y20⟩) (by assumption) ?_
      case y20 => (intro w' hSw; go_simp)
      try simp only [List.getElem_toArray, List.getElem_cons_zero, List.getElem_cons_succ, Act.put, List.setIfInBounds_toArray, List.set_cons_zero, List.set_cons_succ]
      refine wpAnyH_take (i := 21) (v := .agg C0.toArray) rfl (by kernel_rfl) (by kernel_rfl) (by kernel_rfl) (fun _ _ _ h => h) (yieldsIf_load_mid (by rfl) 39 (.tmp 136) rfl bl (ol + j * 13) rfl C0 _ HSR2.out Tryd.underlying39 rfl HI2.out) (by assumption) ?_
      try simp only [List.getElem_toArray, List.getElem_cons_zero, List.getElem_cons_succ, Act.put, List.setIfInBounds_toArray, List.set_cons_zero, List.set_cons_succ]
      refine wpAnyH_ready (rs := [22]) (by kernel_rfl) (by simp) ?_
      refine AllReadyH.cons rfl (fun K hK => ?_) AllReadyH.nil
      try simp only [List.getElem_toArray, List.getElem_cons_zero, List.getElem_cons_succ]
      go_simp
      refine (CS.out W0.drew (Below.refl _ _).drew).mono ?_
      rintro e w6 ⟨rfl, hb6⟩
      have hbl6 : Below W0.heap.size W0 w6 := (Below.refl W0.heap.size W0).drew.trans hb6
      have hS6 : S w6 := HSB.out w6 hbl6
      clear CS hb6
      refine hK.out _ _ hS6 (fun hHeld9 => ?_)
      clear hK K
      try simp only [List.getElem_toArray, List.getElem_cons_zero, List.getElem_cons_succ, Act.put, List.setIfInBounds_toArray, List.set_cons_zero, List.set_cons_succ]
      refine wpAnyH_take (i := 23) (v := .bool false) rfl (by kernel_rfl) (by kernel_rfl) (by kernel_rfl) (fun _ _ _ h => h) (Or.inl ⟨by rfl, ?y23⟩) (by assumption) ?_
      case y23 => (intro w' hSw; go_simp)
      try simp only [List.getElem_toArray, List.getElem_cons_zero, List.getElem_cons_succ, Act.put, List.setIfInBounds_toArray, List.set_cons_zero, List.set_cons_succ]
      refine wpAnyH_take (i := 24) (v := .bool false) rfl (by kernel_rfl) (by kernel_rfl) (by kernel_rfl) (fun _ _ _ h => h) (Or.inl ⟨by rfl, ?y24⟩) (by assumption) ?_
      case y24 => (intro w' hSw; go_simp)
      try simp only [List.getElem_toArray, List.getElem_cons_zero, List.getElem_cons_succ, Act.put, List.setIfInBounds_toArray, List.set_cons_zero, List.set_cons_succ]
      refine wpAnyH_done (by kernel_rfl) ?_ _
      have HW6 := hide' (HWA.out.go hbl6)
      clear hbl6 hS6 hS0 HSR HSP HSR2 HSB HI1 HI2 HWA
      obtain ⟨k, hk⟩ : ∃ k : Int, k = (j : Int) := ⟨_, rfl⟩
      have HKJ : Hid (k.toNat = j ∧ 0 ≤ k) := by show _ ∧ _; omega
      simp only [← hk] at *
      have f2 : ¬ k < -1 := by omega
      clear hk
      have CV := hide' (CVI.out w6 HW6.out k (by omega) (by omega))
      go_wp2_with fail
      refine CV.out.mono ?_
      rintro e w7 ⟨rfl, hb7⟩
      have HW7 := hide' (HW6.out.go hb7)
      clear CV hb7 HW6
      have CV := hide' (CPI.out w7 HW7.out k (by omega) (by omega))
      go_wp2_with fail
      refine CV.out.mono ?_
      rintro e w8 ⟨rfl, hb8⟩
      have HW8 := hide' (HW7.out.go hb8)
      clear CV hb8 HW7
      have CV := hide' (CRV.out w8 HW8.out k (by omega) (by omega))
      have CF := fun W h => CRF.out W h k (by omega) (by omega)
      obtain ⟨SV, hSV⟩ : ∃ SV, Tr.valK RL k = SV := ⟨_, rfl⟩
      obtain ⟨SP, hSP⟩ : ∃ SP, Tr.frmK E RL k = SP := ⟨_, rfl⟩
      rw [hSV] at CV ⊢
      rw [hSP] at CF ⊢
      have CF2 := hide' CF
      clear CF hSV hSP
      go_wp2_with fail
      refine CV.out.mono ?_
      rintro e w9 ⟨rfl, hb9⟩
      have HW9 := hide' (HW8.out.go hb9)
      clear CV hb9 HW8
      go_wp2_with fail
      refine (CF2.out w9 HW9.out).mono ?_
      rintro e w10 ⟨rfl, hb10⟩
      have HWL := hide' (HW9.out.go hb10)
      clear CF2 hb10 HW9
      clear HW
      obtain ⟨WO, hWO⟩ : ∃ WO, WO = wr := ⟨_, rfl⟩
      subst hWO
      go_wp2_with fail
      go_loopw [17] (fun av wx => ∃ a : Int, av = .int .i64 a ∧ -1 ≤ a ∧ a ≤ 5 ∧ Hid (Tr.TB w v n E Bz D E2 Lz q cap nd (.slice (some ⟨bl, ol, none⟩) nd capl) RL wx)) (fun av _ => (5 - RowKit.intOf av).toNat)
      case atStart => exact ⟨-1, rfl, by omega, by omega, HWL⟩
      case round =>
        clear HWL
        obtain ⟨a, rfl, ha0, ha1, HX⟩ := hrel
        by_cases hlt : a < 5
        · have C1 := hide' (CAL.out wr HX.out k a)
          obtain ⟨l, hl⟩ : ∃ l, Tr.alL E2 n nd k a = l := ⟨_, rfl⟩
          rw [hl] at C1
          have HLL := hide' hl
          clear hl
          go_wp2_with fail
          refine C1.out.mono ?_
          rintro e wa ⟨va, rfl, hIa, hba⟩
          have HIA := hide' hIa.row
          have HXA := hide' (HX.out.go hba)
          clear C1 hba hIa
          have C2 := hide' (CRL.out wa HXA.out k a)
          rw [HLL.out] at C2
          go_wp2_with fail
          refine C2.out.mono ?_
          rintro e wb ⟨vb, rfl, hIb, hbb⟩
          have C3 := hide' (trInts wb va vb l.length l (HIA.out.below hbb) hIb.row (by have := CLN.out k a; rw [HLL.out] at this; omega))
          have HXB := hide' (HXA.out.go hbb)
          clear C2 hbb hIb HIA HX HXA
          go_wp2_with fail
          refine C3.out.mono ?_
          rintro e wc ⟨rfl, hbc⟩
          have HXC := hide' (HXB.out.go hbc)
          clear C3 hbc HXB
          have ew : IntKind.i64.wrap (a + 1) = a + 1 := by rw [IntKind.wrap_i64]; omega
          go_wp2_with fail
          go_roundw
          case rel => exact ⟨a + 1, rfl, by omega, by omega, HXC⟩
          case measure => simp [RowKit.intOf]; omega
        · have ew : IntKind.i64.wrap (k + 1) = k + 1 := by rw [IntKind.wrap_i64]; omega
          go_wp2_with fail
          exact ⟨⟨k + 1, rfl, by omega, by omega, HX⟩, by have HKA := HKJ.out.1; have HKB := HKJ.out.2; simp [RowKit.intOf]; omega⟩
    · clear CNX CNI CP CVX CPX CVI CPI CRV CRF CAL CRL CLN
      go_wp2_with fail
      go_ret
      exact ⟨rfl, HW.out.bel⟩
end Go.Proofs.YtcmjipgigkalcaaDoor
