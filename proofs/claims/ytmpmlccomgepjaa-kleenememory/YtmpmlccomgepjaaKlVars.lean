/-
  WALKS over slices.Sort and Compact of numbers (by the shelf), kleene.Vars, kleene.Size.
-/
import Derived.Test.YtmpmlccomgepjaaKlGat
import Derived.Test.YtmpmlccomgepjaaKlShelfB
import Derived.Lib.OwnBridge
namespace Go.Proofs.Ytmpmlccomgepjaa
open Go.RowKit Go.Lib Go.Sort Go.Shelf
namespace Kl
/-- a row of numbers of one's own, from base on -/
def SoR (base : Nat) (w : World) (a : Value) (L : List Int) : Prop :=
  (L = [] ∧ ∃ p cap, a = .slice p 0 cap ∧ cap ≤ 9223372036854775807) ∨ (0 < L.length ∧ ∃ g cap, a = .slice (some ⟨g, 0, none⟩) L.length cap ∧ base ≤ g ∧ g < w.heap.size ∧ L.length ≤ cap ∧ cap ≤ 9223372036854775807 ∧ Holds (Value.int .i64) w g 0 L.toArray)
theorem SoR.of {base : Nat} {w : World} {a : Value} {L : List Int} (h : w.ownsRow base 3 1 a L.length (ic L)) : SoR base w a L := by
  by_cases c : L = []
  · subst c
    refine .inl ⟨rfl, ?_⟩
    rcases h.2 with ⟨e, _⟩ | ⟨g, cap, cur, e, _, h1, h2, h3, _⟩
    · exact ⟨none, 0, e, by omega⟩
    · exact ⟨_, cap, e, by unfold maxLen at h3; exact h3⟩
  · have hp : 0 < L.length := List.length_pos_iff.2 c
    have hv : a ≠ .slice none 0 0 := fun e => by
      rcases h.2 with ⟨_, h0⟩ | ⟨g, cap, cur, e', _⟩
      · omega
      · rw [e] at e'; cases e'
    obtain ⟨g, cap, e, h1, h2, h3, h4, _, h6⟩ := holds_of_ownsRow h hv
    exact .inr ⟨hp, g, cap, e, h1, h2, h3, by unfold maxLen at h4; exact h4, h6⟩
theorem below_put {base g : Nat} {w : World} (hg : base ≤ g) (n : Nat) (d : Array Int) (os : Array Obj) (hb : base ≤ w.heap.size) : Below base w (grow (putRow (Value.int .i64) (Sort.ahead w n) g 0 d) os) := by
  refine ⟨rfl, rfl, rfl, ?_, fun k hk => ?_⟩
  · show w.heap.size ≤ ((putRow (Value.int .i64) (Sort.ahead w n) g 0 d).heap ++ os).size
    rw [Array.size_append, size_putRow]
    show w.heap.size ≤ w.heap.size + _
    omega
  · show ((putRow (Value.int .i64) (Sort.ahead w n) g 0 d).heap ++ os)[k]? = _
    rw [Array.getElem?_append_left (by rw [size_putRow]; show k < w.heap.size; omega)]
    unfold putRow mapBlock
    rw [Array.getElem?_modify, if_neg (by omega)]
    rfl
end Kl
theorem klSortI (base : Nat) (a : Value) (L : List Int) (w : World) (h : Kl.SoR base w a L) (hb : base ≤ w.heap.size) (hl : L.length ≤ 1048576) :
    Calls Try.prog 21 #[a] w fun e w' => e = .returned (.tuple #[]) ∧ Hid (Kl.SoR base w' a (L.mergeSort fun x y => decide (x ≤ y))) ∧ Hid (Below base w w') := by
  rcases h with ⟨rfl, p, cap, rfl, hc⟩ | ⟨hp, g, cap, rfl, h1, h2, h3, h4, h5⟩
  · refine (Any.slices_Sort_int_none Try.lays189 p cap w).mono fun e w' ⟨he, hw⟩ => ?_
    subst hw
    exact ⟨he, .inl ⟨by simp, p, cap, rfl, hc⟩, Below.refl _ _⟩
  · refine (Any.slices_Sort_int Try.lays189 g 0 cap L w h5 h2 (by omega)).mono fun e w' hx => ?_
    obtain ⟨he, n, os, hw⟩ := hx
    have hlen : (L.mergeSort fun x y => decide (x ≤ y)).length = L.length := List.length_mergeSort _
    have hbel := Kl.below_put h1 n (L.mergeSort fun x y => decide (x ≤ y)).toArray os hb
    rw [← hw] at hbel
    refine ⟨he, .inr ⟨by rw [hlen]; exact hp, g, cap, by rw [hlen], h1, Nat.lt_of_lt_of_le h2 hbel.size, by rw [hlen]; exact h3, h4, ?_⟩, hbel⟩
    have hH : Holds (Value.int .i64) (putRow (Value.int .i64) (Sort.ahead w n) g 0 (L.mergeSort fun x y => decide (x ≤ y)).toArray) g 0 (L.mergeSort fun x y => decide (x ≤ y)).toArray := holds_putRow _ _ _ _ L.toArray _ h5 (by simp)
    intro j hj
    obtain ⟨c1, c2⟩ := hH j hj
    have hlt := block_lt_of_cell c1
    rw [hw]
    have hbk : ∀ b, b < (putRow (Value.int .i64) (Sort.ahead w n) g 0 (L.mergeSort fun x y => decide (x ≤ y)).toArray).heap.size → (grow (putRow (Value.int .i64) (Sort.ahead w n) g 0 (L.mergeSort fun x y => decide (x ≤ y)).toArray) os).heap[b]? = (putRow (Value.int .i64) (Sort.ahead w n) g 0 (L.mergeSort fun x y => decide (x ≤ y)).toArray).heap[b]? := fun b hb' => by
      show ((putRow (Value.int .i64) (Sort.ahead w n) g 0 _).heap ++ os)[b]? = _
      rw [Array.getElem?_append_left hb']
    have hB : Below (putRow (Value.int .i64) (Sort.ahead w n) g 0 (L.mergeSort fun x y => decide (x ≤ y)).toArray).heap.size (putRow (Value.int .i64) (Sort.ahead w n) g 0 (L.mergeSort fun x y => decide (x ≤ y)).toArray) (grow (putRow (Value.int .i64) (Sort.ahead w n) g 0 (L.mergeSort fun x y => decide (x ≤ y)).toArray) os) :=
      ⟨rfl, rfl, rfl, by show _ ≤ (_ ++ os).size; simp, hbk⟩
    exact ⟨(hB.cell (p := ⟨g, 0 + j, none⟩) hlt).trans c1, (hB.frozen (p := ⟨g, 0 + j, none⟩) hlt).trans c2⟩
theorem klCompactI (base : Nat) (a : Value) (L : List Int) (w : World) (h : Kl.SoR base w a L) (hb : base ≤ w.heap.size) :
    Calls Try.prog 22 #[a] w fun e w' => ∃ a', e = .returned a' ∧ Hid (Kl.Ts w' a' (compact L)) ∧ Hid (Below base w w') ∧ Hid (∀ b o n c, a' = .slice (some ⟨b, o, none⟩) n c → 0 < n → base ≤ b) := by
  rcases h with ⟨rfl, p, cap, rfl, hc⟩ | ⟨hp, g, cap, rfl, h1, h2, h3, h4, h5⟩
  · refine (Any.slices_Compact_int_empty Try.lays20 p cap w).mono fun e w' ⟨he, hw⟩ => ?_
    subst hw
    exact ⟨_, he, ⟨p, cap, rfl, Nat.zero_le _, hc, fun h => by simp [compact, compactUpTo] at h⟩, Below.refl _ _, fun b o n c e h => by cases e; omega⟩
  · refine (Any.slices_Compact_int Try.lays20 g 0 cap L w h5 (by omega) h3).mono fun e w' hx => ?_
    obtain ⟨he, q, hw⟩ := hx
    have hcl : (compact L).length ≤ L.length := compact_length_le L
    have hbel := Kl.below_put h1 q (compact L ++ List.replicate (L.length - (compact L).length) 0).toArray #[] hb
    rw [grow_empty, ← hw] at hbel
    refine ⟨_, he, ⟨_, cap, rfl, by omega, h4, fun _ => ⟨g, 0, rfl, fun i x hx => ?_⟩⟩, hbel, fun b o n c e _ => by cases e; exact h1⟩
    have hi := (List.getElem?_eq_some_iff.1 hx).1
    rw [hw, cell?_putRow (Value.int .i64) (Sort.ahead w q) g 0 L.toArray _ h5 (by simp; omega) i (by simp; omega)]
    have : (compact L ++ List.replicate (L.length - (compact L).length) 0).toArray[i]! = x := by
      rw [getElem!_pos _ _ (by simp; omega)]
      simp only [List.getElem_toArray]
      rw [List.getElem_append_left hi]
      exact (List.getElem?_eq_some_iff.1 hx).2
    rw [this]
namespace Kl
/-- what Vars answers -/
def VarE (f : Fm) (w : World) (r : Ending) (w' : World) : Prop :=
  ∃ v, r = .returned (.tuple #[v, .int .i64 (erO (isG f))]) ∧ Hid (Ts w' v (if isG f then vr f (gre f + 1).toNat else [])) ∧ Hid (Below w.heap.size w w') ∧ Hid (∀ b o n c, v = .slice (some ⟨b, o, none⟩) n c → 0 < n → w.heap.size ≤ b)
end Kl
set_option maxRecDepth 100000 in
set_option maxHeartbeats 1000000 in
theorem klVars (x : Kl.Fv) (w : World) (hx : Kl.Ok w x) (hs : Kl.sz (Kl.ct x) ≤ 131072) : Calls Try.prog 12 #[.agg x.enc.toArray] w (Kl.VarE (Kl.ct x) w) := by
  have CC := hide' (fun w' (g : Kl.Gr w w') => klCheck x w' (g.ok hx))
  have CG := hide' (fun w' (g : Kl.Gr w w') => klGathered x w.heap.size (.slice none 0 0) [] w' (hx.lt x) g.below.size (by simp; omega) (g.ok hx) (World.ownsRow_nil w' _ _ _))
  rw [Kl.isF_isG _ _ hs] at CC
  have HV := hide' (fun h => Kl.vars_eq (f := Kl.ct x) h)
  have HL := hide' (Nat.le_trans (Kl.gat_len (Kl.ct x)) hs)
  unfold Kl.VarE
  obtain ⟨t, ht⟩ : ∃ t, Kl.isG (Kl.ct x) = t := ⟨_, rfl⟩
  obtain ⟨G, hG⟩ : ∃ G, Kl.gat (Kl.ct x) = G := ⟨_, rfl⟩
  obtain ⟨R, hR⟩ : ∃ R, Kl.vr (Kl.ct x) (Kl.gre (Kl.ct x) + 1).toNat = R := ⟨_, rfl⟩
  simp only [ht, hG, hR, List.nil_append] at CC CG HV HL ⊢
  obtain ⟨xo, xv, xn, xp, xc, xl⟩ := x
  obtain ⟨kx, hkx⟩ : ∃ k, xl.length = k := ⟨_, rfl⟩
  simp only [Kl.Fv.enc, hkx] at CC CG ⊢
  obtain ⟨W, hWd⟩ : ∃ W, w.alloc (.cells #[.int .i64 xo, .int .i64 xv, .int .i64 xn, .slice xp kx xc] 26) = W := ⟨_, rfl⟩
  have HGW : Hid (Kl.Gr w W) := by rw [← hWd]; exact (Kl.Gr.refl _).alloc _
  have HB0 : Hid (W.cell? ⟨w.heap.size, 0, none⟩ = some (.int .i64 xo) ∧ W.cell? ⟨w.heap.size, 1, none⟩ = some (.int .i64 xv) ∧ W.cell? ⟨w.heap.size, 2, none⟩ = some (.int .i64 xn) ∧ W.cell? ⟨w.heap.size, 3, none⟩ = some (.slice xp kx xc)) := by rw [← hWd]; refine ⟨?_, ?_, ?_, ?_⟩ <;> simp
  obtain ⟨g0, g1, g2, g3⟩ := HB0.out
  have HWd := hide' hWd
  clear hx hs ht hG hR hkx hWd HB0
  go_enter Try.func12, Try.ntmps12
  go_wp2_with fail
  rw [HWd.out]
  refine (CC.out W HGW.out).mono ?_
  rintro e w1 ⟨rfl, HG1⟩
  have q0 := HG1.cell g0
  have q1 := HG1.cell g1
  have q2 := HG1.cell g2
  have q3 := HG1.cell g3
  have HG1' := hide' HG1
  clear HG1 g0 g1 g2 g3
  cases t with
  | false =>
    simp only [Kl.erO]
    go_wp2_with fail
    refine bodyPost_ret (v := .tuple #[.slice none 0 0, .int .i64 6]) (by simp [results, Try.results12, go_sem]) rfl ?_
    exact ⟨_, rfl, Kl.Ts.none _, (HGW.out.trans HG1'.out).below, fun b o n c e _ => by cases e⟩
  | true =>
    simp only [Kl.erO]
    go_wp2_with fail
    refine (CG.out w1 (HGW.out.trans HG1'.out)).mono ?_
    rintro e w2 ⟨a, rfl, HO, HB⟩
    clear q0 q1 q2 q3
    have hz2 : w.heap.size ≤ w2.heap.size := Nat.le_trans (HGW.out.trans HG1'.out).below.size HB.out.size
    have CS := hide' (klSortI w.heap.size a G w2 (Kl.SoR.of HO.out) hz2 (by have := HL.out; omega))
    clear HO
    go_wp2_with fail
    refine CS.out.mono ?_
    rintro e w3 ⟨rfl, HS, HB3⟩
    have CP := hide' (klCompactI w.heap.size a _ w3 HS.out (Nat.le_trans hz2 HB3.out.size))
    rw [HV.out trivial] at CP
    clear HS CS
    go_wp2_with fail
    refine CP.out.mono ?_
    rintro e w4 ⟨a', rfl, HT, HB4, HFR⟩
    clear CP
    go_wp2_with fail
    refine bodyPost_ret (v := .tuple #[a', .int .i64 0]) (by simp [results, Try.results12, go_sem]) rfl ?_
    exact ⟨_, rfl, HT, (((HGW.out.trans HG1'.out).below.trans HB.out).trans HB3.out).trans HB4.out, HFR⟩
end Go.Proofs.Ytmpmlccomgepjaa
