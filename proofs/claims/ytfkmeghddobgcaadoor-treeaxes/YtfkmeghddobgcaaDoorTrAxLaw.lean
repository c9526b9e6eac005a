/-
  THE WALK over gimletlaw09.TreeAxes.
-/
import Derived.Test.YtfkmeghddobgcaaDoorTrAlong
import Derived.Test.YtfkmeghddobgcaaDoorTrAwake
import Derived.Test.YtfkmeghddobgcaaDoorTrCopied
namespace Go.Proofs.YtfkmeghddobgcaaDoor
open Go.RowKit Go.Shelf Go.Lib
namespace Tr
theorem alF_1 {E : Nat → Ev Value} {n nd : Nat} {k : Int} (h0 : -1 ≤ k) (h1 : k < nd) : alF E n nd k 1 = (k + 1, bh E n nd k) := by
  unfold alF
  rw [if_neg (by omega), if_pos rfl]
theorem alF_2 {E : Nat → Ev Value} {n nd : Nat} {k : Int} (h0 : -1 ≤ k) (h1 : k < nd) : alF E n nd k 2 = (k, bh E n nd k) := by
  unfold alF
  rw [if_neg (by omega), if_neg (by decide), if_pos rfl]
theorem alF_3 {E : Nat → Ev Value} {n nd : Nat} {k : Int} (h0 : -1 ≤ k) (h1 : k < nd) : alF E n nd k 3 = (k, k + 1) := by
  unfold alF
  rw [if_neg (by omega), if_neg (by decide), if_neg (by decide), if_pos rfl]
theorem numL_one (k : Int) : numL k (k + 1) = [k] := by
  rw [numL_step (by omega), numL_nil (by omega)]
/-- the tree stands, and nothing old has changed -/
structure AX (w : World) (B D n : Nat) (E : Nat → Ev Value) (L q cap nd : Nat) (W : World) : Prop where
  bel : Below w.heap.size w W
  tr : TreeR W B D n E L q cap nd
theorem AX.go {w W W' : World} {B D n : Nat} {E : Nat → Ev Value} {L q cap nd : Nat} (h : AX w B D n E L q cap nd W) (hb : Below W.heap.size W W') : AX w B D n E L q cap nd W' :=
  ⟨h.bel.trans (hb.mono h.bel.size), h.tr.below hb⟩
theorem take_snoc {α : Type} (l : List α) (i : Nat) (c : α) (h : l[i]? = some c) : l.take (i + 1) = l.take i ++ [c] := by
  rw [List.take_add_one, h]
  rfl
/-- while the children are gone through -/
structure AS (wb : World) (v : Value) (ls : List Int) (W : World) : Prop where
  bel : Below wb.heap.size wb W
  io : IO W wb.heap.size v ls
/-- a child with what is in it -/
def fam (E : Nat → Ev Value) (n nd : Nat) (c : Int) : List Int := c :: numL (c + 1) (bh E n nd c)
theorem fam_take (E : Nat → Ev Value) (n nd : Nat) (l : List Int) (i : Nat) (c : Int) (h : l[i]? = some c) : (l.take (i + 1)).flatMap (fam E n nd) = (l.take i).flatMap (fam E n nd) ++ [c] ++ numL (c + 1) (bh E n nd c) := by
  rw [take_snoc l i c h, List.flatMap_append, List.append_assoc, List.flatMap_cons, List.flatMap_nil, List.append_nil]
  rfl
theorem fam_len (E : Nat → Ev Value) (n nd : Nat) (l : List Int) (i : Nat) : ((l.take i).flatMap (fam E n nd)).length ≤ (l.flatMap (fam E n nd)).length := by
  have h : ((l.take i ++ l.drop i).flatMap (fam E n nd)).length = (l.flatMap (fam E n nd)).length := by rw [List.take_append_drop]
  rw [List.flatMap_append, List.length_append] at h
  omega
theorem grown_below {wb w w' : World} {v : Value} {l : List Int} (hb : Below wb.heap.size wb w) (hi : IO w wb.heap.size v l) (o : Obj) (hg : (w.alloc o).grownBy w' v.ownBlock) : Below wb.heap.size wb w' :=
  (hb.alloc hb.size o).grown hg (by have := hb.size; simp; omega) (fun g e => (hi.lt g e).1)
theorem grown_below0 {wb w w' : World} {v : Value} {l : List Int} (hb : Below wb.heap.size wb w) (hi : IO w wb.heap.size v l) (hg : w.grownBy w' v.ownBlock) : Below wb.heap.size wb w' :=
  hb.grown hg hb.size (fun g e => (hi.lt g e).1)
end Tr
set_option maxRecDepth 100000 in
set_option maxHeartbeats 4000000 in
theorem lawAxes (v : Value) (n : Nat) (E : Nat → Tr.Ev Value) (w : World) (hE : Tr.Evs w v n E) (hs : ∀ i, i < n → Tr.Small (E i)) (hn : n ≤ 1466015503658) (hS : Spans w) (hT : Lib.Utf8Tabs 1 2 w) :
    Calls Tryd.prog 4 #[v] w fun r w' => r = .returned (.bool true) ∧ Below w.heap.size w w' := by
  have HE := hide' hE
  have HS := hide' hS
  have HT := hide' hT
  have HSM := hide' hs
  have C1 := hide' (trAwake w hS hT)
  clear hE hS hT hs
  go_enter Tryd.func4, Tryd.ntmps4
  go_wp2_with fail
  refine C1.out.mono ?_
  rintro e w1 ⟨rfl, hb1⟩
  have H1 := hide' hb1
  clear hb1 C1
  have C2 := hide' (trCopied v n E w1 (HE.out.below H1.out (Nat.le_refl _)) HSM.out hn)
  go_wp2_with fail
  refine C2.out.mono ?_
  rintro e w2 ⟨L0, E1, rfl, hc⟩
  have HC := hide' hc
  have H2 := hide' (H1.out.trans (hc.bel.mono H1.out.size))
  have HAL : Hid (Tr.Alike n E E1) := fun i hi => hc.eq i hi
  clear hc C2 H1
  have C2 := hide' (trBuild _ n E1 w2 (HC.out.evs hn) (HAL.out.small HSM.out) hn (HS.out.below H2.out (Nat.le_refl _)) (tabs_below HT.out H2.out (Nat.le_refl _)))
  clear HC HAL HSM HS HT HE
  go_wp2_with fail
  refine C2.out.mono ?_
  rintro e w3 ⟨hb3, (⟨_, rfl⟩ | ⟨-, D, E2, L, q, cap, nd, rfl, -, hR⟩)⟩
  · clear C2
    go_wp2_with fail
    go_ret
    exact ⟨rfl, H2.out.trans (hb3.mono H2.out.size)⟩
  clear C2
  have HX : Hid (Tr.AX w w2.heap.size D n E2 L q cap nd w3) := ⟨H2.out.trans (hb3.mono H2.out.size), hR⟩
  have HSH := hide' hR.shp
  have CL : Hid (∀ W, Tr.AX w w2.heap.size D n E2 L q cap nd W → _) := fun W h => trLen W _ D n E2 L q cap nd h.tr
  clear hR hb3 H2
  go_wp2_with fail
  refine (CL.out w3 HX.out).mono ?_
  rintro e w4 ⟨rfl, rfl⟩
  by_cases t4 : ¬ (nd : Int) ≤ 400
  · clear CL HSH
    go_wp2_with fail
    go_ret
    exact ⟨rfl, HX.out.bel⟩
  have h4 : (nd : Int) ≤ 400 := by omega
  clear t4
  have hnd : nd ≤ 900 := by omega
  go_wp2_with fail
  go_loopw [5] (fun v wr => ∃ k : Int, v = .int .i64 k ∧ -1 ≤ k ∧ k ≤ nd ∧ Hid (Tr.AX w w2.heap.size D n E2 L q cap nd wr)) (fun v _ => ((nd : Int) - RowKit.intOf v).toNat)
  case atStart => exact ⟨-1, rfl, by omega, by omega, HX⟩
  case round =>
    clear HX
    obtain ⟨k, rfl, hk0, hk1, HX⟩ := hrel
    go_wp2_with fail
    refine (CL.out wr HX.out).mono ?_
    rintro e w5 ⟨rfl, rfl⟩
    by_cases hge : ¬ k < (nd : Int)
    · clear CL HSH
      go_wp2_with fail
      go_ret
      exact ⟨rfl, HX.out.bel⟩
    have hlt : k < (nd : Int) := by omega
    clear hge
    have C1 := hide' (trAlongL w5 _ D n E2 L q cap nd HX.out.tr hnd k 1 (by decide))
    have e1 := Tr.alF_1 (E := E2) (n := n) hk0 hlt
    rw [e1] at C1
    dsimp only at C1
    obtain ⟨la, hla⟩ : ∃ la, Tr.numL (k + 1) (Tr.bh E2 n nd k) = la := ⟨_, rfl⟩
    have hlal : la.length ≤ 500 := by
      rw [← hla, Tr.numL_length]
      have := (Tr.bh_up HSH.out hk0 hlt).2
      omega
    have HLA := hide' hla
    rw [hla] at C1
    clear hla e1
    go_wp2_with fail
    refine C1.out.mono ?_
    rintro e wa ⟨va, rfl, hIa, hba⟩
    obtain ⟨pa, ca, rfl, _, _, _, hca⟩ := hIa.row
    obtain ⟨na, hna⟩ : ∃ na, la.length = na := ⟨_, rfl⟩
    rw [hna] at hlal hIa ⊢
    have HIA := hide' hIa
    have HNA := hide' hna
    have HXA := hide' (HX.out.go hba)
    clear hIa hba hca hna C1
    have C2 := hide' (trAlongCL wa _ D n E2 L q cap nd HXA.out.tr hnd k hk0 hlt)
    obtain ⟨lc, hlc⟩ : ∃ lc, Tr.chL E2 n nd k = lc := ⟨_, rfl⟩
    rw [hlc] at C2
    have HLC := hide' hlc
    clear hlc
    go_wp2_with fail
    refine C2.out.mono ?_
    rintro e wb ⟨vb, rfl, hIb, hbb⟩
    obtain ⟨pb, cb, rfl, hpb1, hpb2, _, hcb⟩ := hIb.row
    obtain ⟨nb, hnb⟩ : ∃ nb, lc.length = nb := ⟨_, rfl⟩
    rw [hnb] at hcb ⊢
    have HIB := hide' hIb
    have HNB := hide' hnb
    have HCB := hide' hcb
    have HXB := hide' (HXA.out.go hbb)
    have HIA2 := hide' (HIA.out.below hbb)
    clear hIb hbb hcb hnb C2 hpb1 hpb2
    go_wp2_with fail
    have HFL : Hid (lc.flatMap (Tr.fam E2 n nd) = la) := by
      show _ = _
      rw [← HLC.out, ← HLA.out]
      exact Tr.chL_flat HSH.out hk0 hlt
    have HPR : Hid (∀ c ∈ lc, k + 1 ≤ c ∧ c < (nd : Int) ∧ ((Tr.grun E2 n).nth c.toNat).par = k) := by
      show ∀ c ∈ lc, _
      rw [← HLC.out]
      exact fun c hc => ⟨(Tr.chL_mem hc).1, by have := (Tr.chL_mem hc).2; have := (Tr.bh_up HSH.out hk0 hlt).2; omega, Tr.chL_par HSH.out hk0 hlt c hc⟩
    go_loopw [7, 9] (fun v7 v9 wr => ∃ (i m7 c7 : Nat) (p7 : Option Addr) (ls : List Int), v7 = .slice p7 m7 c7 ∧ v9 = .int .i64 i ∧ i ≤ nb ∧ Hid ((lc.take i).flatMap (Tr.fam E2 n nd) = ls) ∧ Hid (Tr.AS wb (.slice p7 m7 c7) ls wr)) (fun _ v9 _ => nb - (RowKit.intOf v9).toNat)
    case atStart => exact ⟨0, 0, 0, none, [], rfl, rfl, Nat.zero_le _, rfl, ⟨Below.refl _ _, Tr.io_nil _ _⟩⟩
    case round =>
      obtain ⟨i, m7, c7, p7, ls, rfl, rfl, hi, HLS, HAS⟩ := hrel
      by_cases hin : i < nb
      · obtain ⟨b0, o0, rfl, hcc⟩ := HCB.out (by omega)
        obtain ⟨c, hc⟩ : ∃ c, lc[i]? = some c := ⟨_, List.getElem?_eq_getElem (by have := HNB.out; omega)⟩
        have hcw : wb.cell? ⟨b0, o0 + i, none⟩ = some (.int .i64 c) := hcc i c hc
        have hcr : wr.cell? ⟨b0, o0 + i, none⟩ = some (.int .i64 c) := (HAS.out.bel.cell (p := ⟨b0, o0 + i, none⟩) (block_lt_of_cell hcw)).trans hcw
        obtain ⟨hc1, hc2, hc3⟩ := HPR.out c (List.mem_of_getElem? hc)
        have hls2 := Tr.fam_take E2 n nd lc i c hc
        rw [HLS.out] at hls2
        have hlen := Tr.fam_len E2 n nd lc (i + 1)
        rw [HFL.out, hls2] at hlen
        have C1 := hide' (trParent wr _ D n E2 L q cap nd (HXB.out.go HAS.out.bel).tr c)
        rw [if_neg (by omega), hc3] at C1
        have HLS2 := hide' hls2
        have HLN := hide' hlen
        have HCW := hide' hcw
        have t1 : (i : Int) < (nb : Int) := by omega
        have t0 : (0 : Int) ≤ i := by omega
        have tw : IntKind.i64.wrap ((i : Int) + 1) = (i : Int) + 1 := by rw [IntKind.wrap_i64]; have := HNB.out; have h2 := Tr.chL_len (E := E2) (n := n) (nd := nd) (k := k); rw [HLC.out] at h2; have := (Tr.bh_up HSH.out hk0 hlt).2; omega
        have HC1 := hide' hc1
        have HC2 := hide' hc2
        clear hls2 hlen hcw hc hcc hc1 hc2 hc3 HIA HIA2 HIB HX HXA HLA HLC HFL HPR HCB CL
        go_wp2_with fail
        refine C1.out.mono ?_
        rintro e w6 ⟨rfl, rfl⟩
        clear C1
        have HI6 := hide' (HAS.out.io.below ((Below.refl _ _).alloc (Nat.le_refl _) (.cells #[.int .i64 c] 3)))
        have hll : ls.length + 1 ≤ 1000 := by
          have := HLN.out
          rw [HNA.out] at this
          simp at this
          omega
        have hsz6 := HAS.out.bel.size
        go_wp2_with (at_builtin; refine Tr.append_ints (by simp [Region.wanted]) _ _ rfl wb.heap.size w6.heap.size _ _ ls [c] rfl HI6.out rfl (Tr.io_new w6 c) ?c1 ?c2 ?_)
        case c1 => simp; omega
        case c2 => simp; omega
        intro v8 wx hI8 hg8
        have hbx := Tr.grown_below HAS.out.bel HAS.out.io _ hg8
        obtain ⟨p8, c8, rfl, _⟩ := Tr.owns_sl hI8
        have hcx : wx.cell? ⟨b0, o0 + i, none⟩ = some (.int .i64 c) := (hbx.cell (p := ⟨b0, o0 + i, none⟩) (block_lt_of_cell HCW.out)).trans HCW.out
        have C2 := hide' (trAlongL wx _ D n E2 L q cap nd (HXB.out.go hbx).tr hnd c 1 (by decide))
        rw [Tr.alF_1 (by have := HC1.out; omega) HC2.out] at C2
        dsimp only at C2
        have hls2 := HLS2.out
        have hlen := HLN.out
        rw [HNA.out] at hlen
        obtain ⟨l8, hl8⟩ : ∃ l8, ls ++ [c] = l8 := ⟨_, rfl⟩
        obtain ⟨l9, hl9⟩ : ∃ l9, Tr.numL (c + 1) (Tr.bh E2 n nd c) = l9 := ⟨_, rfl⟩
        rw [hl8, hl9] at hls2 hlen
        rw [hl9] at C2
        rw [hl8] at hI8 ⊢
        rw [List.length_append] at hlen
        have HL8 := hide' hls2
        have HN8 := hide' hlen
        obtain ⟨m8, hm8⟩ : ∃ m8, l8.length = m8 := ⟨_, rfl⟩
        rw [hm8] at hI8 ⊢
        clear hls2 hlen hl8 hl9 HLS2 HLN
        have HI8 := hide' hI8
        have HBX := hide' hbx
        clear hI8 hbx hg8 HI6 hsz6 hm8
        go_wp2_with fail
        refine C2.out.mono ?_
        rintro e wy ⟨v9, rfl, hI9, hb9⟩
        have hb9' := HBX.out.trans (hb9.mono HBX.out.size)
        have HB9 := hide' hb9'
        have HI9 := hide' hI9
        have HI8' := hide' (HI8.out.below hb9)
        clear hI9 hb9 hb9' C2 HI8
        have HLL : Hid (l8.length + l9.length ≤ 1000000) := by have := HN8.out; show _ ≤ _; omega
        go_wp2_with (at_builtin; refine Tr.append_ints (by simp [Region.wanted]) _ _ rfl wb.heap.size wx.heap.size _ _ l8 l9 rfl HI8'.out rfl HI9.out HLL.out HB9.out.size ?_)
        intro v10 wz hI10 hg10
        have hbz := Tr.grown_below0 HB9.out HI8'.out hg10
        obtain ⟨p10, c10, rfl, _⟩ := Tr.owns_sl hI10
        rw [← HL8.out] at hI10 ⊢
        obtain ⟨m10, hm10⟩ : ∃ m10, ((lc.take (i + 1)).flatMap (Tr.fam E2 n nd)).length = m10 := ⟨_, rfl⟩
        rw [hm10] at hI10 ⊢
        have HFIN : Hid (Tr.AS wb (.slice p10 m10 c10) ((lc.take (i + 1)).flatMap (Tr.fam E2 n nd)) wz) := ⟨hbz, hI10⟩
        clear hI10 hg10 hbz hm10 HLL HI8' HI9 HB9
        go_wp2_with fail
        exact ⟨⟨i + 1, m10, c10, p10, _, rfl, rfl, by omega, rfl, HFIN⟩, by simp [RowKit.intOf]; omega⟩
      · obtain rfl : i = nb := by omega
        have hls : ls = la := by
          have h1 := HLS.out
          rw [← HNB.out, List.take_length, HFL.out] at h1
          exact h1.symm
        subst hls
        have hro := HAS.out.io.row
        obtain ⟨p7', c7', e7, hro2⟩ := id hro
        obtain ⟨rfl, rfl, rfl⟩ : p7 = p7' ∧ m7 = ls.length ∧ c7 = c7' := by cases e7; exact ⟨rfl, rfl, rfl⟩
        have hrn := HNA.out
        rw [hrn] at hro ⊢
        have C1 := hide' (trInts wr _ _ na ls hro (by have := (HIA2.out.below HAS.out.bel).row; rw [hrn] at this; exact this) (by omega))
        have t1 : ¬ (i : Int) < (i : Int) := by omega
        have HIA3 := hide' (HIA2.out.below HAS.out.bel)
        have HXC := hide' (HXB.out.go HAS.out.bel)
        have HK : Hid (Tr.numL k (Tr.bh E2 n nd k) = k :: ls) := by
          show _ = _
          rw [Tr.numL_step (Tr.bh_up HSH.out hk0 hlt).1, HLA.out]
        have HG : Hid (∀ j, j < na → ls[j]? = some (k + 1 + (j : Int))) := by
          show ∀ j, j < na → _
          intro j hj
          rw [← HLA.out]
          refine Tr.numL_get _ _ _ ?_
          have h9 := hrn
          rw [← HLA.out, Tr.numL_length] at h9
          omega
        clear hro2 hro hrn e7 HLS HAS HPR HFL HCB HIB HNB HIA2 HXB HIA HX HXA HLC HLA hi hin
        go_wp2_with fail
        refine C1.out.mono ?_
        rintro e w7 ⟨rfl, hb7⟩
        have HX7 := hide' (HXC.out.go hb7)
        have HI7 := hide' (HIA3.out.below hb7)
        clear hb7 C1 HIA3 HXC
        have C2 := hide' (trAlongL w7 _ D n E2 L q cap nd HX7.out.tr hnd k 3 (by decide))
        rw [Tr.alF_3 hk0 hlt] at C2
        dsimp only at C2
        rw [Tr.numL_one] at C2
        go_wp2_with fail
        refine C2.out.mono ?_
        rintro e w8 ⟨v8, rfl, hI8, hb8⟩
        have hb8a : Below w8.heap.size w8 (w8.alloc (.cells #[.int .i64 k] 3)) := (Below.refl _ _).alloc (Nat.le_refl _) _
        have C3 := hide' (trInts (w8.alloc (.cells #[.int .i64 k] 3)) v8 (.slice (some ⟨w8.heap.size, 0, none⟩) 1 1) 1 [k] (hI8.below hb8a).row (Tr.io_new w8 k).row (by omega))
        have HX8 := hide' ((HX7.out.go hb8).go hb8a)
        have HI8 := hide' ((HI7.out.below hb8).below hb8a)
        clear hb8 hb8a hI8 C2 HX7 HI7
        go_wp2_with fail
        refine C3.out.mono ?_
        rintro e w9 ⟨rfl, hb9⟩
        have HX9 := hide' (HX8.out.go hb9)
        have HI9 := hide' (HI8.out.below hb9)
        clear hb9 C3 HX8 HI8
        have C2 := hide' (trAlongL w9 _ D n E2 L q cap nd HX9.out.tr hnd k 2 (by decide))
        rw [Tr.alF_2 hk0 hlt] at C2
        dsimp only at C2
        rw [HK.out] at C2
        go_wp2_with fail
        refine C2.out.mono ?_
        rintro e wA ⟨vA, rfl, hIA, hbA⟩
        have hbAa : Below wA.heap.size wA (wA.alloc (.cells #[.int .i64 k] 3)) := (Below.refl _ _).alloc (Nat.le_refl _) _
        have HXA := hide' (HX9.out.go hbA)
        have HIB := hide' ((HI9.out.below hbA).below hbAa)
        have HIB0 := hide' (HI9.out.below hbA)
        have HIV := hide' hIA
        have hz9 : w9.heap.size ≤ wA.heap.size := hbA.size
        clear hbA hbAa hIA C2 HX9 HI9
        have HN : Hid ([k].length + ls.length ≤ 1000000) := by have := HNA.out; show _ ≤ _; rw [this]; simp; omega
        go_wp2_with (at_builtin; refine Tr.append_ints (by simp [Region.wanted, yielded, go_sem]) _ _ rfl wA.heap.size _ _ _ [k] ls rfl (Tr.io_new wA k) rfl HIB.out HN.out (by simp) ?_)
        intro vB wB hIB hgB
        have hbB : Below wA.heap.size wA wB := ((Below.refl wA.heap.size wA).alloc (Nat.le_refl _) _).grown hgB (by simp) (fun g e => by cases e; exact Nat.le_refl _)
        have C3 := hide' (trInts wB vA vB _ (k :: ls) (HIV.out.below hbB).row hIB.row (by have := HN.out; simp at this ⊢; omega))
        have HXB := hide' (HXA.out.go hbB)
        have HIC := hide' (HIB0.out.below hbB)
        clear hIB hgB hbB HXA HIB HIB0 HIV HN hz9
        go_wp2_with fail
        refine C3.out.mono ?_
        rintro e wC ⟨rfl, hbC⟩
        have HXC := hide' (HXB.out.go hbC)
        have HID := hide' (HIC.out.below hbC)
        clear hbC C3 HXB HIC
        have tw1 : IntKind.i64.wrap (k + 1) = k + 1 := by rw [IntKind.wrap_i64]; omega
        go_wp2_with fail
        go_loopw [12] (fun v wr => ∃ j : Nat, v = .int .i64 j ∧ j ≤ na ∧ Hid (Tr.AX w w2.heap.size D n E2 L q cap nd wr) ∧ Hid (Tr.IO wr w5.heap.size (.slice pa na ca) ls)) (fun v _ => na - (RowKit.intOf v).toNat)
        case atStart => exact ⟨0, rfl, Nat.zero_le _, HXC, HID⟩
        case round =>
          clear HXC HID
          obtain ⟨j, rfl, hj, HXD, HIE⟩ := hrel
          by_cases hjn : j < na
          · obtain ⟨pa', ca', ea, _, _, _, hca⟩ := HIE.out.row
            obtain ⟨rfl, -, rfl⟩ : pa = pa' ∧ na = ls.length ∧ ca = ca' := by cases ea; exact ⟨rfl, rfl, rfl⟩
            rw [HNA.out] at hca
            obtain ⟨b0, o0, rfl, hcc⟩ := hca (by omega)
            have hcr := hcc j _ (HG.out j hjn)
            have t1 : (j : Int) < (na : Int) := by omega
            have t0 : (0 : Int) ≤ j := by omega
            have tw : IntKind.i64.wrap ((j : Int) + 1) = (j : Int) + 1 := by rw [IntKind.wrap_i64]; omega
            have tw2 : IntKind.i64.wrap (k + 1 + (j : Int)) = k + 1 + (j : Int) := by rw [IntKind.wrap_i64]; omega
            clear hcc hca ea HG HK HSH CL
            go_wp2_with fail
            exact ⟨⟨j + 1, rfl, by omega, HXD, HIE⟩, by simp [RowKit.intOf]; omega⟩
          · have t1 : ¬ (j : Int) < (na : Int) := by omega
            clear HG HK HSH CL
            go_wp2_with fail
            exact ⟨⟨k + 1, rfl, by omega, by omega, HXD⟩, by simp [RowKit.intOf]; omega⟩
end Go.Proofs.YtfkmeghddobgcaaDoor
