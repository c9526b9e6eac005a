/-
  THE WALK over gimletlaw09.TreeMemory.
-/
import Derived.Test.YtghinafbdclmoaaDoorTrAwake
import Derived.Test.YtghinafbdclmoaaDoorTrSame
import Derived.Test.YtghinafbdclmoaaDoorTrSpoil
import Derived.Test.YtghinafbdclmoaaDoorTrNil
namespace Go.Proofs.YtghinafbdclmoaaDoor
open Go.RowKit Go.Shelf Go.Lib
namespace Tr
theorem gstep_fst {E : Nat → Ev Value} {g : Gs} {i : Nat} (h0 : 0 < g.ns.length) (h : (g.nth 0).fst = 0) : 0 < (gstep E g i).ns.length ∧ ((gstep E g i).nth 0).fst = 0 := by
  unfold gstep
  split
  · exact ⟨by simp, by unfold Gs.nth at h ⊢; dsimp only; rw [List.getElem?_append_left h0]; exact h⟩
  · split
    · exact ⟨by simp, by unfold Gs.nth at h ⊢; dsimp only; rw [List.getElem?_append_left h0]; exact h⟩
    · refine ⟨by simpa using h0, ?_⟩
      unfold Gs.nth at h ⊢
      by_cases c : g.last.toNat = 0
      · rw [c]
        simpa [h0] using h
      · simpa [List.getElem?_set_ne c] using h
theorem fst0 {ok : Ev Value → Bool} {E : Nat → Ev Value} : ∀ (i : Nat) (s : Ds), drun ok E (i + 1) = some s → 0 < (grun E (i + 1)).ns.length ∧ ((grun E (i + 1)).nth 0).fst = 0
  | 0, s, h => by
    have h1 : dstep ok E ⟨[], 0⟩ 0 = some s := h
    unfold dstep at h1
    simp at h1
    have h2 : (E 0).kind = 0 := h1.1
    show 0 < (gstep E ⟨[], -1⟩ 0).ns.length ∧ ((gstep E ⟨[], -1⟩ 0).nth 0).fst = 0
    unfold gstep
    rw [if_pos h2]
    exact ⟨by simp, by simp [Gs.nth]⟩
  | i + 1, s, h => by
    have h1 : ∃ s', drun ok E (i + 1) = some s' := by
      unfold drun at h
      split at h
      · cases h
      · exact ⟨_, by assumption⟩
    obtain ⟨s', h1⟩ := h1
    obtain ⟨a, b⟩ := fst0 i s' h1
    exact gstep_fst a b
theorem doc_fst {ok : Ev Value → Bool} {E : Nat → Ev Value} {n : Nat} (h : doc ok E n = true) : 0 < n ∧ ((grun E n).nth 0).fst = 0 := by
  obtain ⟨nd, h1, h2⟩ := doc_shape h
  have := h2.pos
  have := h2.ndn
  obtain ⟨m, rfl⟩ : ∃ m, n = m + 1 := ⟨n - 1, by omega⟩
  exact ⟨by omega, (fst0 m _ h1).2⟩
theorem owns_setCell {w : World} {B : Nat} {e : TypeId} {size : Nat} {n cap g : Nat} {xs : List Value} (h : w.ownsRow B e size (.slice (some ⟨g, 0, none⟩) n cap) n xs) (o : Nat) (u : Value) : ∃ xs', (w.setCell ⟨g, o, none⟩ u).ownsRow B e size (.slice (some ⟨g, 0, none⟩) n cap) n xs' := by
  rcases h.2 with ⟨h1, _⟩ | ⟨g', cap', cur, hv, hb1, hg, hc, hm, hsz, hx⟩
  · cases h1
  · cases hv
    have hle : n * size ≤ cap * size := Nat.mul_le_mul_right _ hc
    exact ⟨_, by rw [List.length_take, Array.length_toList, Array.size_setIfInBounds]; omega, .inr ⟨g, cap, cur.setIfInBounds o u, rfl, hb1, Go.Joins.block_setCell (i := o) hg u, hc, hm, by rw [Array.size_setIfInBounds]; exact hsz, rfl⟩⟩
theorem Alike.trans {n : Nat} {E E' E'' : Nat → Ev Value} (h : Alike n E E') (k : Alike n E' E'') : Alike n E E'' := fun i hi => by
  have h1 := k i hi
  rw [h i hi] at h1
  exact h1
/-- events that were appended to -/
theorem evs_appended {wb w14 w15 : World} {B n Lb cb : Nat} {pb : Option Addr} {xb new : List Value} {E Eb : Nat → Ev Value} (hown : wb.ownsRow 0 39 8 (.slice pb (n + 1) cb) (n + 1) (xb ++ new)) (hxb : w15.ownsRow B 39 8 (.slice (some ⟨Lb, 0, none⟩) n n) n xb) (hc : Cpy w14 Lb n n E Eb w15) (hn : n ≤ 1466015503658)
    (hk : ∀ k, k < n → ∀ g, (Eb k).av.ownBlock = some g → g < w15.heap.size → wb.heap[g]? = w15.heap[g]?) : Evs wb (.slice pb n cb) n Eb := by
  obtain ⟨p, cap, e, h1, h2, h3, h4⟩ := owns_sl hown
  cases e
  obtain ⟨g, rfl⟩ := h3 (by omega)
  refine ⟨⟨_, cb, rfl, by omega, h2, (fun e => by cases e), fun _ => ⟨g, 0, rfl, fun i j u hi hu => ?_⟩⟩, fun i hi => ?_⟩
  · have h8 : j < 8 := by have := (Array.getElem?_eq_some_iff.1 hu).1; exact this
    have hlen : i * 8 + j < xb.length := by rw [hxb.1]; omega
    have a1 := hc.rng i hi j u (by rw [Array.getElem?_toList]; exact hu)
    have a2 := hxb.cells (g := Lb) rfl (i * 8 + j) _ (List.getElem?_eq_getElem hlen)
    rw [Go.WideShapes.add_plain, Nat.zero_add] at a2
    have a3 : xb[i * 8 + j] = u := Option.some.inj (a2.symm.trans a1)
    have a4 := hown.cells (g := g) rfl (i * 8 + j) u (by rw [List.getElem?_append_left hlen, List.getElem?_eq_getElem hlen, a3])
    rw [Go.WideShapes.add_plain, Nat.zero_add] at a4
    rw [Nat.zero_add]
    exact a4
  · have a1 := ((hc.att i hi).1.keep (hk i hi)).row
    rw [hc.eq i hi]
    exact a1
/-- while the answered node's attributes are written over -/
structure VL (w0 : World) (Bv : Nat) (p : Option Addr) (m c : Nat) (wr : World) : Prop where
  bel : Below w0.heap.size w0 wr
  box : ∃ CB, wr.heap[Bv]? = some (.cells CB 39 (0, 0)) ∧ CB[4]? = some (.slice p m c)
  own : Wr wr (.slice p m c) m
  low : w0.heap.size ≤ Bv
  ne : ∀ g, (Value.slice p m c).ownBlock = some g → w0.heap.size ≤ g ∧ g ≠ Bv
theorem VL.cell {w0 wr : World} {Bv m c : Nat} {p : Option Addr} (h : VL w0 Bv p m c wr) : wr.cell? ⟨Bv, 4, none⟩ = some (.slice p m c) ∧ wr.frozen? ⟨Bv, 4, none⟩ = false := by
  obtain ⟨CB, h1, h2⟩ := h.box
  exact ⟨by rw [Lib.cell_of_heap h1]; exact h2, Lib.frozen_of_heap h1 _⟩
theorem VL.step {w0 wr : World} {Bv m c k : Nat} {p : Option Addr} (h : VL w0 Bv p m c wr) (hk : k < m) (u : Value) :
    ∃ b x, p = some ⟨b, 0, none⟩ ∧ wr.cell? ⟨b, k * 2 + 1, none⟩ = some x ∧ wr.frozen? ⟨b, k * 2 + 1, none⟩ = false ∧ VL w0 Bv p m c (wr.setCell ⟨b, k * 2 + 1, none⟩ u) := by
  obtain ⟨xs, hx⟩ := h.own
  rcases id hx.2 with ⟨_, e⟩ | ⟨g, cap, cur, hv, _, hg, hc, _, hsz, _⟩
  · omega
  · cases hv
    have hb := h.ne g rfl
    have hlt : k * 2 + 1 < cur.size := by omega
    refine ⟨g, cur[k * 2 + 1], rfl, ?_, Lib.frozen_of_heap hg _, ?_⟩
    · rw [Lib.cell_of_heap hg, Array.getElem?_eq_getElem hlt]
    · obtain ⟨CB, h1, h2⟩ := h.box
      exact ⟨h.bel.setCell (p := ⟨g, k * 2 + 1, none⟩) hb.1 u, ⟨CB, (Below.heap_setCell _ _ _ _ (Ne.symm hb.2)).trans h1, h2⟩, owns_setCell hx _ _, h.low, h.ne⟩
end Tr
set_option maxRecDepth 100000 in
set_option maxHeartbeats 4000000 in
theorem lawMemory (v : Value) (n : Nat) (E : Nat → Tr.Ev Value) (w : World) (hE : Tr.Evs w v n E) (hs : ∀ i, i < n → Tr.Small (E i)) (hn : n ≤ 1466015503658) (hS : Spans w) (hT : Lib.Utf8Tabs 1 2 w) :
    Calls Tryd.prog 6 #[v] w fun r w' => r = .returned (.bool true) ∧ Below w.heap.size w w' := by
  have HE := hide' hE
  have HS := hide' hS
  have HT := hide' hT
  have HSM := hide' hs
  clear hE hS hT hs
  have C1 := hide' (nilNode 0 w)
  go_enter Tryd.func6, Tryd.ntmps6
  go_wp2_with fail
  refine C1.out.mono ?_
  rintro e w1 ⟨rfl, hb1⟩
  have H1 := hide' hb1
  clear hb1 C1
  have C2 := hide' (nilParent 0)
  go_wp2_with fail
  refine (C2.out _).mono ?_
  rintro e w2 ⟨rfl, e2⟩
  have H2 : Hid (Below w.heap.size w w2) := by show Below _ _ _; rw [e2]; exact H1.out.alloc H1.out.size _
  clear C2 H1 e2
  have C2 := hide' (nilValue (-1) w2)
  go_wp2_with fail
  refine C2.out.mono ?_
  rintro e w3 ⟨rfl, hb3⟩
  have H3 := hide' (H2.out.trans (hb3.mono H2.out.size))
  clear hb3 H2 C2
  have C2 := hide' (nilPrint (-1) w3)
  go_wp2_with fail
  refine C2.out.mono ?_
  rintro e w4 ⟨rfl, rfl⟩
  clear C2
  have C2 := hide' (nilLen w4)
  go_wp2_with fail
  refine C2.out.mono ?_
  rintro e w5 ⟨rfl, rfl⟩
  clear C2
  have C2 := hide' (nilEvents w5)
  go_wp2_with fail
  refine C2.out.mono ?_
  rintro e w6 ⟨rfl, rfl⟩
  clear C2
  have C2 := hide' (nilAlongList (-1) 2 w6)
  go_wp2_with fail
  refine C2.out.mono ?_
  rintro e w7 ⟨rfl, hb7⟩
  have H7 := hide' (H3.out.trans (hb7.mono H3.out.size))
  clear hb7 H3 C2
  have C2 := hide' (trAwake w7 (HS.out.below H7.out (Nat.le_refl _)) (tabs_below HT.out H7.out (Nat.le_refl _)))
  go_wp2_with fail
  refine C2.out.mono ?_
  rintro e w8 ⟨rfl, hb8⟩
  have H8 := hide' (H7.out.trans (hb8.mono H7.out.size))
  clear hb8 H7 C2
  have C2 := hide' (trCopied v n E w8 (HE.out.below H8.out (Nat.le_refl _)) HSM.out hn)
  go_wp2_with fail
  refine C2.out.mono ?_
  rintro e w9 ⟨L, E1, rfl, hc⟩
  have HC := hide' hc
  have H9 := hide' (H8.out.trans (hc.bel.mono H8.out.size))
  clear hc C2
  have hal : Tr.Alike n E E1 := fun i hi => HC.out.eq i hi
  have HAL := hide' hal
  clear hal
  have C2 := hide' (trBuild _ n E1 w9 (HC.out.evs hn) (HAL.out.small HSM.out) hn (HS.out.below H9.out (Nat.le_refl _)) (tabs_below HT.out H9.out (Nat.le_refl _)))
  go_wp2_with fail
  refine C2.out.mono ?_
  rintro e w10 ⟨hb10, (⟨_, rfl⟩ | ⟨hdoc, D, E2, Lt, q, cap, nd, rfl, hal2, hR⟩)⟩
  · clear C2 HE HS HT HSM H8 HC HAL
    go_wp2_with fail
    go_ret
    exact ⟨rfl, H9.out.trans (hb10.mono H9.out.size)⟩
  clear C2
  have hL : w.heap.size ≤ L := Nat.le_trans H8.out.size HC.out.low
  have hs2 := (hal2.small (HAL.out.small HSM.out))
  have hdoc2 : Tr.doc Tr.okB E2 n = true := by rw [hal2.doc]; exact hdoc
  obtain ⟨hn0, hf0⟩ := Tr.doc_fst hdoc2
  have hpos := hR.shp.pos
  have CS := hide' (trSpoil w9.heap.size w10 L n E1 (HC.out.spo hb10) hn)
  have HR10 := hide' hR
  have HS2 := hide' hs2
  have HA2 := hide' hal2
  have HF0 := hide' hf0
  have H10 := hide' (H9.out.trans (hb10.mono H9.out.size))
  clear hR hs2 hal2 hdoc hdoc2 hf0 hb10 HSM HS HT HC H9
  go_wp2_with fail
  refine CS.out.mono ?_
  rintro e w11 ⟨⟨u0, rfl⟩, hk11⟩
  have HR11 := hide' (HR10.out.keep (fun k hk _ => hk11.block k (.inr hk)))
  have H11 := hide' (H10.out.trans (hk11.below.mono hL))
  clear CS HR10 H10 hk11
  have C2 := hide' (trEvents w11 _ D n E2 Lt q cap nd HR11.out HS2.out hn)
  go_wp2_with fail
  refine C2.out.mono ?_
  rintro e w12 ⟨La, Ea, rfl, hca⟩
  have HCA := hide' hca
  have HR12 := hide' (HR11.out.below (hca.bel))
  clear hca C2
  obtain ⟨f, ef, hf, cN⟩ := trNode w12 _ D n E2 Lt q cap nd HR12.out HS2.out 0 hpos
  have ef0 : f = 0 := by have := HF0.out; rw [ef] at this; omega
  subst ef0
  obtain ⟨e0, he0⟩ : ∃ e0, E2 0 = e0 := ⟨_, rfl⟩
  rw [he0] at cN
  have HE0 := hide' he0
  have CN := hide' cN
  clear cN he0 ef
  go_wp2_with fail
  refine CN.out.mono ?_
  rintro e w13 ⟨av', rfl, hA13, hg13, hb13⟩
  obtain ⟨p, c, hav, hl1, hl2, _⟩ := hA13.row
  obtain ⟨m, hm⟩ : ∃ m, e0.ats.length = m := ⟨_, rfl⟩
  rw [hm] at hav hl1
  subst hav
  have HW13 := hide' (by have := hA13.wr; rw [hm] at this; exact this : Tr.Wr w13 (.slice p m c) m)
  have HG13 := hide' hg13
  have HB13 := hide' hb13
  obtain ⟨kind, num, dep, nm, av, ats, tx, fr, be⟩ := e0
  dsimp only at hm
  have HM := hide' hm
  simp only [Tr.Ev.cs]
  clear hA13 hg13 hb13 hm CN HR12
  have hVL : Tr.VL w12 w13.heap.size p m c (w13.alloc (.cells #[.int .i64 kind, .int .i64 num, .int .i64 dep, .string nm, .slice p m c, .string tx, .int .i64 fr, .int .i64 be] 39)) := by
    refine ⟨HB13.out.alloc HB13.out.size _, ⟨_, heap_alloc_new w13 _, rfl⟩, ?_, HB13.out.size, fun g hg => ⟨HG13.out g hg, ?_⟩⟩
    · obtain ⟨xs, hx⟩ := HW13.out
      exact ⟨xs, hx.alloc _⟩
    · obtain ⟨xs, hx⟩ := HW13.out
      have := (hx.lt g hg).2
      omega
  have HVL := hide' hVL
  clear hVL HW13 HG13
  go_wp2_with fail
  go_loopw [18] (fun v wr => ∃ k : Nat, v = .int .i64 k ∧ k ≤ m ∧ Hid (Tr.VL w12 w13.heap.size p m c wr)) (fun v _ => m - (RowKit.intOf v).toNat)
  case atStart => exact ⟨0, rfl, Nat.zero_le _, HVL⟩
  case round =>
    clear HVL
    obtain ⟨k, rfl, hk, HV⟩ := hrel
    obtain ⟨q4, f4⟩ := HV.out.cell
    by_cases hlt : k < m
    · have t1 : (k : Int) < (m : Int) := by omega
      have t0 : (0 : Int) ≤ k := by omega
      obtain ⟨b, x, rfl, q5, f5, hv2⟩ := HV.out.step hlt (.string ⟨#[115, 112, 111, 105, 108, 116]⟩)
      have HV2 := hide' hv2
      clear hv2 HE H8 HAL HR11 HS2 HA2 HF0 H11 HCA HE0 HB13 HM
      go_wp2_with fail
      exact ⟨⟨k + 1, rfl, by omega, HV2⟩, by simp [RowKit.intOf]; omega⟩
    · have t1 : ¬ (k : Int) < (m : Int) := by omega
      obtain ⟨xs, hx⟩ := HV.out.own
      have hm1 : m ≤ 4398046510976 := by
        have := (HS2.out 0 hn0).2.2.1
        rw [HE0.out] at this
        have h2 := HM.out
        show m ≤ _
        rw [← h2]
        exact this
      have OWN := hide' (hx.alloc (.cells #[.string ⟨#[109, 111, 114, 101]⟩, .string ⟨#[]⟩] 63))
      have HLO := hide' HV.out.low
      have HNE := hide' HV.out.ne
      have HBX := hide' HV.out.box
      have HBL := hide' HV.out.bel
      obtain ⟨i0, hi0, hz0, hz1, hz2⟩ := info_parts Tr.atInfo
      clear hx HV
      go_wp2_with (at_builtin; refine wpList_append_own _ rfl _ _ 37 rfl 0 63 i0 (.agg #[.string ⟨#[]⟩, .string ⟨#[]⟩]) 2 32 Tryd.underlying37 hi0 hz0 hz1 hz2 rfl (by decide) _ m xs rfl OWN.out ⟨wr.heap.size, 0, none⟩ 1 1 [.string ⟨#[109, 111, 114, 101]⟩, .string ⟨#[]⟩] rfl rfl ?c1 ?c2 ?c3 ?c4 ?c5 ?_)
      case c2 => exact ⟨rfl, rfl⟩
      case c3 => unfold maxLen; omega
      case c4 => omega
      intro v' wa hown' hgrow _
      obtain ⟨pv, cv, rfl, _⟩ := Tr.owns_sl hown'
      have hba : Below w12.heap.size w12 (wr.alloc (.cells #[.string ⟨#[109, 111, 114, 101]⟩, .string ⟨#[]⟩] 63)) := HBL.out.alloc HBL.out.size _
      have hbw : Below w12.heap.size w12 wa := hba.grown hgrow hba.size (fun g hg => (HNE.out g hg).1)
      obtain ⟨CB, hB1, hB2⟩ := HBX.out
      have hBa : wa.heap[w13.heap.size]? = some (.cells CB 39 (0, 0)) := by
        have h1 := (Array.getElem?_eq_some_iff.1 hB1).1
        rw [hgrow.block w13.heap.size (by simp; omega) (fun e => (HNE.out _ e.symm).2 rfl), Lib.alloc_old _ _ _ h1]
        exact hB1
      have y4 : wa.cell? ⟨w13.heap.size, 4, none⟩ = some (.slice p m c) := by rw [Lib.cell_of_heap hBa]; exact hB2
      have z4 : wa.frozen? ⟨w13.heap.size, 4, none⟩ = false := Lib.frozen_of_heap hBa _
      have hb14 : Below w12.heap.size w12 (wa.setCell ⟨w13.heap.size, 4, none⟩ (.slice pv (m + 1) cv)) := hbw.setCell (p := ⟨w13.heap.size, 4, none⟩) HLO.out _
      have HB14 := hide' hb14
      have CE := hide' (trEvents _ _ D n E2 Lt q cap nd ((HR11.out.below HCA.out.bel).below hb14) HS2.out hn)
      clear hown' hgrow hba hbw hBa hB1 hB2 hb14 OWN HLO HNE HBX HBL q4 f4 hm1
      go_wp2_with fail
      refine CE.out.mono ?_
      generalize wa.setCell ⟨w13.heap.size, 4, none⟩ (.slice pv (m + 1) cv) = w14 at HB14
      clear CE y4 z4
      rintro e w15 ⟨Lb, Eb, rfl, hcb⟩
      have HCB := hide' hcb
      clear hcb
      have CS := hide' (trSpoil w12.heap.size w15 La n Ea (HCA.out.spo (HB14.out.trans (HCB.out.bel.mono HB14.out.size))) hn)
      go_wp2_with fail
      refine CS.out.mono ?_
      rintro e w16 ⟨⟨u1, rfl⟩, hk16⟩
      have HK16 := hide' hk16
      clear CS hk16
      have hlb : w12.heap.size ≤ Lb := Nat.le_trans HB14.out.size HCB.out.low
      have h1112 := HCA.out.bel.size
      have hb16 : Below w11.heap.size w11 w16 := ((HCA.out.bel.trans (HB14.out.mono h1112)).trans (HCB.out.bel.mono (Nat.le_trans h1112 HB14.out.size))).trans (HK16.out.below.mono HCA.out.low)
      obtain ⟨xb, hxb⟩ := HCB.out.owns hn
      have hxb16 : w16.ownsRow 0 39 8 (.slice (some ⟨Lb, 0, none⟩) n n) n xb := Tr.owns_base (Tr.owns_block hxb (fun g hg _ => HK16.out.block g (.inr (by cases hg; exact hlb)))) (Nat.zero_le _)
      have OWN := hide' (hxb16.alloc (.cells #[.int .i64 0, .int .i64 9, .int .i64 0, .string ⟨#[]⟩, .slice none 0 0, .string ⟨#[]⟩, .int .i64 0, .int .i64 0] 39))
      have HXB := hide' hxb
      have HB16 := hide' hb16
      obtain ⟨i0, hi0, hz0, hz1, hz2⟩ := info_parts Tr.evInfo
      clear hxb hxb16 hb16
      go_wp2_with (at_builtin; refine wpList_append_own _ rfl _ _ 22 rfl 0 39 i0 _ 8 _ Tryd.underlying22 hi0 hz0 hz1 hz2 rfl (by decide) _ n xb rfl OWN.out ⟨w16.heap.size, 0, none⟩ 1 1 [.int .i64 0, .int .i64 9, .int .i64 0, .string ⟨#[]⟩, .slice none 0 0, .string ⟨#[]⟩, .int .i64 0, .int .i64 0] rfl rfl ?d1 ?d2 ?d3 ?d4 ?d5 ?_)
      case d1 =>
        intro j u hj
        match j, hj with
        | 0, hj | 1, hj | 2, hj | 3, hj | 4, hj | 5, hj | 6, hj | 7, hj => simp at hj; subst hj; simp [Addr.add]
        | j + 8, hj => simp at hj
      case d2 => simp [Value.oneCell']
      case d5 => exact Nat.zero_le _
      case d3 => unfold maxLen; omega
      case d4 => omega
      intro v' wb hown' hgrow _
      obtain ⟨pb, cb, rfl, hcb, _⟩ := Tr.owns_sl hown'
      have hbb : Below w11.heap.size w11 wb := by
        have h1 := HB16.out.alloc HB16.out.size (.cells #[.int .i64 0, .int .i64 9, .int .i64 0, .string ⟨#[]⟩, .slice none 0 0, .string ⟨#[]⟩, .int .i64 0, .int .i64 0] 39)
        exact h1.grown hgrow h1.size (fun g hg => by cases hg; exact Nat.le_trans h1112 hlb)
      obtain ⟨f, ef, hf, cN⟩ := trNode wb _ D n E2 Lt q cap nd (HR11.out.below hbb) HS2.out 0 hpos
      have ef0 : f = 0 := by have := HF0.out; rw [ef] at this; omega
      subst ef0
      rw [HE0.out] at cN
      have HBB := hide' hbb
      have HOW := hide' hown'
      have HGR := hide' hgrow
      have CN := hide' cN
      clear cN ef hbb hown' hgrow OWN
      go_wp2_with fail
      refine CN.out.mono ?_
      rintro e w17 ⟨aw, rfl, hA17, _, hb17⟩
      obtain ⟨pw, cw, haw, _⟩ := hA17.row
      have hm2 := HM.out
      dsimp only at haw
      rw [hm2] at haw
      subst haw
      have HA17 := hide' hA17
      have HB17 := hide' (HBB.out.trans (hb17.mono HBB.out.size))
      have HD17 := hide' hb17
      simp only [Tr.Ev.cs]
      clear hA17 hb17 CN hm2
      go_wp2_with fail
      obtain ⟨W0, hW0⟩ : ∃ W0, w17.alloc (.cells #[.int .i64 kind, .int .i64 num, .int .i64 dep, .string nm, .slice pw m cw, .string tx, .int .i64 fr, .int .i64 be] 39) = W0 := ⟨_, rfl⟩
      have hrW : W0.rangeAt w17.heap.size 0 [.int .i64 kind, .int .i64 num, .int .i64 dep, .string nm, .slice pw m cw, .string tx, .int .i64 fr, .int .i64 be] := by
        rw [← hW0]
        exact Tr.range_of (heap_alloc_new w17 _)
      have h170 : Below w17.heap.size w17 W0 := by rw [← hW0]; exact (Below.refl _ _).alloc (Nat.le_refl _) _
      have hbd : w17.heap.size < W0.heap.size := by rw [← hW0]; simp
      have hB0 : Below w11.heap.size w11 W0 := HB17.out.trans (h170.mono HB17.out.size)
      have hw0 : Below w.heap.size w W0 := H11.out.trans (hB0.mono H11.out.size)
      have hbW : Below wb.heap.size wb W0 := HD17.out.trans (h170.mono HD17.out.size)
      have hE0 := HE.out.below hw0 (Nat.le_refl _)
      have hal2E : Tr.Alike n E2 E := (HAL.out.trans HA2.out).symm
      have hEb : Tr.Evs wb (.slice pb n cb) n Eb := Tr.evs_appended HOW.out HXB.out HCB.out hn (fun k hk g hg hlt => by
        have h1 := (HCB.out.att k hk).2 g hg
        have h2 := HK16.out.size
        rw [HGR.out.block g (by simp; omega) (fun e => by cases e; exact absurd h1 (Nat.lt_irrefl _)), Lib.alloc_old _ _ _ (by omega)]
        exact HK16.out.block g (.inr (by omega)))
      have hx0 : Below W0.heap.size W0 W0.drew := (Below.refl _ _).drew
      have cE := trEvents W0.drew _ D n E2 Lt q cap nd (HR11.out.below hB0.drew) HS2.out hn
      have cA1 : ∀ W1 Lc Ec, Tr.Cpy W0.drew Lc n n E2 Ec W1 → _ := fun W1 Lc Ec hc => trAll (.slice (some ⟨Lc, 0, none⟩) n n) v n Ec E W1 (hc.evs hn) (hE0.below (hx0.trans hc.bel) (Nat.le_refl _)) ((show Tr.Alike n E2 Ec from fun i hi => hc.eq i hi).symm.trans hal2E)
      have cA2 : ∀ W1, Below W0.heap.size W0.drew W1 → _ := fun W1 hb => trAll (.slice pb n cb) v n Eb E W1 ((hEb.below hbW (Nat.le_refl _)).below (hx0.trans hb) (Nat.le_refl _)) (hE0.below (hx0.trans hb) (Nat.le_refl _)) ((show Tr.Alike n E2 Eb from fun i hi => HCB.out.eq i hi).symm.trans hal2E)
      obtain ⟨b0, o0, cap0, rfl, _, _, kc⟩ := hE0.row.at hn0
      have e00 : E 0 = { kind := kind, num := num, dep := dep, nm := nm, av := (E 0).av, ats := ats, tx := tx, fr := fr, be := be } := by
        have := hal2E 0 hn0
        rw [HE0.out] at this
        exact this
      have ha0 := hE0.att 0 hn0
      have hats : (E 0).ats = ats := by rw [e00]
      rw [hats] at ha0
      have cS : ∀ W1, Below W0.heap.size W0.drew W1 → Calls Tryd.prog 17 #[.agg #[.int .i64 kind, .int .i64 num, .int .i64 dep, .string nm, .slice pw m cw, .string tx, .int .i64 fr, .int .i64 be], .agg (E 0).cs.toList.toArray] W1 (fun r w' => r = .returned (.bool true) ∧ Below W1.heap.size W1 w') := fun W1 hb => by
        have h9 := trSame { kind := kind, num := num, dep := dep, nm := nm, av := .slice pw m cw, ats := ats, tx := tx, fr := fr, be := be } (E 0).av W1 ((HA17.out.row.below h170 (Nat.le_refl _)).below (hx0.trans hb) (Nat.le_refl _)) (ha0.below (hx0.trans hb) (Nat.le_refl _))
        have h8 : (E 0).cs = Tr.Ev.cs { kind := kind, num := num, dep := dep, nm := nm, av := (E 0).av, ats := ats, tx := tx, fr := fr, be := be } := congrArg Tr.Ev.cs e00
        rw [Array.toArray_toList, h8]
        exact h9
      have hr0 : W0.rangeAt b0 (o0 + 0 * 8) (E 0).cs.toList := Tr.AtCells.range (kc 0 hn0)
      rw [Nat.zero_mul, Nat.add_zero] at hr0
      have hb0 : b0 < W0.heap.size := block_lt_of_cell (kc 0 hn0).1
      have i1 : (Tryd.prog.info? 39).map (·.size) = some (E 0).cs.toList.length := Tr.evSize
      obtain ⟨CW, hCW⟩ : ∃ CW : List Value, CW = [.int .i64 kind, .int .i64 num, .int .i64 dep, .string nm, .slice pw m cw, .string tx, .int .i64 fr, .int .i64 be] := ⟨_, rfl⟩
      have i2 : (Tryd.prog.info? 39).map (·.size) = some CW.length := by rw [hCW]; exact Tr.evSize
      rw [← hCW] at hrW
      have cS2 : ∀ W1, Below W0.heap.size W0.drew W1 → Calls Tryd.prog 17 #[.agg CW.toArray, .agg (E 0).cs.toList.toArray] W1 (fun r w' => r = .returned (.bool true) ∧ Below W1.heap.size W1 w') := by rw [hCW]; exact cS
      generalize (E 0).cs.toList = C0 at hr0 i1 cS2
      obtain ⟨S, hSd⟩ : ∃ S : World → Prop, S = fun W' => W'.rangeAt w17.heap.size 0 CW ∧ W'.rangeAt b0 o0 C0 := ⟨_, rfl⟩
      have hSB : ∀ W', Below W0.heap.size W0.drew W' → S W' := fun W' hb => by rw [hSd]; exact ⟨Tr.rangeAt_below (w := W0.drew) hrW hb hbd, Tr.rangeAt_below (w := W0.drew) hr0 hb hb0⟩
      have hS0 : S W0.drew := hSB _ (Below.refl _ _)
      have hSR : ∀ W', S W' → W'.rangeAt w17.heap.size 0 CW := fun W' h => by rw [hSd] at h; exact h.1
      have hSR2 : ∀ W', S W' → W'.rangeAt b0 o0 C0 := fun W' h => by rw [hSd] at h; exact h.2
      have t9 : (0 : Int) < (n : Int) := by omega
      have HWB : Hid (∀ W, Below W0.heap.size W0.drew W → Below w.heap.size w W) := fun W hb => hw0.trans ((hx0.trans hb).mono hw0.size)
      have CE := hide' cE
      have CA1 := hide' cA1
      have CA2 := hide' cA2
      have CS := hide' cS2
      have HSR := hide' hSR
      have HSR2 := hide' hSR2
      have HSB := hide' hSB
      have HI1 := hide' i1
      have HI2 := hide' i2
      rw [hW0]
      clear hx0 hrW h170 hbd hB0 hw0 hbW hE0 hal2E hEb cE cA1 cA2 kc e00 ha0 hats cS hr0 hb0 i1 i2 hCW cS2 hSd hSB hSR hSR2 HE H8 HAL HR11 HS2 HA2 HF0 H11 HCA HE0 HB13 HM HB14 HCB HK16 HXB HB16 HBB HOW HGR HA17 HB17 HD17 hW0
      refine wp_region_held_drew (S := S) (by kernel_rfl) hS0 (fun hHeld => ?_)
      simp only [List.size_toArray, List.length_cons, List.length_nil, Nat.reduceAdd]
      refine wpAnyH_take (i := 0) (v := .pointer (some ⟨D, 0, none⟩)) rfl (by kernel_rfl) (by kernel_rfl) (by kernel_rfl) (fun _ _ _ h => h) (Or.inl ⟨by rfl, ?y0⟩) (by assumption) ?_
      case y0 => (intro w' hSw; go_simp)
      try simp only [List.getElem_toArray, List.getElem_cons_zero, Act.put, List.setIfInBounds_toArray, List.set_cons_zero, List.set_cons_succ]
      refine wpAnyH_take (i := 2) (v := .slice (some ⟨b0, o0, none⟩) n cap0) rfl (by kernel_rfl) (by kernel_rfl) (by kernel_rfl) (fun _ _ _ h => h) (Or.inl ⟨by rfl, ?y2⟩) (by assumption) ?_
      case y2 => (intro w' hSw; go_simp)
      try simp only [List.getElem_toArray, List.getElem_cons_zero, List.getElem_cons_succ, Act.put, List.setIfInBounds_toArray, List.set_cons_zero, List.set_cons_succ]
      refine wpAnyH_ready (rs := [1]) (by kernel_rfl) (by simp) ?_
      refine AllReadyH.cons rfl (fun K hK => ?_) AllReadyH.nil
      try simp only [List.getElem_toArray, List.getElem_cons_zero, List.getElem_cons_succ]
      go_simp
      refine CE.out.mono ?_
      rintro e W1 ⟨Lc, Ec, rfl, hcc⟩
      have CA := hide' (CA1.out W1 Lc Ec hcc)
      have hbl : Below W0.heap.size W0.drew W1 := hcc.bel
      have hS1 : S W1 := HSB.out W1 hbl
      clear hcc CE CA1
      refine hK.out _ _ hS1 (fun hHeld9 => ?_)
      clear hK K
      try simp only [List.getElem_toArray, List.getElem_cons_zero, List.getElem_cons_succ, Act.put, List.setIfInBounds_toArray, List.set_cons_zero, List.set_cons_succ]
      refine wpAnyH_ready (rs := [3]) (by kernel_rfl) (by simp) ?_
      refine AllReadyH.cons rfl (fun K hK => ?_) AllReadyH.nil
      try simp only [List.getElem_toArray, List.getElem_cons_zero, List.getElem_cons_succ]
      go_simp
      refine CA.out.mono ?_
      rintro e W2 ⟨rfl, hb2⟩
      have hbl2 : Below W0.heap.size W0.drew W2 := hbl.trans (hb2.mono hbl.size)
      have hS2 : S W2 := HSB.out W2 hbl2
      clear CA hb2 hbl
      refine hK.out _ _ hS2 (fun hHeld9 => ?_)
      clear hK K
      try simp only [List.getElem_toArray, List.getElem_cons_zero, List.getElem_cons_succ, Act.put, List.setIfInBounds_toArray, List.set_cons_zero, List.set_cons_succ]
      refine wpAnyH_take (i := 4) (v := .bool true) rfl (by kernel_rfl) (by kernel_rfl) (by kernel_rfl) (fun _ _ _ h => h) (Or.inl ⟨by rfl, ?y4⟩) (by assumption) ?_
      case y4 => (intro w' hSw; go_simp)
      try simp only [List.getElem_toArray, List.getElem_cons_zero, List.getElem_cons_succ, Act.put, List.setIfInBounds_toArray, List.set_cons_zero, List.set_cons_succ]
      refine wpAnyH_take (i := 5) (v := .slice pb (n + 1) cb) rfl (by kernel_rfl) (by kernel_rfl) (by kernel_rfl) (fun _ _ _ h => h) (Or.inl ⟨by rfl, ?y5⟩) (by assumption) ?_
      case y5 => (intro w' hSw; go_simp)
      try simp only [List.getElem_toArray, List.getElem_cons_zero, List.getElem_cons_succ, Act.put, List.setIfInBounds_toArray, List.set_cons_zero, List.set_cons_succ]
      refine wpAnyH_take (i := 6) (v := .slice pb (n + 1) cb) rfl (by kernel_rfl) (by kernel_rfl) (by kernel_rfl) (fun _ _ _ h => h) (Or.inl ⟨by rfl, ?y6⟩) (by assumption) ?_
      case y6 => (intro w' hSw; go_simp)
      try simp only [List.getElem_toArray, List.getElem_cons_zero, List.getElem_cons_succ, Act.put, List.setIfInBounds_toArray, List.set_cons_zero, List.set_cons_succ]
      refine wpAnyH_take (i := 7) (v := .int .i64 ((n + 1 : Nat) : Int)) rfl (by kernel_rfl) (by kernel_rfl) (by kernel_rfl) (fun _ _ _ h => h) (Or.inl ⟨by rfl, ?y7⟩) (by assumption) ?_
      case y7 => (intro w' hSw; go_simp)
      try simp only [List.getElem_toArray, List.getElem_cons_zero, List.getElem_cons_succ, Act.put, List.setIfInBounds_toArray, List.set_cons_zero, List.set_cons_succ]
      refine wpAnyH_take (i := 8) (v := .int .i64 (n : Nat)) rfl (by kernel_rfl) (by kernel_rfl) (by kernel_rfl) (fun _ _ _ h => h) (Or.inl ⟨by rfl, ?y8⟩) (by assumption) ?_
      case y8 => (intro w' hSw; go_simp; rw [IntKind.wrap_i64]; omega)
      try simp only [List.getElem_toArray, List.getElem_cons_zero, List.getElem_cons_succ, Act.put, List.setIfInBounds_toArray, List.set_cons_zero, List.set_cons_succ]
      refine wpAnyH_take (i := 9) (v := .slice pb n cb) rfl (by kernel_rfl) (by kernel_rfl) (by kernel_rfl) (fun _ _ _ h => h) (Or.inl ⟨by rfl, ?y9⟩) (by assumption) ?_
      case y9 => (intro w' hSw; go_simp; intro h9; omega)
      try simp only [List.getElem_toArray, List.getElem_cons_zero, List.getElem_cons_succ, Act.put, List.setIfInBounds_toArray, List.set_cons_zero, List.set_cons_succ]
      refine wpAnyH_take (i := 10) (v := .slice (some ⟨b0, o0, none⟩) n cap0) rfl (by kernel_rfl) (by kernel_rfl) (by kernel_rfl) (fun _ _ _ h => h) (Or.inl ⟨by rfl, ?y10⟩) (by assumption) ?_
      case y10 => (intro w' hSw; go_simp)
      try simp only [List.getElem_toArray, List.getElem_cons_zero, List.getElem_cons_succ, Act.put, List.setIfInBounds_toArray, List.set_cons_zero, List.set_cons_succ]
      refine wpAnyH_ready (rs := [11]) (by kernel_rfl) (by simp) ?_
      refine AllReadyH.cons rfl (fun K hK => ?_) AllReadyH.nil
      try simp only [List.getElem_toArray, List.getElem_cons_zero, List.getElem_cons_succ]
      go_simp
      refine (CA2.out W2 hbl2).mono ?_
      rintro e W3 ⟨rfl, hb3⟩
      have hbl3 : Below W0.heap.size W0.drew W3 := hbl2.trans (hb3.mono hbl2.size)
      have hS3 : S W3 := HSB.out W3 hbl3
      clear CA2 hb3 hbl2
      refine hK.out _ _ hS3 (fun hHeld9 => ?_)
      clear hK K
      try simp only [List.getElem_toArray, List.getElem_cons_zero, List.getElem_cons_succ, Act.put, List.setIfInBounds_toArray, List.set_cons_zero, List.set_cons_succ]
      refine wpAnyH_take (i := 12) (v := .bool true) rfl (by kernel_rfl) (by kernel_rfl) (by kernel_rfl) (fun _ _ _ h => h) (Or.inl ⟨by rfl, ?y12⟩) (by assumption) ?_
      case y12 => (intro w' hSw; go_simp)
      try simp only [List.getElem_toArray, List.getElem_cons_zero, List.getElem_cons_succ, Act.put, List.setIfInBounds_toArray, List.set_cons_zero, List.set_cons_succ]
      refine wpAnyH_take (i := 13) (v := .bool true) rfl (by kernel_rfl) (by kernel_rfl) (by kernel_rfl) (fun _ _ _ h => h) (Or.inl ⟨by rfl, ?y13⟩) (by assumption) ?_
      case y13 => (intro w' hSw; go_simp)
      try simp only [List.getElem_toArray, List.getElem_cons_zero, List.getElem_cons_succ, Act.put, List.setIfInBounds_toArray, List.set_cons_zero, List.set_cons_succ]
      refine wpAnyH_take (i := 14) (v := .agg CW.toArray) rfl (by kernel_rfl) (by kernel_rfl) (by kernel_rfl) (fun _ _ _ h => h) (yieldsIf_load_mid (by rfl) 39 (.tmp 20) rfl w17.heap.size (0) rfl CW _ HSR.out Tryd.underlying39 rfl HI2.out) (by assumption) ?_
      try simp only [List.getElem_toArray, List.getElem_cons_zero, List.getElem_cons_succ, Act.put, List.setIfInBounds_toArray, List.set_cons_zero, List.set_cons_succ]
      refine wpAnyH_take (i := 15) (v := .slice (some ⟨b0, o0, none⟩) n cap0) rfl (by kernel_rfl) (by kernel_rfl) (by kernel_rfl) (fun _ _ _ h => h) (Or.inl ⟨by rfl, ?y15⟩) (by assumption) ?_
      case y15 => (intro w' hSw; go_simp)
      try simp only [List.getElem_toArray, List.getElem_cons_zero, List.getElem_cons_succ, Act.put, List.setIfInBounds_toArray, List.set_cons_zero, List.set_cons_succ]
      refine wpAnyH_take (i := 16) (v := .pointer (some ⟨b0, o0, none⟩)) rfl (by kernel_rfl) (by kernel_rfl) (by kernel_rfl) (fun _ _ _ h => h) (Or.inl ⟨by rfl, ?y16⟩) (by assumption) ?_
      case y16 => (intro w' hSw; go_simp)
      try simp only [List.getElem_toArray, List.getElem_cons_zero, List.getElem_cons_succ, Act.put, List.setIfInBounds_toArray, List.set_cons_zero, List.set_cons_succ]
      refine wpAnyH_take (i := 17) (v := .agg C0.toArray) rfl (by kernel_rfl) (by kernel_rfl) (by kernel_rfl) (fun _ _ _ h => h) (yieldsIf_load_mid (by rfl) 39 (.tmp 142) rfl b0 (o0) rfl C0 _ HSR2.out Tryd.underlying39 rfl HI1.out) (by assumption) ?_
      try simp only [List.getElem_toArray, List.getElem_cons_zero, List.getElem_cons_succ, Act.put, List.setIfInBounds_toArray, List.set_cons_zero, List.set_cons_succ]
      refine wpAnyH_ready (rs := [18]) (by kernel_rfl) (by simp) ?_
      refine AllReadyH.cons rfl (fun K hK => ?_) AllReadyH.nil
      try simp only [List.getElem_toArray, List.getElem_cons_zero, List.getElem_cons_succ]
      go_simp
      refine (CS.out W3 hbl3).mono ?_
      rintro e W4 ⟨rfl, hb4⟩
      have hbl4 : Below W0.heap.size W0.drew W4 := hbl3.trans (hb4.mono hbl3.size)
      have hS4 : S W4 := HSB.out W4 hbl4
      clear CS hb4 hbl3
      refine hK.out _ _ hS4 (fun hHeld9 => ?_)
      clear hK K
      try simp only [List.getElem_toArray, List.getElem_cons_zero, List.getElem_cons_succ, Act.put, List.setIfInBounds_toArray, List.set_cons_zero, List.set_cons_succ]
      refine wpAnyH_take (i := 19) (v := .bool true) rfl (by kernel_rfl) (by kernel_rfl) (by kernel_rfl) (fun _ _ _ h => h) (Or.inl ⟨by rfl, ?y19⟩) (by assumption) ?_
      case y19 => (intro w' hSw; go_simp)
      try simp only [List.getElem_toArray, List.getElem_cons_zero, List.getElem_cons_succ, Act.put, List.setIfInBounds_toArray, List.set_cons_zero, List.set_cons_succ]
      refine wpAnyH_take (i := 20) (v := .bool true) rfl (by kernel_rfl) (by kernel_rfl) (by kernel_rfl) (fun _ _ _ h => h) (Or.inl ⟨by rfl, ?y20⟩) (by assumption) ?_
      case y20 => (intro w' hSw; go_simp)
      try simp only [List.getElem_toArray, List.getElem_cons_zero, List.getElem_cons_succ, Act.put, List.setIfInBounds_toArray, List.set_cons_zero, List.set_cons_succ]
      refine wpAnyH_done (by kernel_rfl) ?_ _
      clear HSR HSR2 HSB HI1 HI2
      go_wp2_with fail
      go_ret
      exact ⟨rfl, HWB.out _ hbl4⟩
end Go.Proofs.YtghinafbdclmoaaDoor
