/-
  THE WALK over gimletlaw10.LexisPieces.
-/
import Derived.Test.YtgcbhegehbkdgaaDoorLxPcG
import Derived.Test.YtgcbhegehbkdgaaDoorRnStr
import Derived.Test.YtgcbhegehbkdgaaDoorLxAwake
import Derived.Test.YtgcbhegehbkdgaaDoorLxOpenQ
import Derived.Test.YtgcbhegehbkdgaaDoorErIs
import Derived.Deep.RegionHeld3
namespace Go.Proofs.YtgcbhegehbkdgaaDoor
open Go.RowKit Go.Lib
namespace Lx
theorem gap_cell {w : World} {k : Nat} {gs : ByteArray} (h : gapL[k]? = some gs) :
    (w.alloc (.cells #[.string ⟨#[32]⟩, .string ⟨#[9]⟩, .string ⟨#[10]⟩, .string ⟨#[13, 10, 32]⟩, .string ⟨#[32, 32, 13]⟩] 9)).cell? ⟨w.heap.size, k, none⟩ = some (.string gs) := by
  have hn := heap_new w (.cells #[.string ⟨#[32]⟩, .string ⟨#[9]⟩, .string ⟨#[10]⟩, .string ⟨#[13, 10, 32]⟩, .string ⟨#[32, 32, 13]⟩] 9)
  have hk : k < 5 := by
    have := (List.getElem?_eq_some_iff.1 h).1
    exact this
  simp only [World.cell?, hn]
  match k, hk with
  | 0, _ => cases h; rfl
  | 1, _ => cases h; rfl
  | 2, _ => cases h; rfl
  | 3, _ => cases h; rfl
  | 4, _ => cases h; rfl
theorem WordsE.out {f : Nat → Nat} {n : Nat} {w w' : World} {e : Ending} (h : WordsE f n w e w') : ∃ v er, e = .returned (.tuple #[v, er]) ∧ WordsE f n w (.returned (.tuple #[v, er])) w' ∧ Below w.heap.size w w' := by
  cases h with
  | bad a why d _ h hd hF hb => exact ⟨_, _, rfl, .bad a why d _ h hd hF hb, hb⟩
  | ok v _ h hv hr hb => exact ⟨_, _, rfl, .ok v _ h hv hr hb, hb⟩
/-- a row of words, where it lies -/
def Rw (W : World) (f : Nat → Nat) (n : Nat) (L : List (Nat × Wd)) (V : Value) : Prop :=
  ∃ p cap, V = .slice p L.length cap ∧ L.length ≤ cap ∧ cap ≤ 9223372036854775807 ∧ (0 < L.length → ∃ g, p = some ⟨g, 0, none⟩ ∧ ∀ i x j u, L[i]? = some x → (wdl f n x)[j]? = some u → j < 7 → W.cell? ⟨g, i * 7 + j, none⟩ = some u)
theorem Rw.of {W : World} {B : Nat} {f : Nat → Nat} {n : Nat} {L : List (Nat × Wd)} {V : Value} (h : W.ownsRow B 43 7 V L.length (wdls f n L)) : Rw W f n L V := by
  by_cases h0 : 0 < L.length
  · obtain ⟨g, cap, rfl, c1, c2, _, c4⟩ := row_shape h h0
    exact ⟨_, cap, rfl, c1, by unfold maxLen at c2; omega, fun _ => ⟨g, rfl, fun i x j u h1 h2 h3 => c4 _ u (by rw [wdls_get f n _ i x j h1 h3]; exact h2)⟩⟩
  · rcases h.2 with ⟨e1, e2⟩ | ⟨g, cap, cur, e1, _, _, c1, c2, _⟩
    · exact ⟨none, 0, by rw [e1, e2], by omega, by omega, fun h => absurd h h0⟩
    · exact ⟨_, cap, e1, c1, by unfold maxLen at c2; omega, fun h => absurd h h0⟩
theorem Rw.below {W W' : World} {B : Nat} {f : Nat → Nat} {n : Nat} {L : List (Nat × Wd)} {V : Value} (h : Rw W f n L V) (hb : Below B W W') (hB : W.heap.size ≤ B) : Rw W' f n L V := by
  obtain ⟨p, cap, e, c1, c2, c3⟩ := h
  refine ⟨p, cap, e, c1, c2, fun h0 => ?_⟩
  obtain ⟨g, e2, c4⟩ := c3 h0
  exact ⟨g, e2, fun i x j u h1 h2 h3 => (hb.cell (p := ⟨g, i * 7 + j, none⟩) (Nat.lt_of_lt_of_le (block_lt_of_cell (c4 i x j u h1 h2 h3)) hB)).trans (c4 i x j u h1 h2 h3)⟩
theorem conv_cat (f g : Nat → Nat) (m l k : Nat) (gs : ByteArray) (w : World) (hf : ∀ j, f j < 256) (hg : ∀ j, g j < 256) (hm : m ≤ 1099511627775) (hl : l ≤ 1099511627775) (h : gapL[k]? = some gs) :
    ∃ v W, (convert 9 22 (.string (Rn.arr f m ++ gs ++ Rn.arr g l))).run Tryd.prog w = .ok v W ∧ ArgS W (catF f m gs g) (m + gs.size + l) v ∧ Below w.heap.size w W := by
  have hF := (cat_of (m := m) (l := l) hf hg h).hF
  have hz := gap_size h
  rw [cat_arr]
  have h := Lib.run_convert_string_bytes (P := Tryd.prog) w 9 22 5 (Rn.arr (catF f m gs g) (m + gs.size + l)) Tryd.underlying9 Tryd.underlying22 Tryd.underlying5
  rw [Rn.arr_size] at h
  refine ⟨_, _, h, .some _ _ (grownCap_ge _ _ _ _) (grownCap_le_maxLen _ _ _ _ (by unfold maxLen; omega)) (fun j hj => ?_) (fun _ => ⟨_, _, rfl⟩), below_bytesWorld w 5 _⟩
  have := bytes_bytesWorld w 5 (catF f m gs g) (m + gs.size + l) hF j hj
  rw [show (Addr.add ⟨w.heap.size, 0, none⟩ j) = ⟨w.heap.size, 0 + j, none⟩ from by simp [Addr.add]; omega]
  exact this
end Lx
set_option maxRecDepth 1000000 in
set_option maxHeartbeats 16000000 in
theorem lawPieces_any (f g : Nat → Nat) (m l : Nat) (x : Int) (vp vq : Value) (w : World) (hT : Lib.Utf8Tabs 1 2 w) (hS : Spans w) (hG : Signs w) (hf : ∀ j, f j < 256) (hg : ∀ j, g j < 256) (hm : m ≤ 549755813886) (hl : l ≤ 549755813886) (k : Nat) (gs : ByteArray) (hx : (wrap64 (x.tmod 5 + 5)).tmod 5 = (k : Int)) (hk : (k : Int) < 5) (hgap : Lx.gapL[k]? = some gs) (hp : ArgS w f m vp) (hq : ArgS w g l vq) :
    Calls Tryd.prog 5 #[vp, vq, .int .i64 x] w fun e w' => e = .returned (.bool true) ∧ Below w.heap.size w w' := by
  have cA := lxAwake_any w hT hS hG
  have cP : ∀ W, Below w.heap.size w W → _ := fun W hb => words_arg f m vp W (tabs_below hT hb (Nat.le_refl _)) (hS.below hb (Nat.le_refl _)) (hG.below hb (Nat.le_refl _)) hf (by omega) (hp.below hb (Nat.le_refl _))
  have cQ : ∀ W, Below w.heap.size w W → _ := fun W hb => words_arg g l vq W (tabs_below hT hb (Nat.le_refl _)) (hS.below hb (Nat.le_refl _)) (hG.below hb (Nat.le_refl _)) hg (by omega) (hq.below hb (Nat.le_refl _))
  have HV := hide' (And.intro hp (And.intro hq (And.intro hT (And.intro hS hG))))
  have CP := hide' cP
  have CQ := hide' cQ
  clear hT hS hG hp hq cP cQ
  go_enter Tryd.func5, Tryd.ntmps5
  go_wp2_with fail
  refine cA.mono ?_
  rintro e w1 ⟨rfl, hb1⟩
  have hc := Lx.gap_cell (w := w1) hgap
  have hb2 := hb1.alloc hb1.size (.cells #[.string ⟨#[32]⟩, .string ⟨#[9]⟩, .string ⟨#[10]⟩, .string ⟨#[13, 10, 32]⟩, .string ⟨#[32, 32, 13]⟩] 9)
  have HB2 := hide' hb2
  have HG := hide' hgap
  clear hgap cA hb1 hb2
  go_wp2_with fail
  refine (CP.out _ HB2.out).mono ?_
  intro e w2 hE
  obtain ⟨va, ea, rfl, hEa, hb⟩ := hE.out
  have HA := hide' hEa
  have HB3 := hide' (HB2.out.trans (hb.mono HB2.out.size))
  clear hE hEa hb HB2 hc CP hx hk
  go_wp2_with fail
  refine (CQ.out _ HB3.out).mono ?_
  intro e w3 hE
  obtain ⟨vb, eb, rfl, hEb, hb⟩ := hE.out
  have HBq := hide' hEb
  have HB4 := hide' (HB3.out.trans (hb.mono HB3.out.size))
  have kP := (HV.out.1.below HB4.out (Nat.le_refl _)).text hf
  have kQ := (HV.out.2.1.below HB4.out (Nat.le_refl _)).text hg
  have hz := Lx.gap_size HG.out
  have z1 : (Rn.arr f m).size + gs.size ≤ 9223372036854775807 := by rw [Rn.arr_size]; omega
  have z2 : (Rn.arr f m).size + gs.size + (Rn.arr g l).size ≤ 9223372036854775807 := by rw [Rn.arr_size, Rn.arr_size]; omega
  obtain ⟨vF, W3, kF, hF, hbF⟩ := Lx.conv_cat f g m l k gs w3 hf hg (by omega) (by omega) HG.out
  have HB5 := hide' (HB4.out.trans (hbF.mono HB4.out.size))
  have cF := hide' (words_arg (Lx.catF f m gs g) (m + gs.size + l) vF W3 (tabs_below HV.out.2.2.1 HB5.out (Nat.le_refl _)) (HV.out.2.2.2.1.below HB5.out (Nat.le_refl _)) (HV.out.2.2.2.2.below HB5.out (Nat.le_refl _)) (Lx.cat_of (m := m) (l := l) hf hg HG.out).hF (by omega) hF)
  have HF := hide' hF
  have HBF := hide' hbF
  have HX3 := hide' hb
  clear hE hEb hb CQ hz hF hbF
  go_wp2_with fail
  refine cF.out.mono ?_
  intro e w4 hE
  obtain ⟨vw, eg, rfl, hEw, hb⟩ := hE.out
  have HW := hide' hEw
  have HB6 := hide' (HB5.out.trans (hb.mono HB5.out.size))
  have HX4 := hide' (HBF.out.trans (hb.mono HBF.out.size))
  have HX2 := hide' (HX3.out.trans (HX4.out.mono HX3.out.size))
  clear hE hEw hb cF kP kQ kF HBF HB5 HB4 HB3 HX3 z1 z2
  have hEa := HA.out
  clear HA
  cases hEa with
  | bad a why d _ h hd hF hb =>
    have hF4 : Lx.FaultAt w4 d a f m why := by
      have hlt : d < w2.heap.size := (Array.getElem?_eq_some_iff.1 hF).1
      exact (HX2.out.block d hlt).trans hF
    have cE := errorsIs_any d _ _ _ _ why 104 w4 hF4
    have hop := HV.out.1.below HB6.out (Nat.le_refl _)
    have cO := open_any f m vp w4 hf (by omega) hop
    have hC := Lx.cat_of (m := m) (l := l) hf hg HG.out
    have hW := HW.out
    clear hF hF4 hb hd HW HX2 HX4 hop HF HBq HV
    by_cases hy : why = 104
    · subst hy
      rw [show Er.isE 104 104 = true by decide] at cE
      have HC := hide' (And.intro hC h)
      have HW := hide' hW
      clear hC h hW
      go_wp2_with fail
      refine cE.mono ?_
      rintro e w5 ⟨rfl, rfl⟩
      clear cE
      go_wp2_with fail
      refine cO.mono ?_
      rintro e w5 ⟨r, rfl, rfl, hr⟩
      clear cO
      cases r with
      | true =>
        clear hr HC HW
        go_wp2
        go_ret
        exact ⟨rfl, HB6.out⟩
      | false =>
        obtain ⟨y, hy⟩ := Lx.Cat.none HC.out.1 HC.out.2 (fun _ => hr rfl)
        have hW := HW.out
        clear HW hr HC
        cases hW with
        | bad a' why' d' _ h' hd' hF' hb' =>
          clear h' hd' hF' hb' hy
          go_wp2
          go_ret
          exact ⟨rfl, HB6.out⟩
        | ok v' _ h' hv' hr' hb' => rw [hy] at h'; cases h'
    · have hi : Er.isE 104 why = false := by
        unfold Er.isE
        simp
        omega
      rw [hi] at cE
      obtain ⟨y, hy'⟩ := Lx.Cat.none hC h (fun e => absurd e hy)
      cases hW with
      | bad a' why' d' _ h' hd' hF' hb' =>
        clear h' hd' hF' hb' hy' hy hi hC h cO
        go_wp2_with fail
        refine cE.mono ?_
        rintro e w5 ⟨rfl, rfl⟩
        clear cE
        go_wp2
        go_ret
        exact ⟨rfl, HB6.out⟩
      | ok v' _ h' hv' hr' hb' => rw [hy'] at h'; cases h'
  | ok va _ hfa hVa hra hba =>
    have hEb := HBq.out
    clear HBq
    cases hEb with
    | bad a why d _ h hd hF hb =>
      clear h hd hF hb hra hVa hfa hba HX2 HX4 HF HV HW HG
      go_wp2
      go_ret
      exact ⟨rfl, HB6.out⟩
    | ok vb _ hfb hVb hrb hbb =>
      have hC := Lx.cat_of (m := m) (l := l) hf hg HG.out
      obtain ⟨g1, g2⟩ := hC.good hfa hfb
      have hW := HW.out
      clear HW
      cases hW with
      | bad a' why' d' _ h' hd' hF' hb' => rw [g1] at h'; cases h'
      | ok vw _ hfw hVw hrw hbw =>
        have rA := (Lx.Rw.of hra).below HX2.out (Nat.le_refl _)
        have rB := (Lx.Rw.of hrb).below HX4.out (Nat.le_refl _)
        rw [g2] at hrw
        have rW := Lx.Rw.of hrw
        have lA := Lx.words_len (n := m) hf
        have lB := Lx.words_len (n := l) hg
        have covA : ∀ x ∈ (Lx.words f m).1, x.1 < m := by
          have hw2 : (Lx.words f m).2 = none := by
            unfold Lx.flt at hfa
            rw [if_pos hVa] at hfa
            simpa using hfa
          exact Lx.Cov.lt _ _ (Lx.words_cov hf hw2)
        have covB : ∀ x ∈ (Lx.words g l).1, x.1 < l := by
          have hw2 : (Lx.words g l).2 = none := by
            unfold Lx.flt at hfb
            rw [if_pos hVb] at hfb
            simpa using hfb
          exact Lx.Cov.lt _ _ (Lx.words_cov hg hw2)
        clear hra hrb hrw hVa hVb hVw hfa hfb hfw hba hbb hbw g1 g2 HX2 HX4
        obtain ⟨A, hA⟩ : ∃ A, A = (Lx.words f m).1 := ⟨_, rfl⟩
        obtain ⟨B, hB⟩ : ∃ B, B = (Lx.words g l).1 := ⟨_, rfl⟩
        rw [← hA] at rA rW lA covA
        rw [← hB] at rB rW lB covB
        clear hA hB
        obtain ⟨pA, cA, rfl, a1, a2, a3⟩ := rA
        obtain ⟨pB, cB, rfl, b1, b2, b3⟩ := rB
        obtain ⟨pW, cW, rfl, d1, d2, d3⟩ := rW
        have hlen : (A ++ B.map (Lx.mv (m + gs.size))).length = A.length + B.length := by simp
        rw [hlen] at d1 d3 ⊢
        obtain ⟨nA, hnA⟩ : ∃ nA, nA = A.length := ⟨_, rfl⟩
        obtain ⟨nB, hnB⟩ : ∃ nB, nB = B.length := ⟨_, rfl⟩
        rw [← hnA] at a1 a3 d1 d3 lA ⊢
        rw [← hnB] at b1 b3 d1 d3 lB ⊢
        have HA3 := hide' a3
        have HB3 := hide' b3
        have HD3 := hide' d3
        have HL := hide' (And.intro hnA hnB)
        have HCV := hide' (And.intro covA covB)
        have HC := hide' hC
        clear a3 b3 d3 hnA hnB hlen covA covB hC
        go_wp2_with fail
        go_loopw [15] (fun v wr => ∃ i : Nat, v = .int .i64 i ∧ i ≤ nA + nB ∧ Below w4.heap.size w4 wr) (fun v _ => nA + nB - (RowKit.intOf v).toNat)
        case atStart => exact ⟨0, rfl, Nat.zero_le _, Below.refl _ _⟩
        case round =>
          obtain ⟨i, rfl, hi, hbr⟩ := hrel
          have HBR := hide' hbr
          clear hbr
          by_cases hlt : i < nA + nB
          · have t1 : (i : Int) < (nA : Int) + nB := by omega
            by_cases hltA : i < nA
            · have t2 : (i : Int) < (nA : Int) := by omega
              obtain ⟨gA, rfl, kA⟩ := HA3.out (by omega)
              obtain ⟨gW, rfl, kW⟩ := HD3.out (by omega)
              obtain ⟨y, hy⟩ : ∃ y, A[i]? = some y := ⟨_, List.getElem?_eq_getElem (by rw [← HL.out.1]; exact hltA)⟩
              have hy2 : (A ++ B.map (Lx.mv (m + gs.size)))[i]? = some y := by rw [List.getElem?_append_left (by rw [← HL.out.1]; exact hltA)]; exact hy
              have hyW : Lx.wdl (Lx.catF f m gs g) (m + gs.size + l) y = Lx.wdl f m y := HC.out.wdl1 (HCV.out.1 y (List.mem_of_getElem? hy))
              have jA : ∀ j u, (Lx.wdl f m y)[j]? = some u → j < 7 → wr.cell? ⟨gA, i * 7 + j, none⟩ = some u := fun j u h1 h2 => (HBR.out.cell (p := ⟨gA, i * 7 + j, none⟩) (block_lt_of_cell (kA i y j u hy h1 h2))).trans (kA i y j u hy h1 h2)
              have jW : ∀ j u, (Lx.wdl f m y)[j]? = some u → j < 7 → wr.cell? ⟨gW, i * 7 + j, none⟩ = some u := fun j u h1 h2 => by
                rw [← hyW] at h1
                exact (HBR.out.cell (p := ⟨gW, i * 7 + j, none⟩) (block_lt_of_cell (kW i y j u hy2 h1 h2))).trans (kW i y j u hy2 h1 h2)
              have pA0 := jA 0 _ rfl (by decide)
              have pA1 := jA 1 _ rfl (by decide)
              have pA2 := jA 2 _ rfl (by decide)
              have pA3 := jA 3 _ rfl (by decide)
              have pA4 := jA 4 _ rfl (by decide)
              have pA5 := jA 5 _ rfl (by decide)
              have pA6 := jA 6 _ rfl (by decide)
              have pW0 := jW 0 _ rfl (by decide)
              have pW1 := jW 1 _ rfl (by decide)
              have pW2 := jW 2 _ rfl (by decide)
              have pW3 := jW 3 _ rfl (by decide)
              have pW4 := jW 4 _ rfl (by decide)
              have pW5 := jW 5 _ rfl (by decide)
              have pW6 := jW 6 _ rfl (by decide)
              rw [Nat.add_zero] at pA0 pW0
              clear kA kW hy hy2 hyW jA jW HA3 HB3 HD3 HL HCV HC HF HG HV
              go_wp2_with fail
              go_quiet (fail)
              go_wp2_with fail
              exact ⟨⟨i + 1, rfl, hlt, below_drewN HBR.out nq⟩, by simp [RowKit.intOf]; omega⟩
            · obtain ⟨t, rfl⟩ : ∃ t, i = nA + t := ⟨i - nA, by omega⟩
              have t2 : ¬ ((nA + t : Nat) : Int) < (nA : Int) := by omega
              have t3 : t < nB := by omega
              obtain ⟨gB, rfl, kB⟩ := HB3.out (by omega)
              obtain ⟨gW, rfl, kW⟩ := HD3.out (by omega)
              obtain ⟨y, hy⟩ : ∃ y, B[t]? = some y := ⟨_, List.getElem?_eq_getElem (by rw [← HL.out.2]; exact t3)⟩
              have hy2 : (A ++ B.map (Lx.mv (m + gs.size)))[nA + t]? = some (Lx.mv (m + gs.size) y) := by
                rw [List.getElem?_append_right (by rw [← HL.out.1]; omega), ← HL.out.1, Nat.add_sub_cancel_left, List.getElem?_map, hy]
                rfl
              have hyl := HCV.out.2 y (List.mem_of_getElem? hy)
              have jB : ∀ j u, (Lx.wdl g l y)[j]? = some u → j < 7 → w4.cell? ⟨gB, t * 7 + j, none⟩ = some u := fun j u h1 h2 => kB t y j u hy h1 h2
              have jW : ∀ j u, (Lx.wdl (Lx.catF f m gs g) (m + gs.size + l) (Lx.mv (m + gs.size) y))[j]? = some u → j < 7 → w4.cell? ⟨gW, (nA + t) * 7 + j, none⟩ = some u := fun j u h1 h2 => kW (nA + t) _ j u hy2 h1 h2
              have hBB := HB6.out.trans (HBR.out.mono HB6.out.size)
              have kQ : ∀ W, Below w.heap.size w W → _ := fun W hb => (HV.out.2.1.below hb (Nat.le_refl _)).text hg
              have kQr := kQ wr hBB
              have pB3 := (HBR.out.cell (p := ⟨gB, t * 7 + 3, none⟩) (block_lt_of_cell (jB 3 _ rfl (by decide)))).trans (jB 3 _ rfl (by decide))
              clear hy hy2 kB kW HA3 HB3 HD3 HL HCV
              obtain ⟨S', hSd⟩ : ∃ S' : World → Prop, S' = fun W' => Below wr.heap.size wr W' := ⟨_, rfl⟩
              have hSB : ∀ W' W8, S' W' → Below W'.heap.size W' W8 → S' W8 := fun W' W8 h hb => by rw [hSd] at h ⊢; exact h.trans (hb.mono h.size)
              have hSA : ∀ W', S' W' → ∀ o, S' (W'.alloc o) := fun W' h o => hSB _ _ h ((Below.refl _ _).alloc (Nat.le_refl _) o)
              have hSG : ∀ W', S' W' → wr.heap.size ≤ W'.heap.size := fun W' h => by rw [hSd] at h; exact h.size
              have hSC : ∀ W' b, S' W' → wr.heap.size ≤ b → ∀ vs : List Value, S' (W'.setCells b 0 vs) := fun W' b h hb vs => by rw [hSd] at h ⊢; exact Lx.below_cells hb _ _ _ h
              have hS0 : S' wr.drew := by rw [hSd]; exact (Below.refl _ _).drew
              have sQ : ∀ W', S' W' → (convert 22 9 vq).run Tryd.prog W' = .ok (.string (Rn.arr g l)) W' := fun W' h => by rw [hSd] at h; exact kQ W' (hBB.trans (h.mono hBB.size))
              have s3 : ∀ W', S' W' → W'.cell? ⟨gB, t * 7 + 3, none⟩ = some (.int .i64 (y.1 : Nat)) := fun W' h => by rw [hSd] at h; exact (h.cell (p := ⟨gB, t * 7 + 3, none⟩) (block_lt_of_cell pB3)).trans pB3
              have cF := fun W' => Lx.conv_cat f g m l k gs W' hf hg (by omega) (by omega) HG.out
              obtain ⟨_, zs, _⟩ := Lx.gap_size HG.out
              obtain ⟨P, hP⟩ : ∃ P, Rn.plc (Lx.catF f m gs g) (m + gs.size + l) (m + gs.size + y.1) = P := ⟨_, rfl⟩
              have hFF := HC.out.hF
              have cAt : ∀ W' v8, ArgS W' (Lx.catF f m gs g) (m + gs.size + l) v8 → Calls Tryd.prog 16 #[v8, .int .i64 (m + gs.size + y.1 : Nat)] W' fun e w' => e = .returned (.tuple #[.agg #[.int .i64 (m + gs.size + y.1 : Nat), .int .i64 (P.1 : Nat), .int .i64 (P.2.1 : Nat), .int .i64 (P.2.2 : Nat)], .int .i64 0]) ∧ Below W'.heap.size W' w' := fun W' v8 h => by
                cases h with
                | nil hn => omega
                | some ad cap h1 h2 hc hp =>
                  obtain ⟨b, o, rfl⟩ := hp (by omega)
                  rw [← hP]
                  exact at_in _ _ b o cap _ W' hFF (by omega) h1 h2 (by omega) (fun j hj => by have := hc j hj; rwa [show (Addr.add ⟨b, o, none⟩ j) = ⟨b, o + j, none⟩ from by simp [Addr.add]] at this)
              obtain ⟨x2, y2, z2⟩ := P
              dsimp only at cAt
              have z1 : (Rn.arr f m).size = m := Rn.arr_size f m
              have z3 : (Rn.arr g l).size = l := Rn.arr_size g l
              have HP := hide' hP
              have HSD := hide' hSd
              have HJB := hide' jB
              have HJW := hide' jW
              clear hP hSd jB jW hFF kQ kQr pB3 hBB
              go_wp2_with fail
              refine wp_region_held_drew (S := S') (by kernel_rfl) hS0 (fun hHeld => ?_)
              simp only [List.size_toArray, List.length_cons, List.length_nil, Nat.reduceAdd]
              generalize wr.drew = W0 at hHeld hS0 ⊢
              clear hS0
              refine wpAnyH_take (i := 0) (v := .string (Rn.arr f m ++ gs)) rfl (by kernel_rfl) (by kernel_rfl) (by kernel_rfl) (fun _ _ _ h => h) (Or.inl ⟨by rfl, ?y0⟩) (by assumption) ?_
              case y0 => (intro w' hSw; have qQ := sQ w' hSw; have q3 := s3 w' hSw; go_simp; (try rfl); all_goals first | omega | (rw [IntKind.wrap_i64]; omega))
              try simp only [List.getElem_toArray, List.getElem_cons_zero, Act.put, List.setIfInBounds_toArray, List.set_cons_zero, List.set_cons_succ]
              refine wpAnyH_take (i := 1) (v := vq) rfl (by kernel_rfl) (by kernel_rfl) (by kernel_rfl) (fun _ _ _ h => h) (Or.inl ⟨by rfl, ?y1⟩) (by assumption) ?_
              case y1 => (intro w' hSw; have qQ := sQ w' hSw; have q3 := s3 w' hSw; go_simp; (try rfl); all_goals first | omega | (rw [IntKind.wrap_i64]; omega))
              try simp only [List.getElem_toArray, List.getElem_cons_zero, List.getElem_cons_succ, Act.put, List.setIfInBounds_toArray, List.set_cons_zero, List.set_cons_succ]
              refine wpAnyH_take (i := 2) (v := .string (Rn.arr g l)) rfl (by kernel_rfl) (by kernel_rfl) (by kernel_rfl) (fun _ _ _ h => h) (Or.inl ⟨by rfl, ?y2⟩) (by assumption) ?_
              case y2 => (intro w' hSw; have qQ := sQ w' hSw; have q3 := s3 w' hSw; go_simp; (try rfl); all_goals first | omega | (rw [IntKind.wrap_i64]; omega))
              try simp only [List.getElem_toArray, List.getElem_cons_zero, List.getElem_cons_succ, Act.put, List.setIfInBounds_toArray, List.set_cons_zero, List.set_cons_succ]
              refine wpAnyH_take (i := 3) (v := .string (Rn.arr f m ++ gs ++ Rn.arr g l)) rfl (by kernel_rfl) (by kernel_rfl) (by kernel_rfl) (fun _ _ _ h => h) (Or.inl ⟨by rfl, ?y3⟩) (by assumption) ?_
              case y3 => (intro w' hSw; have qQ := sQ w' hSw; have q3 := s3 w' hSw; go_simp; (try rfl); all_goals first | omega | (rw [IntKind.wrap_i64]; omega))
              try simp only [List.getElem_toArray, List.getElem_cons_zero, List.getElem_cons_succ, Act.put, List.setIfInBounds_toArray, List.set_cons_zero, List.set_cons_succ]
              refine wpAnyH_take (i := 5) (v := .string (Rn.arr f m ++ gs)) rfl (by kernel_rfl) (by kernel_rfl) (by kernel_rfl) (fun _ _ _ h => h) (Or.inl ⟨by rfl, ?y5⟩) (by assumption) ?_
              case y5 => (intro w' hSw; have qQ := sQ w' hSw; have q3 := s3 w' hSw; go_simp; (try rfl); all_goals first | omega | (rw [IntKind.wrap_i64]; omega))
              try simp only [List.getElem_toArray, List.getElem_cons_zero, List.getElem_cons_succ, Act.put, List.setIfInBounds_toArray, List.set_cons_zero, List.set_cons_succ]
              refine wpAnyH_take (i := 6) (v := .int .i64 (m + gs.size : Nat)) rfl (by kernel_rfl) (by kernel_rfl) (by kernel_rfl) (fun _ _ _ h => h) (Or.inl ⟨by rfl, ?y6⟩) (by assumption) ?_
              case y6 => (intro w' hSw; have qQ := sQ w' hSw; have q3 := s3 w' hSw; go_simp; (try rfl); all_goals first | omega | (rw [IntKind.wrap_i64]; omega))
              try simp only [List.getElem_toArray, List.getElem_cons_zero, List.getElem_cons_succ, Act.put, List.setIfInBounds_toArray, List.set_cons_zero, List.set_cons_succ]
              refine wpAnyH_take (i := 7) (v := .slice (some ⟨gB, 0, none⟩) nB cB) rfl (by kernel_rfl) (by kernel_rfl) (by kernel_rfl) (fun _ _ _ h => h) (Or.inl ⟨by rfl, ?y7⟩) (by assumption) ?_
              case y7 => (intro w' hSw; have qQ := sQ w' hSw; have q3 := s3 w' hSw; go_simp; (try rfl); all_goals first | omega | (rw [IntKind.wrap_i64]; omega))
              try simp only [List.getElem_toArray, List.getElem_cons_zero, List.getElem_cons_succ, Act.put, List.setIfInBounds_toArray, List.set_cons_zero, List.set_cons_succ]
              refine wpAnyH_take (i := 8) (v := .int .i64 ((nA : Int) + (t : Int))) rfl (by kernel_rfl) (by kernel_rfl) (by kernel_rfl) (fun _ _ _ h => h) (Or.inl ⟨by rfl, ?y8⟩) (by assumption) ?_
              case y8 => (intro w' hSw; have qQ := sQ w' hSw; have q3 := s3 w' hSw; go_simp; (try rfl); all_goals first | omega | (rw [IntKind.wrap_i64]; omega))
              try simp only [List.getElem_toArray, List.getElem_cons_zero, List.getElem_cons_succ, Act.put, List.setIfInBounds_toArray, List.set_cons_zero, List.set_cons_succ]
              refine wpAnyH_take (i := 9) (v := .slice pA nA cA) rfl (by kernel_rfl) (by kernel_rfl) (by kernel_rfl) (fun _ _ _ h => h) (Or.inl ⟨by rfl, ?y9⟩) (by assumption) ?_
              case y9 => (intro w' hSw; have qQ := sQ w' hSw; have q3 := s3 w' hSw; go_simp; (try rfl); all_goals first | omega | (rw [IntKind.wrap_i64]; omega))
              try simp only [List.getElem_toArray, List.getElem_cons_zero, List.getElem_cons_succ, Act.put, List.setIfInBounds_toArray, List.set_cons_zero, List.set_cons_succ]
              refine wpAnyH_take (i := 10) (v := .int .i64 (nA : Nat)) rfl (by kernel_rfl) (by kernel_rfl) (by kernel_rfl) (fun _ _ _ h => h) (Or.inl ⟨by rfl, ?y10⟩) (by assumption) ?_
              case y10 => (intro w' hSw; have qQ := sQ w' hSw; have q3 := s3 w' hSw; go_simp; (try rfl); all_goals first | omega | (rw [IntKind.wrap_i64]; omega))
              try simp only [List.getElem_toArray, List.getElem_cons_zero, List.getElem_cons_succ, Act.put, List.setIfInBounds_toArray, List.set_cons_zero, List.set_cons_succ]
              refine wpAnyH_take (i := 11) (v := .int .i64 (t : Nat)) rfl (by kernel_rfl) (by kernel_rfl) (by kernel_rfl) (fun _ _ _ h => h) (Or.inl ⟨by rfl, ?y11⟩) (by assumption) ?_
              case y11 => (intro w' hSw; have qQ := sQ w' hSw; have q3 := s3 w' hSw; go_simp; (try rfl); all_goals first | omega | (rw [IntKind.wrap_i64]; omega))
              try simp only [List.getElem_toArray, List.getElem_cons_zero, List.getElem_cons_succ, Act.put, List.setIfInBounds_toArray, List.set_cons_zero, List.set_cons_succ]
              refine wpAnyH_take (i := 12) (v := .pointer (some ⟨gB, t * 7, none⟩)) rfl (by kernel_rfl) (by kernel_rfl) (by kernel_rfl) (fun _ _ _ h => h) (Or.inl ⟨by rfl, ?y12⟩) (by assumption) ?_
              case y12 => (intro w' hSw; have qQ := sQ w' hSw; have q3 := s3 w' hSw; go_simp; (try rfl); all_goals first | omega | (rw [IntKind.wrap_i64]; omega))
              try simp only [List.getElem_toArray, List.getElem_cons_zero, List.getElem_cons_succ, Act.put, List.setIfInBounds_toArray, List.set_cons_zero, List.set_cons_succ]
              refine wpAnyH_take (i := 13) (v := .pointer (some ⟨gB, t * 7 + 3, none⟩)) rfl (by kernel_rfl) (by kernel_rfl) (by kernel_rfl) (fun _ _ _ h => h) (Or.inl ⟨by rfl, ?y13⟩) (by assumption) ?_
              case y13 => (intro w' hSw; have qQ := sQ w' hSw; have q3 := s3 w' hSw; go_simp; (try rfl); all_goals first | omega | (rw [IntKind.wrap_i64]; omega))
              try simp only [List.getElem_toArray, List.getElem_cons_zero, List.getElem_cons_succ, Act.put, List.setIfInBounds_toArray, List.set_cons_zero, List.set_cons_succ]
              refine wpAnyH_take (i := 14) (v := .pointer (some ⟨gB, t * 7 + 3, none⟩)) rfl (by kernel_rfl) (by kernel_rfl) (by kernel_rfl) (fun _ _ _ h => h) (Or.inl ⟨by rfl, ?y14⟩) (by assumption) ?_
              case y14 => (intro w' hSw; have qQ := sQ w' hSw; have q3 := s3 w' hSw; go_simp; (try rfl); all_goals first | omega | (rw [IntKind.wrap_i64]; omega))
              try simp only [List.getElem_toArray, List.getElem_cons_zero, List.getElem_cons_succ, Act.put, List.setIfInBounds_toArray, List.set_cons_zero, List.set_cons_succ]
              refine wpAnyH_take (i := 15) (v := .int .i64 (y.1 : Nat)) rfl (by kernel_rfl) (by kernel_rfl) (by kernel_rfl) (fun _ _ _ h => h) (Or.inl ⟨by rfl, ?y15⟩) (by assumption) ?_
              case y15 => (intro w' hSw; have qQ := sQ w' hSw; have q3 := s3 w' hSw; go_simp; (try rfl); all_goals first | omega | (rw [IntKind.wrap_i64]; omega))
              try simp only [List.getElem_toArray, List.getElem_cons_zero, List.getElem_cons_succ, Act.put, List.setIfInBounds_toArray, List.set_cons_zero, List.set_cons_succ]
              refine wpAnyH_take (i := 16) (v := .int .i64 (m + gs.size + y.1 : Nat)) rfl (by kernel_rfl) (by kernel_rfl) (by kernel_rfl) (fun _ _ _ h => h) (Or.inl ⟨by rfl, ?y16⟩) (by assumption) ?_
              case y16 => (intro w' hSw; have qQ := sQ w' hSw; have q3 := s3 w' hSw; go_simp; (try rfl); all_goals first | omega | (rw [IntKind.wrap_i64]; omega))
              try simp only [List.getElem_toArray, List.getElem_cons_zero, List.getElem_cons_succ, Act.put, List.setIfInBounds_toArray, List.set_cons_zero, List.set_cons_succ]
              refine wpAnyH_ready (rs := [4, 21]) (by kernel_rfl) (by simp) ?_
              refine AllReadyH.cons rfl (fun K hK => ?_) ?_
              · try simp only [List.getElem_toArray, List.getElem_cons_zero, List.getElem_cons_succ]
                obtain ⟨v8, W1c, k8, hvA, hb8⟩ := cF W0
                go_simp
                have hS1 := hSB _ _ hHeld hb8
                refine hK.out _ _ hS1 (fun hHeld9 => ?_)
                clear hK K hHeld9 k8
                try simp only [List.getElem_toArray, List.getElem_cons_zero, List.getElem_cons_succ, Act.put, List.setIfInBounds_toArray, List.set_cons_zero, List.set_cons_succ]
                refine wpAnyH_ready (rs := [17, 21]) (by kernel_rfl) (by simp) ?_
                refine AllReadyH.cons rfl (fun K hK => ?_) ?_
                · try simp only [List.getElem_toArray, List.getElem_cons_zero, List.getElem_cons_succ]
                  go_simp
                  refine (cAt _ _ hvA).mono ?_
                  rintro e W2d ⟨rfl, hb2⟩
                  go_wp2_with fail
                  have hS2 := hSB _ _ hS1 hb2
                  refine hK.out _ _ hS2 (fun hHeld9 => ?_)
                  clear hK K hHeld9
                  try simp only [List.getElem_toArray, List.getElem_cons_zero, List.getElem_cons_succ, Act.put, List.setIfInBounds_toArray, List.set_cons_zero, List.set_cons_succ]
                  refine wpAnyH_take (i := 18) (v := .tuple #[.agg #[.int .i64 (m + gs.size + y.1 : Nat), .int .i64 (x2 : Nat), .int .i64 (y2 : Nat), .int .i64 (z2 : Nat)], .int .i64 0]) rfl (by kernel_rfl) (by kernel_rfl) (by kernel_rfl) (fun _ _ _ h => h) (Or.inl ⟨by rfl, ?y18⟩) (by assumption) ?_
                  case y18 => (intro w' hSw; have qQ := sQ w' hSw; have q3 := s3 w' hSw; go_simp; (try rfl); all_goals first | omega | (rw [IntKind.wrap_i64]; omega))
                  try simp only [List.getElem_toArray, List.getElem_cons_zero, List.getElem_cons_succ, Act.put, List.setIfInBounds_toArray, List.set_cons_zero, List.set_cons_succ]
                  refine wpAnyH_take (i := 19) (v := .agg #[.int .i64 (m + gs.size + y.1 : Nat), .int .i64 (x2 : Nat), .int .i64 (y2 : Nat), .int .i64 (z2 : Nat)]) rfl (by kernel_rfl) (by kernel_rfl) (by kernel_rfl) (fun _ _ _ h => h) (Or.inl ⟨by rfl, ?y19⟩) (by assumption) ?_
                  case y19 => (intro w' hSw; have qQ := sQ w' hSw; have q3 := s3 w' hSw; go_simp; (try rfl); all_goals first | omega | (rw [IntKind.wrap_i64]; omega))
                  try simp only [List.getElem_toArray, List.getElem_cons_zero, List.getElem_cons_succ, Act.put, List.setIfInBounds_toArray, List.set_cons_zero, List.set_cons_succ]
                  refine wpAnyH_take (i := 20) (v := .int .i64 0) rfl (by kernel_rfl) (by kernel_rfl) (by kernel_rfl) (fun _ _ _ h => h) (Or.inl ⟨by rfl, ?y20⟩) (by assumption) ?_
                  case y20 => (intro w' hSw; have qQ := sQ w' hSw; have q3 := s3 w' hSw; go_simp; (try rfl); all_goals first | omega | (rw [IntKind.wrap_i64]; omega))
                  try simp only [List.getElem_toArray, List.getElem_cons_zero, List.getElem_cons_succ, Act.put, List.setIfInBounds_toArray, List.set_cons_zero, List.set_cons_succ]
                  refine wpAnyH_ready (rs := [21]) (by kernel_rfl) (by simp) ?_
                  refine AllReadyH.cons rfl (fun K hK => ?_) AllReadyH.nil
                  try simp only [List.getElem_toArray, List.getElem_cons_zero, List.getElem_cons_succ]
                  go_simp
                  have hSa2 := hSA _ hS2 (.cells #[.int .i64 0, .int .i64 0, .int .i64 0, .int .i64 0] 30)
                  have hTa2 := Lx.heap_new W2d (.cells #[.int .i64 0, .int .i64 0, .int .i64 0, .int .i64 0] 30)
                  have hTg2 := hSG _ hS2
                  have hV2 := hvA.below ((Below.refl _ _).alloc (Nat.le_refl _) (.cells #[.int .i64 0, .int .i64 0, .int .i64 0, .int .i64 0] 30)) (Nat.le_refl _)
                  refine hK.out _ _ hSa2 (fun hHeld9 => ?_)
                  clear hK K hHeld9
                  try simp only [List.getElem_toArray, List.getElem_cons_zero, List.getElem_cons_succ, Act.put, List.setIfInBounds_toArray, List.set_cons_zero, List.set_cons_succ]
                  change wpAnyH _ _ _ _ _ _ _ _ (World.alloc W2d (.cells #[.int .i64 0, .int .i64 0, .int .i64 0, .int .i64 0] 30))
                  generalize W2d.alloc (.cells #[.int .i64 0, .int .i64 0, .int .i64 0, .int .i64 0] 30) = W3a at hSa2 hTa2 hV2 ⊢
                  have hvB := hV2
                  refine wpAnyH_ready (rs := [22]) (by kernel_rfl) (by simp) ?_
                  refine AllReadyH.cons rfl (fun K hK => ?_) AllReadyH.nil
                  try simp only [List.getElem_toArray, List.getElem_cons_zero, List.getElem_cons_succ]
                  rw [if_pos (by rfl)]
                  refine wp_store_mid 30 (.tmp 16) (.tmp 122) ?_ W2d.heap.size 0 #[.int .i64 (m + gs.size + y.1 : Nat), .int .i64 (x2 : Nat), .int .i64 (y2 : Nat), .int .i64 (z2 : Nat)] ?_ ?_ (Lx.there_of hTa2 0 4 (Nat.le_refl _)) Lx.plA_info (by simp [Value.oneCell']) ?_
                  · rfl
                  · rfl
                  · rfl
                  refine hK.out _ _ (hSC _ _ hSa2 hTg2 _) (fun hHeld9 => ?_)
                  clear hK K
                  try simp only [Act.put]
                  have hTT := Lx.heap_setCells (#[.int .i64 (m + gs.size + y.1 : Nat), .int .i64 (x2 : Nat), .int .i64 (y2 : Nat), .int .i64 (z2 : Nat)] : Array Value).toList 0 _ _ hTa2
                  generalize W3a.setCells W2d.heap.size 0 _ = W9 at hHeld9 hTT ⊢
                  try simp only [List.getElem_toArray, List.getElem_cons_zero, List.getElem_cons_succ, Act.put, List.setIfInBounds_toArray, List.set_cons_zero, List.set_cons_succ]
                  refine wpAnyH_take (i := 23) (v := .int .i64 0) rfl (by kernel_rfl) (by kernel_rfl) (by kernel_rfl) (fun _ _ _ h => h) (Or.inl ⟨by rfl, ?y23⟩) (by assumption) ?_
                  case y23 => (intro w' hSw; have qQ := sQ w' hSw; have q3 := s3 w' hSw; go_simp; (try rfl); all_goals first | omega | (rw [IntKind.wrap_i64]; omega))
                  try simp only [List.getElem_toArray, List.getElem_cons_zero, List.getElem_cons_succ, Act.put, List.setIfInBounds_toArray, List.set_cons_zero, List.set_cons_succ]
                  refine wpAnyH_done (by kernel_rfl) ?_ _
                  generalize W2d.heap.size = T at hTT ⊢
                  have hTT' : W9.heap[T]? = some (.cells #[.int .i64 (m + gs.size + y.1 : Nat), .int .i64 (x2 : Nat), .int .i64 (y2 : Nat), .int .i64 (z2 : Nat)] 30 (0, 0)) := hTT
                  have hX := hHeld9
                  rw [HSD.out] at hX
                  have t0 : W9.cell? ⟨T, 0, none⟩ = some (.int .i64 (m + gs.size + y.1 : Nat)) := by rw [Lib.cell_of_heap hTT']; rfl
                  have t1 : W9.cell? ⟨T, 1, none⟩ = some (.int .i64 (x2 : Nat)) := by rw [Lib.cell_of_heap hTT']; rfl
                  have t2' : W9.cell? ⟨T, 2, none⟩ = some (.int .i64 (y2 : Nat)) := by rw [Lib.cell_of_heap hTT']; rfl
                  have t3' : W9.cell? ⟨T, 3, none⟩ = some (.int .i64 (z2 : Nat)) := by rw [Lib.cell_of_heap hTT']; rfl
                  have hX4 := HBR.out.trans (hX.mono HBR.out.size)
                  have jB9 : ∀ j u, (Lx.wdl g l y)[j]? = some u → j < 7 → W9.cell? ⟨gB, t * 7 + j, none⟩ = some u := fun j u h1 h2 => (hX4.cell (p := ⟨gB, t * 7 + j, none⟩) (block_lt_of_cell (HJB.out j u h1 h2))).trans (HJB.out j u h1 h2)
                  have jW9 : ∀ j u, (Lx.wdl (Lx.catF f m gs g) (m + gs.size + l) (Lx.mv (m + gs.size) y))[j]? = some u → j < 7 → W9.cell? ⟨gW, (nA + t) * 7 + j, none⟩ = some u := fun j u h1 h2 => (hX4.cell (p := ⟨gW, (nA + t) * 7 + j, none⟩) (block_lt_of_cell (HJW.out j u h1 h2))).trans (HJW.out j u h1 h2)
                  rw [Lx.wdl2, HP.out] at jW9
                  have pB0 := jB9 0 _ rfl (by decide)
                  have pW0 := jW9 0 _ rfl (by decide)
                  have pB1 := jB9 1 _ rfl (by decide)
                  have pW1 := jW9 1 _ rfl (by decide)
                  have pB2 := jB9 2 _ rfl (by decide)
                  have pW2 := jW9 2 _ rfl (by decide)
                  have pB3 := jB9 3 _ rfl (by decide)
                  have pW3 := jW9 3 _ rfl (by decide)
                  have pB4 := jB9 4 _ rfl (by decide)
                  have pW4 := jW9 4 _ rfl (by decide)
                  have pB5 := jB9 5 _ rfl (by decide)
                  have pW5 := jW9 5 _ rfl (by decide)
                  have pB6 := jB9 6 _ rfl (by decide)
                  have pW6 := jW9 6 _ rfl (by decide)
                  rw [Nat.add_zero] at pB0 pW0
                  have hTl : T < W9.heap.size := (Array.getElem?_eq_some_iff.1 hTT').1
                  have hGl : gW < W9.heap.size := block_lt_of_cell pW0
                  have hbX := (Below.refl W9.heap.size W9).alloc (Nat.le_refl _) (.cells #[.int .i64 (y.2.k : Nat), .string y.2.tx, .int .i64 (y.2.nm : Nat), .int .i64 (y.1 : Nat), .int .i64 ((Rn.plc g l y.1).1 : Nat), .int .i64 ((Rn.plc g l y.1).2.1 : Nat), .int .i64 ((Rn.plc g l y.1).2.2 : Nat)] 43)
                  have n1 : ¬ gW = W9.heap.size := by omega
                  have n2 : ¬ W9.heap.size = gW := by omega
                  have r0 := (hbX.cell (p := ⟨T, 0, none⟩) hTl).trans t0
                  have r1 := (hbX.cell (p := ⟨T, 1, none⟩) hTl).trans t1
                  have r2 := (hbX.cell (p := ⟨T, 2, none⟩) hTl).trans t2'
                  have r3 := (hbX.cell (p := ⟨T, 3, none⟩) hTl).trans t3'
                  have hbY := (Below.refl W9.heap.size W9).alloc (Nat.le_refl _) (.cells #[.int .i64 (y.2.k : Nat), .string y.2.tx, .int .i64 (y.2.nm : Nat), .int .i64 ((m : Int) + (gs.size : Int) + (y.1 : Int)), .int .i64 (x2 : Nat), .int .i64 (y2 : Nat), .int .i64 (z2 : Nat)] 43)
                  have rW0 := (hbY.cell (p := ⟨gW, (nA + t) * 7, none⟩) hGl).trans pW0
                  have rW1 := (hbY.cell (p := ⟨gW, (nA + t) * 7 + 1, none⟩) hGl).trans pW1
                  have rW2 := (hbY.cell (p := ⟨gW, (nA + t) * 7 + 2, none⟩) hGl).trans pW2
                  have rW3 := (hbY.cell (p := ⟨gW, (nA + t) * 7 + 3, none⟩) hGl).trans pW3
                  have rW4 := (hbY.cell (p := ⟨gW, (nA + t) * 7 + 4, none⟩) hGl).trans pW4
                  have rW5 := (hbY.cell (p := ⟨gW, (nA + t) * 7 + 5, none⟩) hGl).trans pW5
                  have rW6 := (hbY.cell (p := ⟨gW, (nA + t) * 7 + 6, none⟩) hGl).trans pW6
                  have HX4 := hide' (hX4.trans (hbY.mono hX4.size))
                  clear jB9 jW9 HJB HJW cAt cF sQ s3 hSB hSA hSG hSC hHeld9 hTT hX hX4 HP HSD HV HG HF HC hbX hbY t0 t1 t2' t3' hTl hGl hTT'
                  go_wp2_with fail
                  go_quiet (fail)
                  go_wp2_with fail
                  exact ⟨⟨nA + t + 1, by go_num, hlt, below_drewN HX4.out nq⟩, by simp [RowKit.intOf]; omega⟩
                refine AllReadyH.cons rfl (fun K hK => ?_) AllReadyH.nil
                try simp only [List.getElem_toArray, List.getElem_cons_zero, List.getElem_cons_succ]
                go_simp
                have hSa1 := hSA _ hS1 (.cells #[.int .i64 0, .int .i64 0, .int .i64 0, .int .i64 0] 30)
                have hTa1 := Lx.heap_new W1c (.cells #[.int .i64 0, .int .i64 0, .int .i64 0, .int .i64 0] 30)
                have hTg1 := hSG _ hS1
                have hV1 := hvA.below ((Below.refl _ _).alloc (Nat.le_refl _) (.cells #[.int .i64 0, .int .i64 0, .int .i64 0, .int .i64 0] 30)) (Nat.le_refl _)
                refine hK.out _ _ hSa1 (fun hHeld9 => ?_)
                clear hK K hHeld9
                try simp only [List.getElem_toArray, List.getElem_cons_zero, List.getElem_cons_succ, Act.put, List.setIfInBounds_toArray, List.set_cons_zero, List.set_cons_succ]
                change wpAnyH _ _ _ _ _ _ _ _ (World.alloc W1c (.cells #[.int .i64 0, .int .i64 0, .int .i64 0, .int .i64 0] 30))
                generalize W1c.alloc (.cells #[.int .i64 0, .int .i64 0, .int .i64 0, .int .i64 0] 30) = W2a at hSa1 hTa1 hV1 ⊢
                have hvB := hV1
                refine wpAnyH_ready (rs := [17]) (by kernel_rfl) (by simp) ?_
                refine AllReadyH.cons rfl (fun K hK => ?_) AllReadyH.nil
                try simp only [List.getElem_toArray, List.getElem_cons_zero, List.getElem_cons_succ]
                go_simp
                refine (cAt _ _ hvB).mono ?_
                rintro e W3d ⟨rfl, hb3⟩
                go_wp2_with fail
                have hS3 := hSB _ _ hSa1 hb3
                have hT3 := (hb3.block _ ((Array.getElem?_eq_some_iff.1 hTa1).1)).trans hTa1
                refine hK.out _ _ hS3 (fun hHeld9 => ?_)
                clear hK K hHeld9
                try simp only [List.getElem_toArray, List.getElem_cons_zero, List.getElem_cons_succ, Act.put, List.setIfInBounds_toArray, List.set_cons_zero, List.set_cons_succ]
                refine wpAnyH_take (i := 18) (v := .tuple #[.agg #[.int .i64 (m + gs.size + y.1 : Nat), .int .i64 (x2 : Nat), .int .i64 (y2 : Nat), .int .i64 (z2 : Nat)], .int .i64 0]) rfl (by kernel_rfl) (by kernel_rfl) (by kernel_rfl) (fun _ _ _ h => h) (Or.inl ⟨by rfl, ?y18⟩) (by assumption) ?_
                case y18 => (intro w' hSw; have qQ := sQ w' hSw; have q3 := s3 w' hSw; go_simp; (try rfl); all_goals first | omega | (rw [IntKind.wrap_i64]; omega))
                try simp only [List.getElem_toArray, List.getElem_cons_zero, List.getElem_cons_succ, Act.put, List.setIfInBounds_toArray, List.set_cons_zero, List.set_cons_succ]
                refine wpAnyH_take (i := 19) (v := .agg #[.int .i64 (m + gs.size + y.1 : Nat), .int .i64 (x2 : Nat), .int .i64 (y2 : Nat), .int .i64 (z2 : Nat)]) rfl (by kernel_rfl) (by kernel_rfl) (by kernel_rfl) (fun _ _ _ h => h) (Or.inl ⟨by rfl, ?y19⟩) (by assumption) ?_
                case y19 => (intro w' hSw; have qQ := sQ w' hSw; have q3 := s3 w' hSw; go_simp; (try rfl); all_goals first | omega | (rw [IntKind.wrap_i64]; omega))
                try simp only [List.getElem_toArray, List.getElem_cons_zero, List.getElem_cons_succ, Act.put, List.setIfInBounds_toArray, List.set_cons_zero, List.set_cons_succ]
                refine wpAnyH_take (i := 20) (v := .int .i64 0) rfl (by kernel_rfl) (by kernel_rfl) (by kernel_rfl) (fun _ _ _ h => h) (Or.inl ⟨by rfl, ?y20⟩) (by assumption) ?_
                case y20 => (intro w' hSw; have qQ := sQ w' hSw; have q3 := s3 w' hSw; go_simp; (try rfl); all_goals first | omega | (rw [IntKind.wrap_i64]; omega))
                try simp only [List.getElem_toArray, List.getElem_cons_zero, List.getElem_cons_succ, Act.put, List.setIfInBounds_toArray, List.set_cons_zero, List.set_cons_succ]
                refine wpAnyH_ready (rs := [22]) (by kernel_rfl) (by simp) ?_
                refine AllReadyH.cons rfl (fun K hK => ?_) AllReadyH.nil
                try simp only [List.getElem_toArray, List.getElem_cons_zero, List.getElem_cons_succ]
                rw [if_pos (by rfl)]
                refine wp_store_mid 30 (.tmp 16) (.tmp 122) ?_ W1c.heap.size 0 #[.int .i64 (m + gs.size + y.1 : Nat), .int .i64 (x2 : Nat), .int .i64 (y2 : Nat), .int .i64 (z2 : Nat)] ?_ ?_ (Lx.there_of hT3 0 4 (Nat.le_refl _)) Lx.plA_info (by simp [Value.oneCell']) ?_
                · rfl
                · rfl
                · rfl
                refine hK.out _ _ (hSC _ _ hS3 hTg1 _) (fun hHeld9 => ?_)
                clear hK K
                try simp only [Act.put]
                have hTT := Lx.heap_setCells (#[.int .i64 (m + gs.size + y.1 : Nat), .int .i64 (x2 : Nat), .int .i64 (y2 : Nat), .int .i64 (z2 : Nat)] : Array Value).toList 0 _ _ hT3
                generalize W3d.setCells W1c.heap.size 0 _ = W9 at hHeld9 hTT ⊢
                try simp only [List.getElem_toArray, List.getElem_cons_zero, List.getElem_cons_succ, Act.put, List.setIfInBounds_toArray, List.set_cons_zero, List.set_cons_succ]
                refine wpAnyH_take (i := 23) (v := .int .i64 0) rfl (by kernel_rfl) (by kernel_rfl) (by kernel_rfl) (fun _ _ _ h => h) (Or.inl ⟨by rfl, ?y23⟩) (by assumption) ?_
                case y23 => (intro w' hSw; have qQ := sQ w' hSw; have q3 := s3 w' hSw; go_simp; (try rfl); all_goals first | omega | (rw [IntKind.wrap_i64]; omega))
                try simp only [List.getElem_toArray, List.getElem_cons_zero, List.getElem_cons_succ, Act.put, List.setIfInBounds_toArray, List.set_cons_zero, List.set_cons_succ]
                refine wpAnyH_done (by kernel_rfl) ?_ _
                generalize W1c.heap.size = T at hTT ⊢
                have hTT' : W9.heap[T]? = some (.cells #[.int .i64 (m + gs.size + y.1 : Nat), .int .i64 (x2 : Nat), .int .i64 (y2 : Nat), .int .i64 (z2 : Nat)] 30 (0, 0)) := hTT
                have hX := hHeld9
                rw [HSD.out] at hX
                have t0 : W9.cell? ⟨T, 0, none⟩ = some (.int .i64 (m + gs.size + y.1 : Nat)) := by rw [Lib.cell_of_heap hTT']; rfl
                have t1 : W9.cell? ⟨T, 1, none⟩ = some (.int .i64 (x2 : Nat)) := by rw [Lib.cell_of_heap hTT']; rfl
                have t2' : W9.cell? ⟨T, 2, none⟩ = some (.int .i64 (y2 : Nat)) := by rw [Lib.cell_of_heap hTT']; rfl
                have t3' : W9.cell? ⟨T, 3, none⟩ = some (.int .i64 (z2 : Nat)) := by rw [Lib.cell_of_heap hTT']; rfl
                have hX4 := HBR.out.trans (hX.mono HBR.out.size)
                have jB9 : ∀ j u, (Lx.wdl g l y)[j]? = some u → j < 7 → W9.cell? ⟨gB, t * 7 + j, none⟩ = some u := fun j u h1 h2 => (hX4.cell (p := ⟨gB, t * 7 + j, none⟩) (block_lt_of_cell (HJB.out j u h1 h2))).trans (HJB.out j u h1 h2)
                have jW9 : ∀ j u, (Lx.wdl (Lx.catF f m gs g) (m + gs.size + l) (Lx.mv (m + gs.size) y))[j]? = some u → j < 7 → W9.cell? ⟨gW, (nA + t) * 7 + j, none⟩ = some u := fun j u h1 h2 => (hX4.cell (p := ⟨gW, (nA + t) * 7 + j, none⟩) (block_lt_of_cell (HJW.out j u h1 h2))).trans (HJW.out j u h1 h2)
                rw [Lx.wdl2, HP.out] at jW9
                have pB0 := jB9 0 _ rfl (by decide)
                have pW0 := jW9 0 _ rfl (by decide)
                have pB1 := jB9 1 _ rfl (by decide)
                have pW1 := jW9 1 _ rfl (by decide)
                have pB2 := jB9 2 _ rfl (by decide)
                have pW2 := jW9 2 _ rfl (by decide)
                have pB3 := jB9 3 _ rfl (by decide)
                have pW3 := jW9 3 _ rfl (by decide)
                have pB4 := jB9 4 _ rfl (by decide)
                have pW4 := jW9 4 _ rfl (by decide)
                have pB5 := jB9 5 _ rfl (by decide)
                have pW5 := jW9 5 _ rfl (by decide)
                have pB6 := jB9 6 _ rfl (by decide)
                have pW6 := jW9 6 _ rfl (by decide)
                rw [Nat.add_zero] at pB0 pW0
                have hTl : T < W9.heap.size := (Array.getElem?_eq_some_iff.1 hTT').1
                have hGl : gW < W9.heap.size := block_lt_of_cell pW0
                have hbX := (Below.refl W9.heap.size W9).alloc (Nat.le_refl _) (.cells #[.int .i64 (y.2.k : Nat), .string y.2.tx, .int .i64 (y.2.nm : Nat), .int .i64 (y.1 : Nat), .int .i64 ((Rn.plc g l y.1).1 : Nat), .int .i64 ((Rn.plc g l y.1).2.1 : Nat), .int .i64 ((Rn.plc g l y.1).2.2 : Nat)] 43)
                have n1 : ¬ gW = W9.heap.size := by omega
                have n2 : ¬ W9.heap.size = gW := by omega
                have r0 := (hbX.cell (p := ⟨T, 0, none⟩) hTl).trans t0
                have r1 := (hbX.cell (p := ⟨T, 1, none⟩) hTl).trans t1
                have r2 := (hbX.cell (p := ⟨T, 2, none⟩) hTl).trans t2'
                have r3 := (hbX.cell (p := ⟨T, 3, none⟩) hTl).trans t3'
                have hbY := (Below.refl W9.heap.size W9).alloc (Nat.le_refl _) (.cells #[.int .i64 (y.2.k : Nat), .string y.2.tx, .int .i64 (y.2.nm : Nat), .int .i64 ((m : Int) + (gs.size : Int) + (y.1 : Int)), .int .i64 (x2 : Nat), .int .i64 (y2 : Nat), .int .i64 (z2 : Nat)] 43)
                have rW0 := (hbY.cell (p := ⟨gW, (nA + t) * 7, none⟩) hGl).trans pW0
                have rW1 := (hbY.cell (p := ⟨gW, (nA + t) * 7 + 1, none⟩) hGl).trans pW1
                have rW2 := (hbY.cell (p := ⟨gW, (nA + t) * 7 + 2, none⟩) hGl).trans pW2
                have rW3 := (hbY.cell (p := ⟨gW, (nA + t) * 7 + 3, none⟩) hGl).trans pW3
                have rW4 := (hbY.cell (p := ⟨gW, (nA + t) * 7 + 4, none⟩) hGl).trans pW4
                have rW5 := (hbY.cell (p := ⟨gW, (nA + t) * 7 + 5, none⟩) hGl).trans pW5
                have rW6 := (hbY.cell (p := ⟨gW, (nA + t) * 7 + 6, none⟩) hGl).trans pW6
                have HX4 := hide' (hX4.trans (hbY.mono hX4.size))
                clear jB9 jW9 HJB HJW cAt cF sQ s3 hSB hSA hSG hSC hHeld9 hTT hX hX4 HP HSD HV HG HF HC hbX hbY t0 t1 t2' t3' hTl hGl hTT'
                go_wp2_with fail
                go_quiet (fail)
                go_wp2_with fail
                exact ⟨⟨nA + t + 1, by go_num, hlt, below_drewN HX4.out nq⟩, by simp [RowKit.intOf]; omega⟩
              refine AllReadyH.cons rfl (fun K hK => ?_) AllReadyH.nil
              try simp only [List.getElem_toArray, List.getElem_cons_zero, List.getElem_cons_succ]
              go_simp
              have hSa0 := hSA _ hHeld (.cells #[.int .i64 0, .int .i64 0, .int .i64 0, .int .i64 0] 30)
              have hTa0 := Lx.heap_new W0 (.cells #[.int .i64 0, .int .i64 0, .int .i64 0, .int .i64 0] 30)
              have hTg0 := hSG _ hHeld
              refine hK.out _ _ hSa0 (fun hHeld9 => ?_)
              clear hK K hHeld9
              try simp only [List.getElem_toArray, List.getElem_cons_zero, List.getElem_cons_succ, Act.put, List.setIfInBounds_toArray, List.set_cons_zero, List.set_cons_succ]
              change wpAnyH _ _ _ _ _ _ _ _ (World.alloc W0 (.cells #[.int .i64 0, .int .i64 0, .int .i64 0, .int .i64 0] 30))
              generalize W0.alloc (.cells #[.int .i64 0, .int .i64 0, .int .i64 0, .int .i64 0] 30) = W1a at hSa0 hTa0 ⊢
              refine wpAnyH_ready (rs := [4]) (by kernel_rfl) (by simp) ?_
              refine AllReadyH.cons rfl (fun K hK => ?_) AllReadyH.nil
              try simp only [List.getElem_toArray, List.getElem_cons_zero, List.getElem_cons_succ]
              obtain ⟨v8, W2c, k8, hvA, hb8⟩ := cF W1a
              go_simp
              have hS2 := hSB _ _ hSa0 hb8
              have hT2 := (hb8.block _ ((Array.getElem?_eq_some_iff.1 hTa0).1)).trans hTa0
              refine hK.out _ _ hS2 (fun hHeld9 => ?_)
              clear hK K hHeld9 k8
              try simp only [List.getElem_toArray, List.getElem_cons_zero, List.getElem_cons_succ, Act.put, List.setIfInBounds_toArray, List.set_cons_zero, List.set_cons_succ]
              refine wpAnyH_ready (rs := [17]) (by kernel_rfl) (by simp) ?_
              refine AllReadyH.cons rfl (fun K hK => ?_) AllReadyH.nil
              try simp only [List.getElem_toArray, List.getElem_cons_zero, List.getElem_cons_succ]
              go_simp
              refine (cAt _ _ hvA).mono ?_
              rintro e W3d ⟨rfl, hb3⟩
              go_wp2_with fail
              have hS3 := hSB _ _ hS2 hb3
              have hT3 := (hb3.block _ ((Array.getElem?_eq_some_iff.1 hT2).1)).trans hT2
              refine hK.out _ _ hS3 (fun hHeld9 => ?_)
              clear hK K hHeld9
              try simp only [List.getElem_toArray, List.getElem_cons_zero, List.getElem_cons_succ, Act.put, List.setIfInBounds_toArray, List.set_cons_zero, List.set_cons_succ]
              refine wpAnyH_take (i := 18) (v := .tuple #[.agg #[.int .i64 (m + gs.size + y.1 : Nat), .int .i64 (x2 : Nat), .int .i64 (y2 : Nat), .int .i64 (z2 : Nat)], .int .i64 0]) rfl (by kernel_rfl) (by kernel_rfl) (by kernel_rfl) (fun _ _ _ h => h) (Or.inl ⟨by rfl, ?y18⟩) (by assumption) ?_
              case y18 => (intro w' hSw; have qQ := sQ w' hSw; have q3 := s3 w' hSw; go_simp; (try rfl); all_goals first | omega | (rw [IntKind.wrap_i64]; omega))
              try simp only [List.getElem_toArray, List.getElem_cons_zero, List.getElem_cons_succ, Act.put, List.setIfInBounds_toArray, List.set_cons_zero, List.set_cons_succ]
              refine wpAnyH_take (i := 19) (v := .agg #[.int .i64 (m + gs.size + y.1 : Nat), .int .i64 (x2 : Nat), .int .i64 (y2 : Nat), .int .i64 (z2 : Nat)]) rfl (by kernel_rfl) (by kernel_rfl) (by kernel_rfl) (fun _ _ _ h => h) (Or.inl ⟨by rfl, ?y19⟩) (by assumption) ?_
              case y19 => (intro w' hSw; have qQ := sQ w' hSw; have q3 := s3 w' hSw; go_simp; (try rfl); all_goals first | omega | (rw [IntKind.wrap_i64]; omega))
              try simp only [List.getElem_toArray, List.getElem_cons_zero, List.getElem_cons_succ, Act.put, List.setIfInBounds_toArray, List.set_cons_zero, List.set_cons_succ]
              refine wpAnyH_take (i := 20) (v := .int .i64 0) rfl (by kernel_rfl) (by kernel_rfl) (by kernel_rfl) (fun _ _ _ h => h) (Or.inl ⟨by rfl, ?y20⟩) (by assumption) ?_
              case y20 => (intro w' hSw; have qQ := sQ w' hSw; have q3 := s3 w' hSw; go_simp; (try rfl); all_goals first | omega | (rw [IntKind.wrap_i64]; omega))
              try simp only [List.getElem_toArray, List.getElem_cons_zero, List.getElem_cons_succ, Act.put, List.setIfInBounds_toArray, List.set_cons_zero, List.set_cons_succ]
              refine wpAnyH_ready (rs := [22]) (by kernel_rfl) (by simp) ?_
              refine AllReadyH.cons rfl (fun K hK => ?_) AllReadyH.nil
              try simp only [List.getElem_toArray, List.getElem_cons_zero, List.getElem_cons_succ]
              rw [if_pos (by rfl)]
              refine wp_store_mid 30 (.tmp 16) (.tmp 122) ?_ W0.heap.size 0 #[.int .i64 (m + gs.size + y.1 : Nat), .int .i64 (x2 : Nat), .int .i64 (y2 : Nat), .int .i64 (z2 : Nat)] ?_ ?_ (Lx.there_of hT3 0 4 (Nat.le_refl _)) Lx.plA_info (by simp [Value.oneCell']) ?_
              · rfl
              · rfl
              · rfl
              refine hK.out _ _ (hSC _ _ hS3 hTg0 _) (fun hHeld9 => ?_)
              clear hK K
              try simp only [Act.put]
              have hTT := Lx.heap_setCells (#[.int .i64 (m + gs.size + y.1 : Nat), .int .i64 (x2 : Nat), .int .i64 (y2 : Nat), .int .i64 (z2 : Nat)] : Array Value).toList 0 _ _ hT3
              generalize W3d.setCells W0.heap.size 0 _ = W9 at hHeld9 hTT ⊢
              try simp only [List.getElem_toArray, List.getElem_cons_zero, List.getElem_cons_succ, Act.put, List.setIfInBounds_toArray, List.set_cons_zero, List.set_cons_succ]
              refine wpAnyH_take (i := 23) (v := .int .i64 0) rfl (by kernel_rfl) (by kernel_rfl) (by kernel_rfl) (fun _ _ _ h => h) (Or.inl ⟨by rfl, ?y23⟩) (by assumption) ?_
              case y23 => (intro w' hSw; have qQ := sQ w' hSw; have q3 := s3 w' hSw; go_simp; (try rfl); all_goals first | omega | (rw [IntKind.wrap_i64]; omega))
              try simp only [List.getElem_toArray, List.getElem_cons_zero, List.getElem_cons_succ, Act.put, List.setIfInBounds_toArray, List.set_cons_zero, List.set_cons_succ]
              refine wpAnyH_done (by kernel_rfl) ?_ _
              generalize W0.heap.size = T at hTT ⊢
              have hTT' : W9.heap[T]? = some (.cells #[.int .i64 (m + gs.size + y.1 : Nat), .int .i64 (x2 : Nat), .int .i64 (y2 : Nat), .int .i64 (z2 : Nat)] 30 (0, 0)) := hTT
              have hX := hHeld9
              rw [HSD.out] at hX
              have t0 : W9.cell? ⟨T, 0, none⟩ = some (.int .i64 (m + gs.size + y.1 : Nat)) := by rw [Lib.cell_of_heap hTT']; rfl
              have t1 : W9.cell? ⟨T, 1, none⟩ = some (.int .i64 (x2 : Nat)) := by rw [Lib.cell_of_heap hTT']; rfl
              have t2' : W9.cell? ⟨T, 2, none⟩ = some (.int .i64 (y2 : Nat)) := by rw [Lib.cell_of_heap hTT']; rfl
              have t3' : W9.cell? ⟨T, 3, none⟩ = some (.int .i64 (z2 : Nat)) := by rw [Lib.cell_of_heap hTT']; rfl
              have hX4 := HBR.out.trans (hX.mono HBR.out.size)
              have jB9 : ∀ j u, (Lx.wdl g l y)[j]? = some u → j < 7 → W9.cell? ⟨gB, t * 7 + j, none⟩ = some u := fun j u h1 h2 => (hX4.cell (p := ⟨gB, t * 7 + j, none⟩) (block_lt_of_cell (HJB.out j u h1 h2))).trans (HJB.out j u h1 h2)
              have jW9 : ∀ j u, (Lx.wdl (Lx.catF f m gs g) (m + gs.size + l) (Lx.mv (m + gs.size) y))[j]? = some u → j < 7 → W9.cell? ⟨gW, (nA + t) * 7 + j, none⟩ = some u := fun j u h1 h2 => (hX4.cell (p := ⟨gW, (nA + t) * 7 + j, none⟩) (block_lt_of_cell (HJW.out j u h1 h2))).trans (HJW.out j u h1 h2)
              rw [Lx.wdl2, HP.out] at jW9
              have pB0 := jB9 0 _ rfl (by decide)
              have pW0 := jW9 0 _ rfl (by decide)
              have pB1 := jB9 1 _ rfl (by decide)
              have pW1 := jW9 1 _ rfl (by decide)
              have pB2 := jB9 2 _ rfl (by decide)
              have pW2 := jW9 2 _ rfl (by decide)
              have pB3 := jB9 3 _ rfl (by decide)
              have pW3 := jW9 3 _ rfl (by decide)
              have pB4 := jB9 4 _ rfl (by decide)
              have pW4 := jW9 4 _ rfl (by decide)
              have pB5 := jB9 5 _ rfl (by decide)
              have pW5 := jW9 5 _ rfl (by decide)
              have pB6 := jB9 6 _ rfl (by decide)
              have pW6 := jW9 6 _ rfl (by decide)
              rw [Nat.add_zero] at pB0 pW0
              have hTl : T < W9.heap.size := (Array.getElem?_eq_some_iff.1 hTT').1
              have hGl : gW < W9.heap.size := block_lt_of_cell pW0
              have hbX := (Below.refl W9.heap.size W9).alloc (Nat.le_refl _) (.cells #[.int .i64 (y.2.k : Nat), .string y.2.tx, .int .i64 (y.2.nm : Nat), .int .i64 (y.1 : Nat), .int .i64 ((Rn.plc g l y.1).1 : Nat), .int .i64 ((Rn.plc g l y.1).2.1 : Nat), .int .i64 ((Rn.plc g l y.1).2.2 : Nat)] 43)
              have n1 : ¬ gW = W9.heap.size := by omega
              have n2 : ¬ W9.heap.size = gW := by omega
              have r0 := (hbX.cell (p := ⟨T, 0, none⟩) hTl).trans t0
              have r1 := (hbX.cell (p := ⟨T, 1, none⟩) hTl).trans t1
              have r2 := (hbX.cell (p := ⟨T, 2, none⟩) hTl).trans t2'
              have r3 := (hbX.cell (p := ⟨T, 3, none⟩) hTl).trans t3'
              have hbY := (Below.refl W9.heap.size W9).alloc (Nat.le_refl _) (.cells #[.int .i64 (y.2.k : Nat), .string y.2.tx, .int .i64 (y.2.nm : Nat), .int .i64 ((m : Int) + (gs.size : Int) + (y.1 : Int)), .int .i64 (x2 : Nat), .int .i64 (y2 : Nat), .int .i64 (z2 : Nat)] 43)
              have rW0 := (hbY.cell (p := ⟨gW, (nA + t) * 7, none⟩) hGl).trans pW0
              have rW1 := (hbY.cell (p := ⟨gW, (nA + t) * 7 + 1, none⟩) hGl).trans pW1
              have rW2 := (hbY.cell (p := ⟨gW, (nA + t) * 7 + 2, none⟩) hGl).trans pW2
              have rW3 := (hbY.cell (p := ⟨gW, (nA + t) * 7 + 3, none⟩) hGl).trans pW3
              have rW4 := (hbY.cell (p := ⟨gW, (nA + t) * 7 + 4, none⟩) hGl).trans pW4
              have rW5 := (hbY.cell (p := ⟨gW, (nA + t) * 7 + 5, none⟩) hGl).trans pW5
              have rW6 := (hbY.cell (p := ⟨gW, (nA + t) * 7 + 6, none⟩) hGl).trans pW6
              have HX4 := hide' (hX4.trans (hbY.mono hX4.size))
              clear jB9 jW9 HJB HJW cAt cF sQ s3 hSB hSA hSG hSC hHeld9 hTT hX hX4 HP HSD HV HG HF HC hbX hbY t0 t1 t2' t3' hTl hGl hTT'
              go_wp2_with fail
              go_quiet (fail)
              go_wp2_with fail
              exact ⟨⟨nA + t + 1, by go_num, hlt, below_drewN HX4.out nq⟩, by simp [RowKit.intOf]; omega⟩
          · obtain rfl : i = nA + nB := by omega
            clear HA3 HB3 HD3 HL HCV HC HF HG HV
            go_wp2_with fail
            go_ret
            exact ⟨rfl, HB6.out.trans (HBR.out.mono HB6.out.size)⟩
end Go.Proofs.YtgcbhegehbkdgaaDoor
