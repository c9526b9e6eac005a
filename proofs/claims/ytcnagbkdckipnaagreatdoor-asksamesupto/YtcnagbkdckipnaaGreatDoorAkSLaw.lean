/-
  THE LAW gimletlaw11.AskSames (gen_aksl.py writes this text).
-/
import Derived.Test.YtcnagbkdckipnaaGreatDoorAkSL
import Derived.Test.YtcnagbkdckipnaaGreatDoorAkFx
import Derived.Test.YtcnagbkdckipnaaGreatDoorAkSm
import Derived.Deep.QuietTactic
import Derived.BigQuiet
import Derived.Deep.RegionHeld
namespace Go.Proofs.YtcnagbkdckipnaaGreatDoor
open Go.RowKit Go.Lib Go.Sort
set_option maxRecDepth 100000 in
set_option maxHeartbeats 16000000 in
theorem akLawSames (l m : List Ak.Sv) (W0 : World) (p q : Option Addr) (c d : Nat) (hl : Ak.RowS W0 p c l) (hm : Ak.RowS W0 q d m) (hzl : Ak.azSs (Ak.cSs l)) (hzm : Ak.azSs (Ak.cSs m))
    (hT : Lib.Utf8Tabs 1 2 W0) (hS : Spans W0) (hG : Signs W0) (ht : Ak.Tb W0) (htt : Ak.TbT W0) :
    Calls Tryz.prog 4 #[.agg #[.slice p l.length c], .agg #[.slice q m.length d]] W0 fun e w' => e = .returned (.bool true) ∧ Below W0.heap.size W0 w' := by
  obtain ⟨n, hn⟩ : ∃ n, l.length = n := ⟨_, rfl⟩
  obtain ⟨k, hk⟩ : ∃ k, m.length = k := ⟨_, rfl⟩
  obtain ⟨R, hR⟩ : ∃ R, W0.heap.size = R := ⟨_, rfl⟩
  obtain ⟨W, hW⟩ : ∃ X, X = (W0.alloc (.cells #[.slice p n c] 25)).alloc (.cells #[.slice q k d] 25) := ⟨_, rfl⟩
  have hbw : Below W0.heap.size W0 W := by rw [hW]; exact ((Below.refl _ _).alloc (Nat.le_refl _) _).alloc (by simp) _
  have sW : W.heap.size = R + 2 := by rw [hW]; simp [hR]
  have z1 : W.cell? ⟨R, 0, none⟩ = some (.slice p n c) := by rw [hW, ← hR]; simp
  have z2 : W.cell? ⟨R + 1, 0, none⟩ = some (.slice q k d) := by rw [hW, ← hR]; simp
  have hle := Nat.le_refl W0.heap.size
  have HFX : Hid (∀ w', Below W.heap.size W w' → Calls Tryz.prog 7 #[] w' fun e w2 => e = .returned (.bool true) ∧ Below w'.heap.size w' w2) := hide' fun w' h => by
    have hb := hbw.trans (h.mono hbw.size)
    exact akFixed w' (tabs_below hT hb hle) (hS.below hb hle) (hG.below hb hle) (ht.below hb) (htt.below hb)
  have HGL : Hid (∀ w', Below W.heap.size W w' → Calls Tryz.prog 11 #[.agg #[.slice p n c]] w' fun r w2 => r = .returned (.bool (Ak.great (Ak.cSs l))) ∧ Below w'.heap.size w' w2) := hide' fun w' h => by
    have := akGreat l w' p c (hl.below (hbw.trans (h.mono hbw.size))) hzl
    rwa [hn] at this
  have HGM : Hid (∀ w', Below W.heap.size W w' → Calls Tryz.prog 11 #[.agg #[.slice q k d]] w' fun r w2 => r = .returned (.bool (Ak.great (Ak.cSs m))) ∧ Below w'.heap.size w' w2) := hide' fun w' h => by
    have := akGreat m w' q d (hm.below (hbw.trans (h.mono hbw.size))) hzm
    rwa [hk] at this
  obtain ⟨gl, hgl⟩ : ∃ g, Ak.great (Ak.cSs l) = g := ⟨_, rfl⟩
  obtain ⟨gm, hgm⟩ : ∃ g, Ak.great (Ak.cSs m) = g := ⟨_, rfl⟩
  obtain ⟨vr, hvr⟩ : ∃ g, Ak.eSs (Ak.cSs l) (Ak.cSs m) = g := ⟨_, rfl⟩
  have HT1 : Hid (gl = false → ∀ w', Below W.heap.size W w' → Calls Tryz.prog 13 #[.agg #[.slice p n c]] w' fun r w2 => ∃ (q : Option Addr) (n d : Nat) (Q : List Ak.Sv), r = .returned (.agg #[.slice q n d]) ∧ Hid (Ak.LS w'.heap.size w2 (.slice q n d) Q) ∧ Hid (Ak.cSs Q = Ak.cSs l) ∧ Hid (Below w'.heap.size w' w2)) := hide' fun e w' h => by
    obtain ⟨h1, h2⟩ := Ak.not_great hzl (hgl.trans e)
    have := akTwinP l w' p c h1 h2 (hl.below (hbw.trans (h.mono hbw.size)))
    rwa [hn] at this
  have HT2 : Hid (gm = false → ∀ w', Below W.heap.size W w' → Calls Tryz.prog 13 #[.agg #[.slice q k d]] w' fun r w2 => ∃ (q : Option Addr) (n d : Nat) (Q : List Ak.Sv), r = .returned (.agg #[.slice q n d]) ∧ Hid (Ak.LS w'.heap.size w2 (.slice q n d) Q) ∧ Hid (Ak.cSs Q = Ak.cSs m) ∧ Hid (Below w'.heap.size w' w2)) := hide' fun e w' h => by
    obtain ⟨h1, h2⟩ := Ak.not_great hzm (hgm.trans e)
    have := akTwinP m w' q d h1 h2 (hm.below (hbw.trans (h.mono hbw.size)))
    rwa [hk] at this
  have HRF : Hid (∀ w', Below W.heap.size W w' → Calls Tryz.prog 8 #[.agg #[.slice p n c], .agg #[.slice q k d]] w' fun r w2 => r = .returned (.bool vr) ∧ Below w'.heap.size w' w2) := hide' fun w' h => by
    have hb := hbw.trans (h.mono hbw.size)
    have := akSameOf l w' p c m q d (hl.below hb) (hm.below hb)
    rwa [hn, hk, hvr] at this
  have HSM : Hid (∀ w' B1 B2 p1 n1 d1 Q1 p2 n2 d2 Q2, Ak.LS B1 w' (.slice p1 n1 d1) Q1 → Ak.LS B2 w' (.slice p2 n2 d2) Q2 → Ak.cSs Q1 = Ak.cSs l → Ak.cSs Q2 = Ak.cSs m → Calls Tryz.prog 12 #[.agg #[.slice p1 n1 d1], .agg #[.slice p2 n2 d2]] w' fun r w2 => r = .returned (.bool vr) ∧ Below w'.heap.size w' w2) := hide' fun w' B1 B2 p1 n1 d1 Q1 p2 n2 d2 Q2 h1 h2 h3 h4 => by
    obtain ⟨e1, r1, -, -⟩ := h1.row
    obtain ⟨e2, r2, -, -⟩ := h2.row
    have := akSamePath Q1 w' p1 d1 Q2 p2 d2 r1 r2
    rwa [← e1, ← e2, h3, h4, hvr] at this
  have HSP : Hid (∀ w' B1 p1 n1 d1 Q1, Below W.heap.size W w' → Ak.LS B1 w' (.slice p1 n1 d1) Q1 → Ak.cSs Q1 = Ak.cSs l → Calls Tryz.prog 12 #[.agg #[.slice p n c], .agg #[.slice p1 n1 d1]] w' fun r w2 => r = .returned (.bool true) ∧ Below w'.heap.size w' w2) := hide' fun w' B1 p1 n1 d1 Q1 h h1 h3 => by
    obtain ⟨e1, r1, -, -⟩ := h1.row
    have := akSamePath l w' p c Q1 p1 d1 (hl.below (hbw.trans (h.mono hbw.size))) r1
    rwa [← e1, h3, hn, Ak.eSs_refl] at this
  have HSQ : Hid (∀ w', Below W.heap.size W w' → Calls Tryz.prog 12 #[.agg #[.slice q k d], .agg #[.slice q k d]] w' fun r w2 => r = .returned (.bool true) ∧ Below w'.heap.size w' w2) := hide' fun w' h => by
    have hb := hbw.trans (h.mono hbw.size)
    have := akSamePath m w' q d m q d (hm.below hb) (hm.below hb)
    rwa [hk, Ak.eSs_refl] at this
  have HSO0 : Hid (∀ w', Below W.heap.size W w' → w'.cell? ⟨R, 0, none⟩ = some (.slice p n c) ∧ w'.cell? ⟨R + 1, 0, none⟩ = some (.slice q k d)) := hide' fun w' h => ⟨(h.cell (p := ⟨R, 0, none⟩) (by rw [sW]; show R < _; omega)).trans z1, (h.cell (p := ⟨R + 1, 0, none⟩) (by rw [sW]; show R + 1 < _; omega)).trans z2⟩
  have HWE := hide' hW
  have HBW := hide' hbw
  have HRR := hide' hR
  rw [hn, hk]
  rw [hgl] at HGL
  rw [hgm] at HGM
  clear hl hm hzl hzm hT hS hG ht htt hn hk hW hbw hR hle hgl hgm hvr
  go_enter Tryz.func4, Tryz.ntmps4
  cases gl with
  | true =>
    clear HT1 HT2
    go_wp2_with fail
    rw [← HWE.out, HRR.out]
    refine (HGL.out W (Below.refl _ _)).mono ?_
    rintro e w1 ⟨rfl, hb1⟩
    have HB1 := hide' hb1
    clear hb1
    go_wp2_with fail
    refine (HFX.out w1 HB1.out).mono ?_
    rintro e w2 ⟨rfl, hb2⟩
    have HB2 := hide' (HB1.out.trans (hb2.mono HB1.out.size))
    clear hb2
    go_wp2_with fail
    go_ret
    exact ⟨rfl, HBW.out.trans (HB2.out.mono HBW.out.size)⟩
  | false =>
    go_wp2_with fail
    rw [← HWE.out, HRR.out]
    refine (HGL.out W (Below.refl _ _)).mono ?_
    rintro e w1 ⟨rfl, hb1⟩
    have HB1 := hide' hb1
    obtain ⟨y1, y2⟩ := HSO0.out w1 hb1
    clear hb1
    go_wp2_with fail
    refine (HGM.out w1 HB1.out).mono ?_
    rintro e w2 ⟨rfl, hb2⟩
    have HB2 := hide' (HB1.out.trans (hb2.mono HB1.out.size))
    clear hb2 y1 y2
    cases gm with
    | true =>
      clear HT1 HT2
      go_wp2_with fail
      refine (HFX.out w2 HB2.out).mono ?_
      rintro e w3 ⟨rfl, hb3⟩
      have HB3 := hide' (HB2.out.trans (hb3.mono HB2.out.size))
      clear hb3
      go_wp2_with fail
      go_ret
      exact ⟨rfl, HBW.out.trans (HB3.out.mono HBW.out.size)⟩
    | false =>
      have HU1 := hide' (HT1.out (by first | trivial | rfl))
      have HU2 := hide' (HT2.out (by first | trivial | rfl))
      have HB0 : Hid (Below W.heap.size W w2.drew) := hide' HB2.out.drew
      obtain ⟨S, hSd⟩ : ∃ S : World → Prop, S = fun W' => Below W.heap.size W W' := ⟨_, rfl⟩
      have HSO : Hid (∀ w', S w' → w'.cell? ⟨R, 0, none⟩ = some (.slice p n c) ∧ w'.cell? ⟨R + 1, 0, none⟩ = some (.slice q k d)) := hide' fun w' h => HSO0.out w' (by rw [hSd] at h; exact h)
      have HSB : Hid (∀ W', Below W.heap.size W W' → S W') := hide' fun W' hb => by rw [hSd]; exact hb
      have hS0 : S w2.drew := HSB.out _ HB0.out
      clear hSd HGL HGM HSO0 HT1 HT2
      go_wp2
      refine wp_region_held_drew (S := S) (by kernel_rfl) hS0 (fun hHeld => ?_)
      simp only [List.size_toArray, List.length_cons, List.length_nil, Nat.reduceAdd]
      refine wpAnyH_ready (rs := [0]) (by kernel_rfl) (by simp) ?_
      refine AllReadyH.cons rfl (fun K hK => ?_) AllReadyH.nil
      try simp only [List.getElem_toArray, List.getElem_cons_zero]
      go_simp
      refine (HFX.out w2.drew HB0.out).mono ?_
      rintro e w1 ⟨rfl, hb1⟩
      have HB1 := hide' (HB0.out.trans (hb1.mono HB0.out.size))
      have hS1 : S w1 := HSB.out _ HB1.out
      clear hb1
      refine hK.out _ _ hS1 (fun hHeld1 => ?_)
      clear hK K
      try simp only [List.getElem_toArray, List.getElem_cons_zero, List.getElem_cons_succ, Act.put, List.setIfInBounds_toArray, List.set_cons_zero, List.set_cons_succ]
      refine wpAnyH_take (i := 1) (v := .bool true) rfl (by kernel_rfl) (by kernel_rfl) (by kernel_rfl) (fun _ _ _ h => h) (Or.inl ⟨by rfl, ?y1⟩) (by assumption) ?_
      case y1 => (intro w' hSw; obtain ⟨q1, q2⟩ := HSO.out w' hSw; go_simp)
      try simp only [List.getElem_toArray, List.getElem_cons_zero, List.getElem_cons_succ, Act.put, List.setIfInBounds_toArray, List.set_cons_zero, List.set_cons_succ]
      refine wpAnyH_take (i := 2) (v := .agg #[.slice p n c]) rfl (by kernel_rfl) (by kernel_rfl) (by kernel_rfl) (fun _ _ _ h => h) (Or.inl ⟨by rfl, ?y2⟩) (by assumption) ?_
      case y2 => (intro w' hSw; obtain ⟨q1, q2⟩ := HSO.out w' hSw; go_simp)
      try simp only [List.getElem_toArray, List.getElem_cons_zero, List.getElem_cons_succ, Act.put, List.setIfInBounds_toArray, List.set_cons_zero, List.set_cons_succ]
      refine wpAnyH_take (i := 4) (v := .agg #[.slice q k d]) rfl (by kernel_rfl) (by kernel_rfl) (by kernel_rfl) (fun _ _ _ h => h) (Or.inl ⟨by rfl, ?y4⟩) (by assumption) ?_
      case y4 => (intro w' hSw; obtain ⟨q1, q2⟩ := HSO.out w' hSw; go_simp)
      try simp only [List.getElem_toArray, List.getElem_cons_zero, List.getElem_cons_succ, Act.put, List.setIfInBounds_toArray, List.set_cons_zero, List.set_cons_succ]
      refine wpAnyH_take (i := 7) (v := .agg #[.slice p n c]) rfl (by kernel_rfl) (by kernel_rfl) (by kernel_rfl) (fun _ _ _ h => h) (Or.inl ⟨by rfl, ?y7⟩) (by assumption) ?_
      case y7 => (intro w' hSw; obtain ⟨q1, q2⟩ := HSO.out w' hSw; go_simp)
      try simp only [List.getElem_toArray, List.getElem_cons_zero, List.getElem_cons_succ, Act.put, List.setIfInBounds_toArray, List.set_cons_zero, List.set_cons_succ]
      refine wpAnyH_take (i := 8) (v := .agg #[.slice q k d]) rfl (by kernel_rfl) (by kernel_rfl) (by kernel_rfl) (fun _ _ _ h => h) (Or.inl ⟨by rfl, ?y8⟩) (by assumption) ?_
      case y8 => (intro w' hSw; obtain ⟨q1, q2⟩ := HSO.out w' hSw; go_simp)
      try simp only [List.getElem_toArray, List.getElem_cons_zero, List.getElem_cons_succ, Act.put, List.setIfInBounds_toArray, List.set_cons_zero, List.set_cons_succ]
      refine wpAnyH_ready (rs := [3]) (by kernel_rfl) (by simp) ?_
      refine AllReadyH.cons rfl (fun K hK => ?_) AllReadyH.nil
      try simp only [List.getElem_toArray, List.getElem_cons_zero, List.getElem_cons_succ]
      go_simp
      refine (HU1.out w1 HB1.out).mono ?_
      rintro e w2 ⟨p1, n1, d1, Q1, rfl, HL1, HC1, hh2⟩
      have hb2 := hh2.out
      have HB2 := hide' (HB1.out.trans (hb2.mono HB1.out.size))
      have hS2 : S w2 := HSB.out _ HB2.out
      clear hb2
      refine hK.out _ _ hS2 (fun hHeld2 => ?_)
      clear hK K
      try simp only [List.getElem_toArray, List.getElem_cons_zero, List.getElem_cons_succ, Act.put, List.setIfInBounds_toArray, List.set_cons_zero, List.set_cons_succ]
      refine wpAnyH_ready (rs := [5]) (by kernel_rfl) (by simp) ?_
      refine AllReadyH.cons rfl (fun K hK => ?_) AllReadyH.nil
      try simp only [List.getElem_toArray, List.getElem_cons_zero, List.getElem_cons_succ]
      go_simp
      refine (HU2.out w2 HB2.out).mono ?_
      rintro e w3 ⟨p2, n2, d2, Q2, rfl, HL2, HC2, hh3⟩
      have hb3 := hh3.out
      have HB3 := hide' (HB2.out.trans (hb3.mono HB2.out.size))
      have hS3 : S w3 := HSB.out _ HB3.out
      have HK3_1 := hide' (HL1.out.below hb3)
      clear hb3
      refine hK.out _ _ hS3 (fun hHeld3 => ?_)
      clear hK K
      try simp only [List.getElem_toArray, List.getElem_cons_zero, List.getElem_cons_succ, Act.put, List.setIfInBounds_toArray, List.set_cons_zero, List.set_cons_succ]
      refine wpAnyH_ready (rs := [6]) (by kernel_rfl) (by simp) ?_
      refine AllReadyH.cons rfl (fun K hK => ?_) AllReadyH.nil
      try simp only [List.getElem_toArray, List.getElem_cons_zero, List.getElem_cons_succ]
      go_simp
      refine (HSM.out w3 _ _ p1 n1 d1 Q1 p2 n2 d2 Q2 HK3_1.out HL2.out HC1.out HC2.out).mono ?_
      rintro e w4 ⟨rfl, hb4⟩
      have HB4 := hide' (HB3.out.trans (hb4.mono HB3.out.size))
      have hS4 : S w4 := HSB.out _ HB4.out
      have HK4_1 := hide' (HK3_1.out.below hb4)
      have HK4_2 := hide' (HL2.out.below hb4)
      clear hb4
      refine hK.out _ _ hS4 (fun hHeld4 => ?_)
      clear hK K
      try simp only [List.getElem_toArray, List.getElem_cons_zero, List.getElem_cons_succ, Act.put, List.setIfInBounds_toArray, List.set_cons_zero, List.set_cons_succ]
      refine wpAnyH_ready (rs := [9]) (by kernel_rfl) (by simp) ?_
      refine AllReadyH.cons rfl (fun K hK => ?_) AllReadyH.nil
      try simp only [List.getElem_toArray, List.getElem_cons_zero, List.getElem_cons_succ]
      go_simp
      refine (HRF.out w4 HB4.out).mono ?_
      rintro e w5 ⟨rfl, hb5⟩
      have HB5 := hide' (HB4.out.trans (hb5.mono HB4.out.size))
      have hS5 : S w5 := HSB.out _ HB5.out
      clear hb5
      refine hK.out _ _ hS5 (fun hHeld5 => ?_)
      clear hK K
      try simp only [List.getElem_toArray, List.getElem_cons_zero, List.getElem_cons_succ, Act.put, List.setIfInBounds_toArray, List.set_cons_zero, List.set_cons_succ]
      refine wpAnyH_take (i := 10) (v := .bool true) rfl (by kernel_rfl) (by kernel_rfl) (by kernel_rfl) (fun _ _ _ h => h) (Or.inl ⟨by rfl, ?y10⟩) (by assumption) ?_
      case y10 => (intro w' hSw; obtain ⟨q1, q2⟩ := HSO.out w' hSw; go_simp)
      try simp only [List.getElem_toArray, List.getElem_cons_zero, List.getElem_cons_succ, Act.put, List.setIfInBounds_toArray, List.set_cons_zero, List.set_cons_succ]
      refine wpAnyH_take (i := 11) (v := .bool true) rfl (by kernel_rfl) (by kernel_rfl) (by kernel_rfl) (fun _ _ _ h => h) (Or.inl ⟨by rfl, ?y11⟩) (by assumption) ?_
      case y11 => (intro w' hSw; obtain ⟨q1, q2⟩ := HSO.out w' hSw; go_simp)
      try simp only [List.getElem_toArray, List.getElem_cons_zero, List.getElem_cons_succ, Act.put, List.setIfInBounds_toArray, List.set_cons_zero, List.set_cons_succ]
      refine wpAnyH_take (i := 12) (v := .bool true) rfl (by kernel_rfl) (by kernel_rfl) (by kernel_rfl) (fun _ _ _ h => h) (Or.inl ⟨by rfl, ?y12⟩) (by assumption) ?_
      case y12 => (intro w' hSw; obtain ⟨q1, q2⟩ := HSO.out w' hSw; go_simp)
      try simp only [List.getElem_toArray, List.getElem_cons_zero, List.getElem_cons_succ, Act.put, List.setIfInBounds_toArray, List.set_cons_zero, List.set_cons_succ]
      refine wpAnyH_take (i := 13) (v := .agg #[.slice p n c]) rfl (by kernel_rfl) (by kernel_rfl) (by kernel_rfl) (fun _ _ _ h => h) (Or.inl ⟨by rfl, ?y13⟩) (by assumption) ?_
      case y13 => (intro w' hSw; obtain ⟨q1, q2⟩ := HSO.out w' hSw; go_simp)
      try simp only [List.getElem_toArray, List.getElem_cons_zero, List.getElem_cons_succ, Act.put, List.setIfInBounds_toArray, List.set_cons_zero, List.set_cons_succ]
      refine wpAnyH_take (i := 14) (v := .agg #[.slice p n c]) rfl (by kernel_rfl) (by kernel_rfl) (by kernel_rfl) (fun _ _ _ h => h) (Or.inl ⟨by rfl, ?y14⟩) (by assumption) ?_
      case y14 => (intro w' hSw; obtain ⟨q1, q2⟩ := HSO.out w' hSw; go_simp)
      try simp only [List.getElem_toArray, List.getElem_cons_zero, List.getElem_cons_succ, Act.put, List.setIfInBounds_toArray, List.set_cons_zero, List.set_cons_succ]
      refine wpAnyH_ready (rs := [15]) (by kernel_rfl) (by simp) ?_
      refine AllReadyH.cons rfl (fun K hK => ?_) AllReadyH.nil
      try simp only [List.getElem_toArray, List.getElem_cons_zero, List.getElem_cons_succ]
      go_simp
      refine (HU1.out w5 HB5.out).mono ?_
      rintro e w6 ⟨p3, n3, d3, Q3, rfl, HL3, HC3, hh6⟩
      have hb6 := hh6.out
      have HB6 := hide' (HB5.out.trans (hb6.mono HB5.out.size))
      have hS6 : S w6 := HSB.out _ HB6.out
      clear hb6
      refine hK.out _ _ hS6 (fun hHeld6 => ?_)
      clear hK K
      try simp only [List.getElem_toArray, List.getElem_cons_zero, List.getElem_cons_succ, Act.put, List.setIfInBounds_toArray, List.set_cons_zero, List.set_cons_succ]
      refine wpAnyH_ready (rs := [16]) (by kernel_rfl) (by simp) ?_
      refine AllReadyH.cons rfl (fun K hK => ?_) AllReadyH.nil
      try simp only [List.getElem_toArray, List.getElem_cons_zero, List.getElem_cons_succ]
      go_simp
      refine (HSP.out w6 _ p3 n3 d3 Q3 HB6.out HL3.out HC3.out).mono ?_
      rintro e w7 ⟨rfl, hb7⟩
      have HB7 := hide' (HB6.out.trans (hb7.mono HB6.out.size))
      have hS7 : S w7 := HSB.out _ HB7.out
      have HK7_3 := hide' (HL3.out.below hb7)
      clear hb7
      refine hK.out _ _ hS7 (fun hHeld7 => ?_)
      clear hK K
      try simp only [List.getElem_toArray, List.getElem_cons_zero, List.getElem_cons_succ, Act.put, List.setIfInBounds_toArray, List.set_cons_zero, List.set_cons_succ]
      refine wpAnyH_take (i := 17) (v := .bool true) rfl (by kernel_rfl) (by kernel_rfl) (by kernel_rfl) (fun _ _ _ h => h) (Or.inl ⟨by rfl, ?y17⟩) (by assumption) ?_
      case y17 => (intro w' hSw; obtain ⟨q1, q2⟩ := HSO.out w' hSw; go_simp)
      try simp only [List.getElem_toArray, List.getElem_cons_zero, List.getElem_cons_succ, Act.put, List.setIfInBounds_toArray, List.set_cons_zero, List.set_cons_succ]
      refine wpAnyH_take (i := 18) (v := .bool true) rfl (by kernel_rfl) (by kernel_rfl) (by kernel_rfl) (fun _ _ _ h => h) (Or.inl ⟨by rfl, ?y18⟩) (by assumption) ?_
      case y18 => (intro w' hSw; obtain ⟨q1, q2⟩ := HSO.out w' hSw; go_simp)
      try simp only [List.getElem_toArray, List.getElem_cons_zero, List.getElem_cons_succ, Act.put, List.setIfInBounds_toArray, List.set_cons_zero, List.set_cons_succ]
      refine wpAnyH_take (i := 19) (v := .agg #[.slice q k d]) rfl (by kernel_rfl) (by kernel_rfl) (by kernel_rfl) (fun _ _ _ h => h) (Or.inl ⟨by rfl, ?y19⟩) (by assumption) ?_
      case y19 => (intro w' hSw; obtain ⟨q1, q2⟩ := HSO.out w' hSw; go_simp)
      try simp only [List.getElem_toArray, List.getElem_cons_zero, List.getElem_cons_succ, Act.put, List.setIfInBounds_toArray, List.set_cons_zero, List.set_cons_succ]
      refine wpAnyH_take (i := 20) (v := .agg #[.slice q k d]) rfl (by kernel_rfl) (by kernel_rfl) (by kernel_rfl) (fun _ _ _ h => h) (Or.inl ⟨by rfl, ?y20⟩) (by assumption) ?_
      case y20 => (intro w' hSw; obtain ⟨q1, q2⟩ := HSO.out w' hSw; go_simp)
      try simp only [List.getElem_toArray, List.getElem_cons_zero, List.getElem_cons_succ, Act.put, List.setIfInBounds_toArray, List.set_cons_zero, List.set_cons_succ]
      refine wpAnyH_ready (rs := [21]) (by kernel_rfl) (by simp) ?_
      refine AllReadyH.cons rfl (fun K hK => ?_) AllReadyH.nil
      try simp only [List.getElem_toArray, List.getElem_cons_zero, List.getElem_cons_succ]
      go_simp
      refine (HSQ.out w7 HB7.out).mono ?_
      rintro e w8 ⟨rfl, hb8⟩
      have HB8 := hide' (HB7.out.trans (hb8.mono HB7.out.size))
      have hS8 : S w8 := HSB.out _ HB8.out
      clear hb8
      refine hK.out _ _ hS8 (fun hHeld8 => ?_)
      clear hK K
      try simp only [List.getElem_toArray, List.getElem_cons_zero, List.getElem_cons_succ, Act.put, List.setIfInBounds_toArray, List.set_cons_zero, List.set_cons_succ]
      refine wpAnyH_take (i := 22) (v := .bool true) rfl (by kernel_rfl) (by kernel_rfl) (by kernel_rfl) (fun _ _ _ h => h) (Or.inl ⟨by rfl, ?y22⟩) (by assumption) ?_
      case y22 => (intro w' hSw; obtain ⟨q1, q2⟩ := HSO.out w' hSw; go_simp)
      try simp only [List.getElem_toArray, List.getElem_cons_zero, List.getElem_cons_succ, Act.put, List.setIfInBounds_toArray, List.set_cons_zero, List.set_cons_succ]
      refine wpAnyH_take (i := 23) (v := .bool true) rfl (by kernel_rfl) (by kernel_rfl) (by kernel_rfl) (fun _ _ _ h => h) (Or.inl ⟨by rfl, ?y23⟩) (by assumption) ?_
      case y23 => (intro w' hSw; obtain ⟨q1, q2⟩ := HSO.out w' hSw; go_simp)
      try simp only [List.getElem_toArray, List.getElem_cons_zero, List.getElem_cons_succ, Act.put, List.setIfInBounds_toArray, List.set_cons_zero, List.set_cons_succ]
      refine wpAnyH_done (by kernel_rfl) ?_ _
      go_wp2
      go_ret
      exact ⟨rfl, HBW.out.trans (HB8.out.mono HBW.out.size)⟩
end Go.Proofs.YtcnagbkdckipnaaGreatDoor
