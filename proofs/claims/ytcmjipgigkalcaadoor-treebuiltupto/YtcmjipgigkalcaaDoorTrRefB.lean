import Derived.Test.YtcmjipgigkalcaaDoorTrDocC
import Derived.Test.YtcmjipgigkalcaaDoorChLawTexts
import Derived.Test.YtcmjipgigkalcaaDoorRnMm
import Derived.Test.YtcmjipgigkalcaaDoorWdLawOrder
import Derived.Test.YtcmjipgigkalcaaDoorTrRefT
import Derived.BigGuard
import Derived.Deep.RegionHeld
/-
  MATHEMATICS: names in the order by characters are in that by bytes; the document's Name, Texts and Compare of a text.
-/
namespace Go.Proofs.YtcmjipgigkalcaaDoor
open Go.RowKit Go.Lib
namespace Tr
theorem V_pend (f : Nat → Nat) (n : Nat) (hf : ∀ j, f j < 256) : ∀ fuel p, Ch.V f n p = true → Rn.pend f n fuel p = 0
  | 0, _, _ => rfl
  | fuel + 1, p, h => by
    unfold Rn.pend
    by_cases c : n ≤ p
    · rw [if_pos c]
    · rw [if_neg c]
      rw [Ch.V_step f n p hf (by omega)] at h
      have hd := Ch.dec_wrong (Rn.off f p) (n - p) (fun _ => hf _) (by omega)
      split at h
      · cases h
      · next hc =>
        have hw : Rn.whole (Rn.off f p) (n - p) = true := by
          cases e : Rn.whole (Rn.off f p) (n - p)
          · exact absurd (hd.2 e) hc
          · rfl
        rw [if_pos hw]
        rw [Rn.dec_whole (Rn.off f p) (n - p) (fun _ => hf _) (by omega), if_pos hw] at h
        exact V_pend f n hf fuel _ h
/-- the characters of a text -/
def chr (s : ByteArray) : List Nat := Wd.R (Rn.lf s.data.toList) s.size 0
theorem chr_tx (s : ByteArray) (h : Ch.valid (Rn.lf s.data.toList) s.size = true) : Rn.tx (chr s) = s := by
  have hl : s.data.toList.length = s.size := rfl
  have h1 := V_pend (Rn.lf s.data.toList) s.size (lf_lt _) s.size 0 (by rw [Ch.V_zero]; exact h)
  have h2 := Rn.pend_all s.data.toList s.data.toList.length 0 (by omega) (by rw [hl]; exact h1)
  rw [List.drop_zero] at h2
  have h3 : Rn.rl (Rn.chFrom (Rn.lf s.data.toList) s.data.toList.length (Rn.lf_lt s.data.toList) s.data.toList.length 0) = chr s := Wd.R_rl _ _ _
  rw [h3] at h2
  unfold Rn.tx
  rw [Rn.arr_lf, h2]
theorem cmp_swap (L M : List Nat) : Wd.cmp M L = - Wd.cmp L M := by
  unfold Wd.cmp
  rw [Wd.fu_swap]
  dsimp only
  unfold Wd.cm
  split
  · next h1 => rw [if_neg (by omega)]
  ·
    split
    · rfl
    · rfl
theorem gap_cmp (x q : ByteArray) (hx : nameB x = true) (hq : nameB q = true) : gapB x (some q) = !decide (0 ≤ Wd.cmp (chr q) (chr x)) := by
  have vx : Ch.valid (Rn.lf x.data.toList) x.size = true := by unfold nameB at hx; simp only [Bool.and_eq_true] at hx; exact hx.2.2
  have vq : Ch.valid (Rn.lf q.data.toList) q.size = true := by unfold nameB at hq; simp only [Bool.and_eq_true] at hq; exact hq.2.2
  have hb := Wd.both (chr x) (chr q) (Wd.R_scal _ _ _ (lf_lt _)) (Wd.R_scal _ _ _ (lf_lt _))
  have h1 := hb.less
  have h2 := hb.same
  rw [chr_tx x vx, chr_tx q vq] at h1 h2
  unfold gapB
  dsimp only
  rw [h1, h2, cmp_swap (chr q) (chr x)]
  rw [Bool.eq_iff_iff]
  simp
  omega
end Tr
theorem refName9 (s : ByteArray) (w : World) (hn : s.size ≤ 140737488351232) :
    Calls Tryd.prog 26 #[.string s] w fun e w' => e = .returned (.bool (Tr.nameB s)) ∧ Below w.heap.size w w' := by
  have h := refName_any (Rn.lf s.data.toList) s.size w (Tr.lf_lt _) (by omega)
  rw [Tr.arr_self] at h
  have e : (decide (0 < s.size) && (Ch.allFrom (Rn.lf s.data.toList) s.size 3 s.size 0 2 && Ch.V (Rn.lf s.data.toList) s.size 0)) = Tr.nameB s := by
    unfold Tr.nameB
    rw [Ch.V_zero, ← Bool.and_assoc, ← Bool.and_assoc, Bool.and_comm (decide _)]
  rw [e] at h
  exact h
theorem refTexts9 (s : ByteArray) (w : World) (hn : s.size ≤ 140737488351232) :
    Calls Tryd.prog 28 #[.string s] w fun e w' => e = .returned (.bool (Tr.textB s)) ∧ Below w.heap.size w w' := by
  have h := refTexts_any (Rn.lf s.data.toList) s.size w (Tr.lf_lt _) (by omega)
  rw [Tr.arr_self, Ch.V_zero] at h
  exact h
theorem refCompare9 (a b : ByteArray) (w : World) (ha : a.size ≤ 1099511627776) (hb : b.size ≤ 1099511627776) :
    Calls Tryd.prog 41 #[.string a, .string b] w fun e w' => e = .returned (.int .i64 (Wd.cmp (Tr.chr a) (Tr.chr b))) ∧ Below w.heap.size w w' := by
  have h := refCompare_any (Rn.lf a.data.toList) a.size (Rn.lf b.data.toList) b.size w (Tr.lf_lt _) (Tr.lf_lt _) ha hb
  rw [Tr.arr_self, Tr.arr_self] at h
  exact h
end Go.Proofs.YtcmjipgigkalcaaDoor
/-
  WALKS over the document's attrs of layer 9.
-/
namespace Go.Proofs.YtcmjipgigkalcaaDoor
open Go.RowKit Go.Lib
set_option maxRecDepth 100000 in
set_option maxHeartbeats 4000000 in
theorem refAttrs9 (v : Value) (l : List (ByteArray × ByteArray)) (w : World) (hA : Tr.AtRow w v l) (hs : ∀ x ∈ l, x.1.size ≤ 1048576 ∧ x.2.size ≤ 1048576) :
    Calls Tryd.prog 27 #[v] w fun r w' => r = .returned (.bool (Tr.atsB l none)) ∧ Below w.heap.size w w' := by
  obtain ⟨p, cap, rfl, a1, a2, a2', a3⟩ := hA
  obtain ⟨n, hn⟩ : ∃ n, l.length = n := ⟨_, rfl⟩
  rw [hn] at a1 a3 ⊢
  have HN := hide' hn
  have HA := hide' a3
  have HS := hide' hs
  clear hs a3 hn a2'
  go_enter Tryd.func27, Tryd.ntmps27
  go_wp2_with fail
  go_loopw [3] (fun v wr => ∃ i : Nat, v = .int .i64 i ∧ i ≤ n ∧ Hid (Tr.atsB (l.drop i) (Tr.pre l i) = Tr.atsB l none) ∧ Hid (∀ q, Tr.pre l i = some q → Tr.nameB q = true) ∧ Hid (Below w.heap.size w wr)) (fun v _ => n - (RowKit.intOf v).toNat)
  case atStart => exact ⟨0, rfl, Nat.zero_le _, rfl, (fun q h => by cases h), Below.refl _ _⟩
  case round =>
    obtain ⟨i, rfl, hi, HE, HQ, HR⟩ := hrel
    by_cases hlt : i < n
    · have t1 : (i : Int) < (n : Int) := by omega
      obtain ⟨b, o, rfl, ka⟩ := HA.out (by omega)
      obtain ⟨x, hx⟩ : ∃ x, l[i]? = some x := ⟨_, List.getElem?_eq_getElem (by rw [HN.out]; exact hlt)⟩
      have hx1 := HS.out x (List.mem_of_getElem? hx)
      have he := HE.out
      rw [Tr.atsB_step l i x hx] at he
      have k0 := (ka i x hx).1
      have k1 := (ka i x hx).2
      have q0 : wr.cell? ⟨b, o + i * 2, none⟩ = some (.string x.1) := (HR.out.cell (p := ⟨b, o + i * 2, none⟩) (block_lt_of_cell k0)).trans k0
      have q1 : wr.cell? ⟨b, o + i * 2 + 1, none⟩ = some (.string x.2) := (HR.out.cell (p := ⟨b, o + i * 2 + 1, none⟩) (block_lt_of_cell k1)).trans k1
      have c := refName9 x.1 wr (by omega)
      have HP : Hid (∀ j y, j + 1 = i → l[j]? = some y → wr.cell? ⟨b, o + j * 2, none⟩ = some (.string y.1) ∧ y.1.size ≤ 1048576) := fun j y _ hy => ⟨(HR.out.cell (p := ⟨b, o + j * 2, none⟩) (block_lt_of_cell (ka j y hy).1)).trans (ka j y hy).1, (HS.out y (List.mem_of_getElem? hy)).1⟩
      have HE2 := hide' he
      have HX := hide' hx
      have HX1 := hide' hx1
      have HC := hide' c
      clear ka k0 k1 hx hx1 he HE c HA HS
      go_wp2_with fail
      refine HC.out.mono ?_
      rintro e w1 ⟨rfl, hb1⟩
      have HB1 := hide' (HR.out.trans (hb1.mono HR.out.size))
      have z0 : w1.cell? ⟨b, o + i * 2, none⟩ = some (.string x.1) := (hb1.cell (p := ⟨b, o + i * 2, none⟩) (block_lt_of_cell q0)).trans q0
      have z1 : w1.cell? ⟨b, o + i * 2 + 1, none⟩ = some (.string x.2) := (hb1.cell (p := ⟨b, o + i * 2 + 1, none⟩) (block_lt_of_cell q1)).trans q1
      have HK : Hid (∀ j y, j + 1 = i → l[j]? = some y → w1.cell? ⟨b, o + j * 2, none⟩ = some (.string y.1) ∧ y.1.size ≤ 1048576) := fun j y h1 hy => ⟨(hb1.cell (p := ⟨b, o + j * 2, none⟩) (block_lt_of_cell (HP.out j y h1 hy).1)).trans (HP.out j y h1 hy).1, (HP.out j y h1 hy).2⟩
      clear HC hb1 HP q0 q1
      cases cn : Tr.nameB x.1
      · have he := HE2.out
        rw [cn, Bool.false_and] at he
        have HE3 := hide' he
        clear he HE2
        go_wp2_with fail
        go_ret
        exact ⟨by rw [← HE3.out]; rfl, HB1.out⟩
      have HCT := hide' (refTexts9 x.2 w1 (by have := HX1.out.2; omega))
      go_wp2_with fail
      refine HCT.out.mono ?_
      rintro e w2 ⟨rfl, hb2⟩
      have HB2 := hide' (HB1.out.trans (hb2.mono HB1.out.size))
      have u0 : w2.cell? ⟨b, o + i * 2, none⟩ = some (.string x.1) := (hb2.cell (p := ⟨b, o + i * 2, none⟩) (block_lt_of_cell z0)).trans z0
      have HK2 : Hid (∀ j y, j + 1 = i → l[j]? = some y → w2.cell? ⟨b, o + j * 2, none⟩ = some (.string y.1) ∧ y.1.size ≤ 1048576) := fun j y h1 hy => ⟨(hb2.cell (p := ⟨b, o + j * 2, none⟩) (block_lt_of_cell (HK.out j y h1 hy).1)).trans (HK.out j y h1 hy).1, (HK.out j y h1 hy).2⟩
      clear hb2 z0 z1 HK HCT
      cases ct : Tr.textB x.2
      · have he := HE2.out
        rw [ct, Bool.false_and, Bool.and_false] at he
        have HE3 := hide' he
        clear he HE2
        go_wp2_with fail
        go_ret
        exact ⟨by rw [← HE3.out]; rfl, HB2.out⟩
      have he := HE2.out
      rw [cn, ct, Bool.true_and, Bool.true_and] at he
      clear HE2
      have HQ2 : Hid (∀ q, Tr.pre l (i + 1) = some q → Tr.nameB q = true) := fun q h => by
        have e : Tr.pre l (i + 1) = some x.1 := by show l[i]?.map _ = _; rw [HX.out]; rfl
        rw [e] at h
        cases h
        exact cn
      by_cases h0 : i = 0
      · subst h0
        have HE3 := hide' he
        clear he
        clear HK2 HX HX1 hi u0
        go_wp2_with fail
        go_quiet (fail)
        go_wp2_with fail
        exact ⟨⟨1, rfl, hlt, hide' HE3.out, HQ2, hide' (below_drewN HB2.out nq)⟩, by simp [RowKit.intOf]; omega⟩
      · obtain ⟨j, hj⟩ : ∃ j, i = j + 1 := ⟨i - 1, by omega⟩
        obtain ⟨y, hy⟩ : ∃ y, l[j]? = some y := ⟨_, List.getElem?_eq_getElem (by rw [HN.out]; omega)⟩
        obtain ⟨u1, hys⟩ := HK2.out j y hj.symm hy
        have ep : Tr.pre l i = some y.1 := by rw [hj]; show l[j]?.map _ = _; rw [hy]; rfl
        have g1 : (0 : Int) < (i : Int) := by omega
        have g2 : IntKind.i64.wrap ((i : Int) - 1) = (j : Int) := by rw [IntKind.wrap_i64]; omega
        have g3 : (j : Int) < (n : Int) := by omega
        have g4 : 0 ≤ (j : Int) := by omega
        rw [ep, Tr.gap_cmp x.1 y.1 cn (HQ.out _ ep)] at he
        have cC := refCompare9 y.1 x.1 w2.drew (by omega) (by have := HX1.out.1; omega)
        obtain ⟨c, hc⟩ : ∃ c, Wd.cmp (Tr.chr y.1) (Tr.chr x.1) = c := ⟨_, rfl⟩
        rw [hc] at he cC
        have CL := hide' cC
        have HL := hide' hlt
        have xx : w2.drew.cell? ⟨b, o + j * 2, none⟩ = some (.string y.1) ∧ w2.drew.cell? ⟨b, o + i * 2, none⟩ = some (.string x.1) := ⟨u1, u0⟩
        have HE3 := hide' he
        clear he HK2 HX HX1 hi hy ep h0 hlt hys hc cC HQ hj
        by_cases hcc : 0 ≤ c
        ·
          go_wp2_with fail
          clear u0 u1
          refine wp_region_held_drew (S := fun w' => w'.cell? ⟨b, o + j * 2, none⟩ = some (.string y.1) ∧ w'.cell? ⟨b, o + i * 2, none⟩ = some (.string x.1)) (by kernel_rfl) xx (fun hHeld => ?_)
          simp only [List.size_toArray, List.length_cons, List.length_nil, Nat.reduceAdd]
          refine wpAnyH_take (i := 0) (v := .int .i64 i) rfl (by kernel_rfl) (by kernel_rfl) (by kernel_rfl) (fun _ _ _ h => h) (Or.inl ⟨by rfl, ?y0⟩) (by assumption) ?_
          case y0 => (intro w' hSw; go_simp)
          try simp only [List.getElem_toArray, List.getElem_cons_zero, Act.put, List.setIfInBounds_toArray, List.set_cons_zero, List.set_cons_succ]
          refine wpAnyH_take (i := 1) (v := .bool true) rfl (by kernel_rfl) (by kernel_rfl) (by kernel_rfl) (fun _ _ _ h => h) (Or.inl ⟨by rfl, ?y1⟩) (by assumption) ?_
          case y1 => (intro w' hSw; go_simp; omega)
          try simp only [List.getElem_toArray, List.getElem_cons_zero, List.getElem_cons_succ, Act.put, List.setIfInBounds_toArray, List.set_cons_zero, List.set_cons_succ]
          refine wpAnyH_take (i := 2) (v := .bool true) rfl (by kernel_rfl) (by kernel_rfl) (by kernel_rfl) (fun _ _ _ h => h) (Or.inl ⟨by rfl, ?y2⟩) (by assumption) ?_
          case y2 => (intro w' hSw; go_simp)
          try simp only [List.getElem_toArray, List.getElem_cons_zero, List.getElem_cons_succ, Act.put, List.setIfInBounds_toArray, List.set_cons_zero, List.set_cons_succ]
          refine wpAnyH_take (i := 3) (v := .slice (some ⟨b, o, none⟩) n cap) rfl (by kernel_rfl) (by kernel_rfl) (by kernel_rfl) (fun _ _ _ h => h) (Or.inl ⟨by rfl, ?y3⟩) (by assumption) ?_
          case y3 => (intro w' hSw; go_simp)
          try simp only [List.getElem_toArray, List.getElem_cons_zero, List.getElem_cons_succ, Act.put, List.setIfInBounds_toArray, List.set_cons_zero, List.set_cons_succ]
          refine wpAnyH_take (i := 4) (v := .int .i64 i) rfl (by kernel_rfl) (by kernel_rfl) (by kernel_rfl) (fun _ _ _ h => h) (Or.inl ⟨by rfl, ?y4⟩) (by assumption) ?_
          case y4 => (intro w' hSw; go_simp)
          try simp only [List.getElem_toArray, List.getElem_cons_zero, List.getElem_cons_succ, Act.put, List.setIfInBounds_toArray, List.set_cons_zero, List.set_cons_succ]
          refine wpAnyH_take (i := 5) (v := .int .i64 j) rfl (by kernel_rfl) (by kernel_rfl) (by kernel_rfl) (fun _ _ _ h => h) (Or.inl ⟨by rfl, ?y5⟩) (by assumption) ?_
          case y5 => (intro w' hSw; go_simp)
          try simp only [List.getElem_toArray, List.getElem_cons_zero, List.getElem_cons_succ, Act.put, List.setIfInBounds_toArray, List.set_cons_zero, List.set_cons_succ]
          refine wpAnyH_take (i := 6) (v := .pointer (some ⟨b, o + j * 2, none⟩)) rfl (by kernel_rfl) (by kernel_rfl) (by kernel_rfl) (fun _ _ _ h => h) (Or.inl ⟨by rfl, ?y6⟩) (by assumption) ?_
          case y6 => (intro w' hSw; go_simp)
          try simp only [List.getElem_toArray, List.getElem_cons_zero, List.getElem_cons_succ, Act.put, List.setIfInBounds_toArray, List.set_cons_zero, List.set_cons_succ]
          refine wpAnyH_take (i := 7) (v := .pointer (some ⟨b, o + j * 2, none⟩)) rfl (by kernel_rfl) (by kernel_rfl) (by kernel_rfl) (fun _ _ _ h => h) (Or.inl ⟨by rfl, ?y7⟩) (by assumption) ?_
          case y7 => (intro w' hSw; go_simp)
          try simp only [List.getElem_toArray, List.getElem_cons_zero, List.getElem_cons_succ, Act.put, List.setIfInBounds_toArray, List.set_cons_zero, List.set_cons_succ]
          refine wpAnyH_take (i := 8) (v := .string y.1) rfl (by kernel_rfl) (by kernel_rfl) (by kernel_rfl) (fun _ _ _ h => h) (Or.inl ⟨by rfl, ?y8⟩) (by assumption) ?_
          case y8 => (intro w' hSw; have h1 := hSw.1; go_simp)
          try simp only [List.getElem_toArray, List.getElem_cons_zero, List.getElem_cons_succ, Act.put, List.setIfInBounds_toArray, List.set_cons_zero, List.set_cons_succ]
          refine wpAnyH_take (i := 9) (v := .slice (some ⟨b, o, none⟩) n cap) rfl (by kernel_rfl) (by kernel_rfl) (by kernel_rfl) (fun _ _ _ h => h) (Or.inl ⟨by rfl, ?y9⟩) (by assumption) ?_
          case y9 => (intro w' hSw; go_simp)
          try simp only [List.getElem_toArray, List.getElem_cons_zero, List.getElem_cons_succ, Act.put, List.setIfInBounds_toArray, List.set_cons_zero, List.set_cons_succ]
          refine wpAnyH_take (i := 10) (v := .int .i64 i) rfl (by kernel_rfl) (by kernel_rfl) (by kernel_rfl) (fun _ _ _ h => h) (Or.inl ⟨by rfl, ?y10⟩) (by assumption) ?_
          case y10 => (intro w' hSw; go_simp)
          try simp only [List.getElem_toArray, List.getElem_cons_zero, List.getElem_cons_succ, Act.put, List.setIfInBounds_toArray, List.set_cons_zero, List.set_cons_succ]
          refine wpAnyH_take (i := 11) (v := .pointer (some ⟨b, o + i * 2, none⟩)) rfl (by kernel_rfl) (by kernel_rfl) (by kernel_rfl) (fun _ _ _ h => h) (Or.inl ⟨by rfl, ?y11⟩) (by assumption) ?_
          case y11 => (intro w' hSw; go_simp)
          try simp only [List.getElem_toArray, List.getElem_cons_zero, List.getElem_cons_succ, Act.put, List.setIfInBounds_toArray, List.set_cons_zero, List.set_cons_succ]
          refine wpAnyH_take (i := 12) (v := .pointer (some ⟨b, o + i * 2, none⟩)) rfl (by kernel_rfl) (by kernel_rfl) (by kernel_rfl) (fun _ _ _ h => h) (Or.inl ⟨by rfl, ?y12⟩) (by assumption) ?_
          case y12 => (intro w' hSw; go_simp)
          try simp only [List.getElem_toArray, List.getElem_cons_zero, List.getElem_cons_succ, Act.put, List.setIfInBounds_toArray, List.set_cons_zero, List.set_cons_succ]
          refine wpAnyH_take (i := 13) (v := .string x.1) rfl (by kernel_rfl) (by kernel_rfl) (by kernel_rfl) (fun _ _ _ h => h) (Or.inl ⟨by rfl, ?y13⟩) (by assumption) ?_
          case y13 => (intro w' hSw; have h1 := hSw.2; go_simp)
          try simp only [List.getElem_toArray, List.getElem_cons_zero, List.getElem_cons_succ, Act.put, List.setIfInBounds_toArray, List.set_cons_zero, List.set_cons_succ]
          refine wpAnyH_ready (rs := [14]) (by kernel_rfl) (by simp) ?_
          refine AllReadyH.cons rfl (fun K hK => ?_) AllReadyH.nil
          try simp only [List.getElem_toArray, List.getElem_cons_zero, List.getElem_cons_succ]
          go_simp
          refine CL.out.mono ?_
          rintro r w3 ⟨rfl, hb3⟩
          have zz := Tr.keep2 xx hb3
          have HB3 := hide' (HB2.out.drew.trans (hb3.mono HB2.out.size))
          clear hb3 CL
          refine hK.out _ _ zz (fun hHeld9 => ?_)
          clear hK K
          try simp only [List.getElem_toArray, List.getElem_cons_zero, List.getElem_cons_succ, Act.put, List.setIfInBounds_toArray, List.set_cons_zero, List.set_cons_succ]
          refine wpAnyH_take (i := 15) (v := .bool true) rfl (by kernel_rfl) (by kernel_rfl) (by kernel_rfl) (fun _ _ _ h => h) (Or.inl ⟨by rfl, ?y15⟩) (by assumption) ?_
          case y15 => (intro w' hSw; go_simp)
          try simp only [List.getElem_toArray, List.getElem_cons_zero, List.getElem_cons_succ, Act.put, List.setIfInBounds_toArray, List.set_cons_zero, List.set_cons_succ]
          refine wpAnyH_take (i := 16) (v := .bool true) rfl (by kernel_rfl) (by kernel_rfl) (by kernel_rfl) (fun _ _ _ h => h) (Or.inl ⟨by rfl, ?y16⟩) (by assumption) ?_
          case y16 => (intro w' hSw; go_simp)
          try simp only [List.getElem_toArray, List.getElem_cons_zero, List.getElem_cons_succ, Act.put, List.setIfInBounds_toArray, List.set_cons_zero, List.set_cons_succ]
          refine wpAnyH_done (by kernel_rfl) ?_ _
          clear xx zz
          go_wp2_with fail
          go_ret
          exact ⟨by rw [← HE3.out, decide_eq_true (by omega)]; rfl, HB3.out⟩
        ·
          go_wp2_with fail
          clear u0 u1
          refine wp_region_held_drew (S := fun w' => w'.cell? ⟨b, o + j * 2, none⟩ = some (.string y.1) ∧ w'.cell? ⟨b, o + i * 2, none⟩ = some (.string x.1)) (by kernel_rfl) xx (fun hHeld => ?_)
          simp only [List.size_toArray, List.length_cons, List.length_nil, Nat.reduceAdd]
          refine wpAnyH_take (i := 0) (v := .int .i64 i) rfl (by kernel_rfl) (by kernel_rfl) (by kernel_rfl) (fun _ _ _ h => h) (Or.inl ⟨by rfl, ?y0⟩) (by assumption) ?_
          case y0 => (intro w' hSw; go_simp)
          try simp only [List.getElem_toArray, List.getElem_cons_zero, Act.put, List.setIfInBounds_toArray, List.set_cons_zero, List.set_cons_succ]
          refine wpAnyH_take (i := 1) (v := .bool true) rfl (by kernel_rfl) (by kernel_rfl) (by kernel_rfl) (fun _ _ _ h => h) (Or.inl ⟨by rfl, ?y1⟩) (by assumption) ?_
          case y1 => (intro w' hSw; go_simp; omega)
          try simp only [List.getElem_toArray, List.getElem_cons_zero, List.getElem_cons_succ, Act.put, List.setIfInBounds_toArray, List.set_cons_zero, List.set_cons_succ]
          refine wpAnyH_take (i := 2) (v := .bool true) rfl (by kernel_rfl) (by kernel_rfl) (by kernel_rfl) (fun _ _ _ h => h) (Or.inl ⟨by rfl, ?y2⟩) (by assumption) ?_
          case y2 => (intro w' hSw; go_simp)
          try simp only [List.getElem_toArray, List.getElem_cons_zero, List.getElem_cons_succ, Act.put, List.setIfInBounds_toArray, List.set_cons_zero, List.set_cons_succ]
          refine wpAnyH_take (i := 3) (v := .slice (some ⟨b, o, none⟩) n cap) rfl (by kernel_rfl) (by kernel_rfl) (by kernel_rfl) (fun _ _ _ h => h) (Or.inl ⟨by rfl, ?y3⟩) (by assumption) ?_
          case y3 => (intro w' hSw; go_simp)
          try simp only [List.getElem_toArray, List.getElem_cons_zero, List.getElem_cons_succ, Act.put, List.setIfInBounds_toArray, List.set_cons_zero, List.set_cons_succ]
          refine wpAnyH_take (i := 4) (v := .int .i64 i) rfl (by kernel_rfl) (by kernel_rfl) (by kernel_rfl) (fun _ _ _ h => h) (Or.inl ⟨by rfl, ?y4⟩) (by assumption) ?_
          case y4 => (intro w' hSw; go_simp)
          try simp only [List.getElem_toArray, List.getElem_cons_zero, List.getElem_cons_succ, Act.put, List.setIfInBounds_toArray, List.set_cons_zero, List.set_cons_succ]
          refine wpAnyH_take (i := 5) (v := .int .i64 j) rfl (by kernel_rfl) (by kernel_rfl) (by kernel_rfl) (fun _ _ _ h => h) (Or.inl ⟨by rfl, ?y5⟩) (by assumption) ?_
          case y5 => (intro w' hSw; go_simp)
          try simp only [List.getElem_toArray, List.getElem_cons_zero, List.getElem_cons_succ, Act.put, List.setIfInBounds_toArray, List.set_cons_zero, List.set_cons_succ]
          refine wpAnyH_take (i := 6) (v := .pointer (some ⟨b, o + j * 2, none⟩)) rfl (by kernel_rfl) (by kernel_rfl) (by kernel_rfl) (fun _ _ _ h => h) (Or.inl ⟨by rfl, ?y6⟩) (by assumption) ?_
          case y6 => (intro w' hSw; go_simp)
          try simp only [List.getElem_toArray, List.getElem_cons_zero, List.getElem_cons_succ, Act.put, List.setIfInBounds_toArray, List.set_cons_zero, List.set_cons_succ]
          refine wpAnyH_take (i := 7) (v := .pointer (some ⟨b, o + j * 2, none⟩)) rfl (by kernel_rfl) (by kernel_rfl) (by kernel_rfl) (fun _ _ _ h => h) (Or.inl ⟨by rfl, ?y7⟩) (by assumption) ?_
          case y7 => (intro w' hSw; go_simp)
          try simp only [List.getElem_toArray, List.getElem_cons_zero, List.getElem_cons_succ, Act.put, List.setIfInBounds_toArray, List.set_cons_zero, List.set_cons_succ]
          refine wpAnyH_take (i := 8) (v := .string y.1) rfl (by kernel_rfl) (by kernel_rfl) (by kernel_rfl) (fun _ _ _ h => h) (Or.inl ⟨by rfl, ?y8⟩) (by assumption) ?_
          case y8 => (intro w' hSw; have h1 := hSw.1; go_simp)
          try simp only [List.getElem_toArray, List.getElem_cons_zero, List.getElem_cons_succ, Act.put, List.setIfInBounds_toArray, List.set_cons_zero, List.set_cons_succ]
          refine wpAnyH_take (i := 9) (v := .slice (some ⟨b, o, none⟩) n cap) rfl (by kernel_rfl) (by kernel_rfl) (by kernel_rfl) (fun _ _ _ h => h) (Or.inl ⟨by rfl, ?y9⟩) (by assumption) ?_
          case y9 => (intro w' hSw; go_simp)
          try simp only [List.getElem_toArray, List.getElem_cons_zero, List.getElem_cons_succ, Act.put, List.setIfInBounds_toArray, List.set_cons_zero, List.set_cons_succ]
          refine wpAnyH_take (i := 10) (v := .int .i64 i) rfl (by kernel_rfl) (by kernel_rfl) (by kernel_rfl) (fun _ _ _ h => h) (Or.inl ⟨by rfl, ?y10⟩) (by assumption) ?_
          case y10 => (intro w' hSw; go_simp)
          try simp only [List.getElem_toArray, List.getElem_cons_zero, List.getElem_cons_succ, Act.put, List.setIfInBounds_toArray, List.set_cons_zero, List.set_cons_succ]
          refine wpAnyH_take (i := 11) (v := .pointer (some ⟨b, o + i * 2, none⟩)) rfl (by kernel_rfl) (by kernel_rfl) (by kernel_rfl) (fun _ _ _ h => h) (Or.inl ⟨by rfl, ?y11⟩) (by assumption) ?_
          case y11 => (intro w' hSw; go_simp)
          try simp only [List.getElem_toArray, List.getElem_cons_zero, List.getElem_cons_succ, Act.put, List.setIfInBounds_toArray, List.set_cons_zero, List.set_cons_succ]
          refine wpAnyH_take (i := 12) (v := .pointer (some ⟨b, o + i * 2, none⟩)) rfl (by kernel_rfl) (by kernel_rfl) (by kernel_rfl) (fun _ _ _ h => h) (Or.inl ⟨by rfl, ?y12⟩) (by assumption) ?_
          case y12 => (intro w' hSw; go_simp)
          try simp only [List.getElem_toArray, List.getElem_cons_zero, List.getElem_cons_succ, Act.put, List.setIfInBounds_toArray, List.set_cons_zero, List.set_cons_succ]
          refine wpAnyH_take (i := 13) (v := .string x.1) rfl (by kernel_rfl) (by kernel_rfl) (by kernel_rfl) (fun _ _ _ h => h) (Or.inl ⟨by rfl, ?y13⟩) (by assumption) ?_
          case y13 => (intro w' hSw; have h1 := hSw.2; go_simp)
          try simp only [List.getElem_toArray, List.getElem_cons_zero, List.getElem_cons_succ, Act.put, List.setIfInBounds_toArray, List.set_cons_zero, List.set_cons_succ]
          refine wpAnyH_ready (rs := [14]) (by kernel_rfl) (by simp) ?_
          refine AllReadyH.cons rfl (fun K hK => ?_) AllReadyH.nil
          try simp only [List.getElem_toArray, List.getElem_cons_zero, List.getElem_cons_succ]
          go_simp
          refine CL.out.mono ?_
          rintro r w3 ⟨rfl, hb3⟩
          have zz := Tr.keep2 xx hb3
          have HB3 := hide' (HB2.out.drew.trans (hb3.mono HB2.out.size))
          clear hb3 CL
          refine hK.out _ _ zz (fun hHeld9 => ?_)
          clear hK K
          try simp only [List.getElem_toArray, List.getElem_cons_zero, List.getElem_cons_succ, Act.put, List.setIfInBounds_toArray, List.set_cons_zero, List.set_cons_succ]
          refine wpAnyH_take (i := 15) (v := .bool false) rfl (by kernel_rfl) (by kernel_rfl) (by kernel_rfl) (fun _ _ _ h => h) (Or.inl ⟨by rfl, ?y15⟩) (by assumption) ?_
          case y15 => (intro w' hSw; go_simp)
          try simp only [List.getElem_toArray, List.getElem_cons_zero, List.getElem_cons_succ, Act.put, List.setIfInBounds_toArray, List.set_cons_zero, List.set_cons_succ]
          refine wpAnyH_take (i := 16) (v := .bool false) rfl (by kernel_rfl) (by kernel_rfl) (by kernel_rfl) (fun _ _ _ h => h) (Or.inl ⟨by rfl, ?y16⟩) (by assumption) ?_
          case y16 => (intro w' hSw; go_simp)
          try simp only [List.getElem_toArray, List.getElem_cons_zero, List.getElem_cons_succ, Act.put, List.setIfInBounds_toArray, List.set_cons_zero, List.set_cons_succ]
          refine wpAnyH_done (by kernel_rfl) ?_ _
          clear xx zz
          have he := HE3.out
          rw [decide_eq_false (by omega), Bool.not_false, Bool.true_and] at he
          have HE4 := hide' he
          clear he HE3
          go_wp2_with fail
          exact ⟨⟨i + 1, rfl, HL.out, HE4, HQ2, HB3⟩, by have := HL.out; simp [RowKit.intOf]; omega⟩
    · have t1 : ¬ (i : Int) < (n : Int) := by omega
      have he := HE.out
      rw [Tr.atsB_end l i (by rw [HN.out]; exact hlt)] at he
      have HE2 := hide' he
      clear he hlt hi HA HS HE HQ
      go_wp2
      go_ret
      exact ⟨by rw [← HE2.out]; rfl, HR.out⟩
end Go.Proofs.YtcmjipgigkalcaaDoor
