/-
  THE WALK over gimletlaw01.RunesMends: of any text.
-/
import Derived.Test.YtacmenmneilamaaDoorRnJoin
import Derived.Test.YtacmenmneilamaaDoorRnAwake
import Derived.Deep.QuietTactic
import Derived.BigQuiet
namespace Go.Proofs.YtacmenmneilamaaDoor
open Go.RowKit Go.Shelf

namespace Rn
theorem cat_le : ∀ L : List Nat, (cat L).length ≤ 4 * L.length
  | [] => by simp [cat]
  | r :: L => by
    have := cat_le L
    have := el_pos r
    rw [cat_cons, List.length_append, enc_length, List.length_cons]
    omega
theorem arr_toList (l : List UInt8) : (arr (lf l) l.length).toList = l := by rw [arr_lf, ByteArray.toList_mk]
theorem arr_at (l : List UInt8) (k : Nat) (h : k < (arr (lf l) l.length).size) : ((arr (lf l) l.length)[k]'h).toNat = lf l k := by
  have e : (arr (lf l) l.length)[k]'h = (lf l k).toUInt8 := by
    show (Array.ofFn (n := l.length) fun i => (lf l i).toUInt8)[k] = _
    simp
  have := lf_lt l k
  rw [e]
  simp; omega
theorem pend_succ (f : Nat → Nat) (n m p : Nat) : pend f n (m + 1) p = if n ≤ p then 0 else if whole (off f p) (n - p) then pend f n m (p + fs (off f p) (n - p)) else n - p := rfl
/-- what Take's next byte does, where the rest can go on -/
theorem good_step (f : Nat → Nat) (n fuel p k : Nat) (hp : p + k < n) (hg : goodFrom f n (fuel + 1) p = n) (hw : whole (off f p) (n - p) = true → k < fs (off f p) (n - p)) :
    k < 4 ∧ ((waits (off f p) (k + 1) = true ∧ (whole (off f p) (n - p) = true → k + 1 < fs (off f p) (n - p))) ∨
      (whole (off f p) (k + 1) = true ∧ whole (off f p) (n - p) = true ∧ fs (off f p) (n - p) = k + 1)) := by
  unfold goodFrom at hg
  rw [if_neg (by omega)] at hg
  have a2 := fk_le (off f p) (n - p)
  have a3 := fs_le (off f p) (n - p)
  cases h : whole (off f p) (n - p)
  · rw [h] at hg
    simp only [Bool.false_eq_true, if_false] at hg
    have hu := waits_upto (off f p) (n - p) k h (by omega)
    rw [decide_eq_true (by omega)] at hu
    have a1 := fk_le_fs (off f p) (n - p)
    exact ⟨by omega, .inl ⟨hu, fun c => by cases c⟩⟩
  · have hk := hw h
    have h' := h
    simp only [whole, decide_eq_true_eq] at h'
    have e0 : fs (off f p) (n - p) = size (off f p 0) := by unfold fs; rw [if_neg (by omega)]
    have e1 : fs (off f p) (k + 1) = size (off f p 0) := by unfold fs; rw [if_neg (by omega)]
    have e2 := fk_min (off f p) (m := k + 1) (n := n - p) (by omega) (by omega)
    by_cases hq : fs (off f p) (n - p) = k + 1
    · refine ⟨by omega, .inr ⟨?_, rfl, hq⟩⟩
      simp only [whole, decide_eq_true_eq]
      omega
    · refine ⟨by omega, .inl ⟨?_, fun _ => by omega⟩⟩
      simp only [waits, decide_eq_true_eq]
      omega
end Rn

structure MendsOf (l : List UInt8) (L K : List Nat) : Prop where
  sL : ∀ r ∈ L, Rn.scal r
  sK : ∀ r ∈ K, Rn.scal r
  le : K.length ≤ L.length
  len : L.length ≤ l.length
  cL : (Rn.cat L).length ≤ 4 * l.length
  cK : (Rn.cat K).length ≤ 4 * l.length
  own : (Rn.good (Rn.lf l) l.length = l.length ∧ Rn.pend (Rn.lf l) l.length l.length 0 = 0) ↔ Rn.cat L = l
  par : Rn.cat L = l ↔ Rn.cat K = l
  mend : ∀ w, Calls Tryd.prog 19 #[.string (Rn.arr (Rn.lf l) l.length)] w fun e w' => e = .returned (.string (Rn.tx L)) ∧ Below w.heap.size w w'
  parts : ∀ w, Lib.Utf8Tabs 0 1 w → Calls Tryd.prog 21 #[.string (Rn.arr (Rn.lf l) l.length)] w fun e w' => e = .returned (.string (Rn.tx K)) ∧ Below w.heap.size w w'
  runes : ∀ w, Calls Tryd.prog 33 #[.string (Rn.arr (Rn.lf l) l.length)] w fun e W => ∃ cap, e = .returned (.slice (some ⟨w.heap.size, 0, none⟩) L.length cap) ∧ L.length ≤ cap ∧ cap ≤ maxLen ∧ Lie W w.heap.size L ∧ Below w.heap.size w W ∧ W.heap.size = w.heap.size + 1
theorem mendsOf (l : List UInt8) (hn : l.length ≤ 1099511627776) : ∃ L K, MendsOf l L K := by
  obtain ⟨K, hK1, hK2, hK3⟩ := Rn.mp_chars (Rn.lf l) l.length (Rn.lf_lt l)
  have hl : (Rn.rl (Rn.chs (Rn.lf l) l.length (Rn.lf_lt l))).length ≤ l.length := by
    have := Rn.chs_length (Rn.lf l) l.length (Rn.lf_lt l)
    simpa [Rn.rl] using this
  have c1 := Rn.cat_le (Rn.rl (Rn.chs (Rn.lf l) l.length (Rn.lf_lt l)))
  have c2 := Rn.cat_le K
  have hP := Rn.own_parts l
  rw [hK1] at hP
  refine ⟨_, K, Rn.chs_scal _ _ _, hK3, hK2, hl, by omega, by omega, Rn.own_mending l, hP, fun w => ?_, fun w hT => ?_, fun w => ?_⟩
  · refine (mend_any _ _ w (Rn.lf_lt l) (by omega)).mono ?_
    rintro e w' ⟨rfl, hb, -⟩
    rw [Rn.md_cat, Rn.tx, Rn.arr_lf]
    exact ⟨rfl, hb⟩
  · refine (mendParts_any _ _ w (Rn.lf_lt l) hT (by omega)).mono ?_
    rintro e w' ⟨rfl, hb⟩
    rw [hK1, Rn.tx, Rn.arr_lf]
    exact ⟨rfl, hb⟩
  · refine (runes_any _ _ w (Rn.lf_lt l) (by omega)).mono ?_
    rintro e w' ⟨cap, rfl, h1, h2, h3, h4, h5, -⟩
    exact ⟨cap, rfl, h1, h2, h3, h4, h5⟩

theorem tx_size (L : List Nat) : (Rn.tx L).size = (Rn.cat L).length := Rn.arr_size _ _
set_option maxRecDepth 100000 in
set_option maxHeartbeats 4000000 in
theorem lawMends_any (l : List UInt8) (w : World) (hT : Lib.Utf8Tabs 0 1 w) (hn : l.length ≤ 1099511627776) :
    Calls Tryd.prog 8 #[.string (Rn.arr (Rn.lf l) l.length)] w fun e w' => e = .returned (.bool true) ∧ Below w.heap.size w w' := by
  have cA := awake_any w hT
  have hsz := Rn.arr_size (Rn.lf l) l.length
  obtain ⟨L, K, sL, sK, hKL, hLn, cL, cK, hOwn, hPar, cM, cP, cR⟩ := mendsOf l hn
  have zL := tx_size L
  have zK := tx_size K
  have hTb : ∀ {w'}, Below w.heap.size w w' → Lib.Utf8Tabs 0 1 w' := fun h => tabs_below hT h (Nat.le_refl _)
  have hlf := Rn.lf_lt l
  have hb1 : ((Rn.tx L).toList == (Rn.arr (Rn.lf l) l.length).toList) = decide (Rn.cat L = l) := by
    rw [Rn.tx_toList, Rn.arr_toList]
    rw [Bool.eq_iff_iff]
    simp
  have hb2 : ((Rn.tx K).toList == (Rn.arr (Rn.lf l) l.length).toList) = decide (Rn.cat L = l) := by
    rw [Rn.tx_toList, Rn.arr_toList, Bool.eq_iff_iff]
    simpa using hPar.symm
  have cG := fun b cap w hT hc hm hp => good_any (Rn.lf l) l.length b 0 cap w hT hlf hc hm hp
  have cB := fun W => conv_bytes (Rn.lf l) l.length W hlf (by omega)
  have HO := hide' hOwn
  have hget : ∀ k (h : k < (Rn.arr (Rn.lf l) l.length).size), ((Rn.arr (Rn.lf l) l.length)[k]'h).toNat = Rn.lf l k := fun k h => Rn.arr_at l k h
  clear hPar hOwn
  generalize Rn.arr (Rn.lf l) l.length = s at *
  go_enter Tryd.func8, Tryd.ntmps8
  go_wp2_with fail
  refine cA.mono ?_
  rintro e w1 ⟨rfl, hB1⟩
  clear cA
  go_wp2_with fail
  refine (cM w1).mono ?_
  rintro e w2 ⟨rfl, hb⟩
  have hB2 := hB1.trans (hb.mono hB1.size)
  clear hb cM
  go_wp2_with fail
  refine (cP w2 (hTb hB2)).mono ?_
  rintro e w3 ⟨rfl, hb⟩
  have hB3 := hB2.trans (hb.mono hB2.size)
  obtain ⟨cap3, W3, hcv3, d1, d2, d3, d4, d5⟩ := conv_bytes (Rn.lf (Rn.cat L)) (Rn.cat L).length w3 (Rn.lf_lt _) (by omega)
  have hB4 := hB3.trans (d4.mono hB3.size)
  clear hb cP d4
  have hcv3' : (convert 9 22 (.string (Rn.tx L))).run Tryd.prog w3 = _ := hcv3
  clear hcv3
  go_wp2_with fail
  refine (good_own L sL _ _ W3 (hTb hB4) d1 d2 d3).mono ?_
  rintro e w4 ⟨rfl, hb⟩
  have hB5 := hB4.trans (hb.mono hB4.size)
  clear hb hcv3' d1 d2 d3 d5
  obtain ⟨cap4, W4, hcv4, d1, d2, d3, d4, d5⟩ := conv_bytes (Rn.lf (Rn.cat K)) (Rn.cat K).length w4 (Rn.lf_lt _) (by omega)
  have hB6 := hB5.trans (d4.mono hB5.size)
  clear d4
  have hcv4' : (convert 9 22 (.string (Rn.tx K))).run Tryd.prog w4 = _ := hcv4
  clear hcv4
  go_wp2_with fail
  refine (good_own K sK _ _ W4 (hTb hB6) d1 d2 d3).mono ?_
  rintro e w5 ⟨rfl, hb⟩
  have hB7 := hB6.trans (hb.mono hB6.size)
  clear hb hcv4' d1 d2 d3 d5
  go_wp2_with fail
  refine (mend_own L sL w5 (by omega)).mono ?_
  rintro e w6 ⟨rfl, hb⟩
  have hB8 := hB7.trans (hb.mono hB7.size)
  clear hb
  go_wp2_with fail
  refine (mend_own K sK w6 (by omega)).mono ?_
  rintro e w7 ⟨rfl, hb⟩
  have hB9 := hB8.trans (hb.mono hB8.size)
  clear hb
  go_wp2_with fail
  refine (mendParts_own L sL w7 (hTb hB9) (by omega)).mono ?_
  rintro e w8 ⟨rfl, hb⟩
  have hB10 := hB9.trans (hb.mono hB9.size)
  clear hb
  go_wp2_with fail
  refine (cR w8).mono ?_
  rintro e w9 ⟨cap9, rfl, e1, e2, e3, hb, e5⟩
  have hB11 := hB10.trans (hb.mono hB10.size)
  clear hb cR
  go_wp2_with fail
  refine (join_cat L sL _ _ w9 e3).mono ?_
  rintro e w10 ⟨rfl, rfl⟩
  go_wp2_with fail
  refine (runes_cat L sL _ (by omega)).mono ?_
  rintro e w11 ⟨cap11, rfl, -, -, -, hb, -, -⟩
  have hB12 := hB11.trans (hb.mono hB11.size)
  clear hb
  go_wp2_with fail
  refine (runes_cat K sK _ (by omega)).mono ?_
  rintro e w12 ⟨cap12, rfl, -, -, -, hb, -, -⟩
  have hB13 := hB12.trans (hb.mono hB12.size)
  clear hb
  obtain ⟨cap13, W13, hcv, d1, d2, d3, d4, d5⟩ := cB w12
  have hB14 := hB13.trans (d4.mono hB13.size)
  have hgt : ¬ (L.length : Int) < K.length := by omega
  clear d4 cB
  go_wp2_with fail
  refine (cG _ _ W13 (hTb hB14) d1 d2 d3).mono ?_
  rintro e w14 ⟨rfl, hb⟩
  have hB15 := hB14.trans (hb.mono hB14.size)
  clear hb hcv d1 d2 d3 d5 cG
  by_cases hg : Rn.good (Rn.lf l) l.length = l.length
  · have h1 : ((Rn.good (Rn.lf l) l.length : Int) == (l.length : Int)) = true := by simp; omega
    go_wp2_with fail
    refine (new_any w14).mono ?_
    rintro e w15 ⟨rfl, rfl⟩
    go_wp2_with fail
    go_loopw [9] (fun i wr => ∃ k p fuel : Nat, i = .int .i64 k ∧ k ≤ l.length ∧ p ≤ k ∧ l.length ≤ p + fuel ∧ Rn.goodFrom (Rn.lf l) l.length fuel p = l.length ∧ Rn.pend (Rn.lf l) l.length fuel p = Rn.pend (Rn.lf l) l.length l.length 0 ∧
      (Rn.whole (Rn.off (Rn.lf l) p) (l.length - p) = true → k - p < Rn.fs (Rn.off (Rn.lf l) p) (l.length - p)) ∧ DecAt wr w14.heap.size (Rn.cut (Rn.off (Rn.lf l) p) (k - p)) (k - p) false ∧ Below w.heap.size w wr) (fun i _ => l.length - (RowKit.intOf i).toNat)
    case atStart =>
      refine ⟨0, 0, l.length, rfl, Nat.zero_le _, Nat.le_refl _, by omega, hg, rfl, fun h => ?_, ?_, hB15.alloc hB15.size _⟩
      · simp only [Rn.whole, decide_eq_true_eq] at h
        exact h.1
      · rw [Nat.sub_zero, Rn.cut_zero]
        exact World.alloc_heap_new w14 _
    case round =>
      obtain ⟨k, p, fuel, rfl, hk, hp, hfu, hgf, hpe, hwf, hD, hBr⟩ := hrel
      by_cases hlt : k < l.length
      · have gb : (k : Int) < l.length := by omega
        obtain ⟨m, rfl⟩ : ∃ m, fuel = m + 1 := ⟨fuel - 1, by omega⟩
        obtain ⟨h4, hst⟩ := Rn.good_step (Rn.lf l) l.length m p (k - p) (by omega) hgf hwf
        have hv : Rn.lf l k = Rn.off (Rn.lf l) p (k - p) := by unfold Rn.off; rw [Nat.add_sub_cancel' hp]
        have hlf' : ∀ j, Rn.off (Rn.lf l) p j < 256 := fun j => hlf _
        have hTr := hTb hBr
        have hk1 : k + 1 - p = k - p + 1 := by omega
        have hDlt : w.heap.size ≤ w14.heap.size := hB15.size
        have hBs := hBr.size
        have HG := hide' hgf
        have HP := hide' hpe
        clear hgf hpe hb1 hb2
        rcases hst with ⟨hw, hws⟩ | ⟨hw, hws, hfs⟩
        · have cT := take_waits w14.heap.size (Rn.off (Rn.lf l) p) (k - p) wr h4 hlf' hTr hD hw
          clear hw hwf
          go_wp2_with fail
          refine cT.mono ?_
          rintro e w16 ⟨rfl, hD', hbut⟩
          go_wp2_with fail
          go_roundw
          case rel => exact ⟨k + 1, p, m + 1, by go_num, by omega, by omega, hfu, HG.out, HP.out, by rw [hk1]; exact hws, by rw [hk1]; exact hD', hBr.trans (hbut.below hDlt hBs)⟩
          case measure => simp [RowKit.intOf]; omega
        · have cT := take_whole w14.heap.size (Rn.off (Rn.lf l) p) (k - p) wr h4 hlf' hTr hD hw
          have hg' := HG.out
          have hp' := HP.out
          unfold Rn.goodFrom at hg'
          rw [Rn.pend_succ] at hp'
          rw [if_neg (by omega), hws, if_pos rfl, hfs, show p + (k - p + 1) = k + 1 by omega] at hg' hp'
          have HG' := hide' hg'
          have HP' := hide' hp'
          clear hw hwf hg' hp' hws hfs HG HP
          go_wp2_with fail
          refine cT.mono ?_
          rintro e w16 ⟨rfl, hD', hbut⟩
          go_wp2_with fail
          go_roundw
          case rel =>
            refine ⟨k + 1, k + 1, m, by go_num, by omega, Nat.le_refl _, by omega, HG'.out, HP'.out, fun h => ?_, by rw [Nat.sub_self, Rn.cut_zero]; exact hD', hBr.trans (hbut.below hDlt hBs)⟩
            simp only [Rn.whole, decide_eq_true_eq] at h
            omega
          case measure => simp [RowKit.intOf]; omega
      · have gb : ¬ (k : Int) < l.length := by omega
        obtain rfl : k = l.length := by omega
        have hq : l.length - p = Rn.pend (Rn.lf l) l.length l.length 0 := by
          rw [← hpe]
          by_cases hpn : l.length ≤ p
          · rw [Rn.pend_end _ _ _ _ hpn]
            omega
          · obtain ⟨m, rfl⟩ : ∃ m, fuel = m + 1 := ⟨fuel - 1, by omega⟩
            have a2 := Rn.fk_le (Rn.off (Rn.lf l) p) (l.length - p)
            unfold Rn.pend
            rw [if_neg hpn]
            cases hw : Rn.whole (Rn.off (Rn.lf l) p) (l.length - p)
            · simp
            · have := hwf hw
              simp only [Rn.whole, decide_eq_true_eq] at hw
              omega
        have cN := pending_any w14.heap.size _ _ _ wr hD
        rw [hq] at cN
        clear hgf hpe hwf hD hq
        by_cases hm : Rn.cat L = l
        · have hz := (HO.out.2 hm).2
          rw [decide_eq_true hm] at hb1 hb2
          rw [hz] at cN
          clear hz
          go_wp2_with fail
          refine cN.mono ?_
          rintro e w16 ⟨rfl, rfl⟩
          go_wp2
          go_ret
          exact ⟨rfl, hBr⟩
        · have hz : ¬ Rn.pend (Rn.lf l) l.length l.length 0 = 0 := fun h => hm (HO.out.1 ⟨hg, h⟩)
          rw [decide_eq_false hm] at hb1 hb2
          generalize Rn.pend (Rn.lf l) l.length l.length 0 = z at *
          have hz' : ((z : Int) == 0) = false := by simp; omega
          go_wp2_with fail
          refine cN.mono ?_
          rintro e w16 ⟨rfl, rfl⟩
          go_wp2
          go_ret
          exact ⟨rfl, hBr⟩
  · have h1 : ((Rn.good (Rn.lf l) l.length : Int) == (l.length : Int)) = false := by simp; omega
    have hd : decide (Rn.cat L = l) = false := by
      rw [decide_eq_false_iff_not, ← HO.out]
      exact fun h => hg h.1
    rw [hd] at hb1 hb2
    go_wp2
    go_ret
    exact ⟨rfl, hB15⟩
end Go.Proofs.YtacmenmneilamaaDoor
