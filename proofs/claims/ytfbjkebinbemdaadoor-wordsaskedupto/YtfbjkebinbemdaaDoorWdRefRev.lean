/-
  WALKS over the document's Sub and Reverse.
-/
import Derived.Test.YtfbjkebinbemdaaDoorWdRefAsk
namespace Go.Proofs.YtfbjkebinbemdaaDoor
open Go.RowKit

set_option maxRecDepth 100000 in
set_option maxHeartbeats 2000000 in
theorem refReverse_any (f : Nat → Nat) (n : Nat) (w : World) (hf : ∀ j, f j < 256) (hn : n ≤ 1099511627776) :
    Calls Tryd.prog 17 #[.string (Rn.arr f n)] w fun e w' => e = .returned (.string (Rn.tx (Wd.R f n 0).reverse)) ∧ Below w.heap.size w w' := by
  have cR := refRunes_any f n w hf hn
  have hl := Wd.R_length f n 0 hf
  have hsc := Wd.R_scal f n 0 hf
  generalize Wd.R f n 0 = P at *
  obtain ⟨i0, hi, hz0, hz1, hz2⟩ := info3 infoRune
  obtain ⟨m, hm⟩ : ∃ m, P.length = m := ⟨_, rfl⟩
  have hmk := fun w1 => run_make (P := Tryd.prog) w1 38 21 i0 (.int .i32 0) Tryd.underlying38 hi hz0 .i64 .i64 m m (by omega) (by omega) (by rw [hz2]; omega) (by omega)
  rw [hz1, show (m : Int).toNat = m by omega, Nat.mul_one] at hmk
  obtain ⟨cur, hcur⟩ : ∃ cur, madeCells (Value.int .i32 0).cells m = cur := ⟨_, rfl⟩
  have hsz : cur.size = m := by rw [← hcur, size_madeCells]
  rw [hcur] at hmk
  clear hcur hi hz0 hz1 hz2
  have HM := hide' hm
  unfold RS at cR
  rw [hm] at hl cR
  clear hm
  go_enter Tryd.func17, Tryd.ntmps17
  go_wp2_with fail
  refine cR.mono ?_
  rintro e w1 ⟨v, rfl, ⟨pa, cap, rfl, hc1, hc2, hrow⟩, hb1⟩
  have hc3 : cap ≤ 9223372036854775807 := by unfold maxLen at hc2; omega
  have hmk1 := hmk w1
  clear cR hmk
  go_wp2_with fail
  have hn1 : (w1.alloc (.cells cur 21)).heap[w1.heap.size]? = some (.cells cur 21 (0, 0)) := World.alloc_heap_new w1 _
  have hb2 : Below w1.heap.size w1 (w1.alloc (.cells cur 21)) := (Below.refl _ _).alloc (Nat.le_refl _) _
  go_loopw [5] (fun a wr => ∃ (i : Nat) (cur : Array Value), a = .int .i64 i ∧ i ≤ m ∧ wr.heap[w1.heap.size]? = some (.cells cur 21 (0, 0)) ∧ cur.size = m ∧ Hid (∀ j, m - i ≤ j → j < m → cur[j]? = some (.int .i32 (Wd.lg P (m - 1 - j)))) ∧ Below w1.heap.size w1 wr) (fun a _ => m - (intOf a).toNat)
  case atStart => exact ⟨0, cur, rfl, Nat.zero_le _, hn1, hsz, fun j h1 h2 => by omega, hb2⟩
  case round =>
    clear hmk1 hn1 hb2 hsz cur
    obtain ⟨i, cur, rfl, him, hA, hAs, hget, hB⟩ := hrel
    by_cases hlt : i < m
    · have hlti : (i : Int) < (m : Int) := by omega
      obtain ⟨g, o, rfl, hr⟩ : ∃ g o, pa = some ⟨g, o, none⟩ ∧ Row .i32 w1 g o m (Wd.lg P) := by
        rcases hrow with h | h
        · omega
        · exact h
      have ci := (hr.below hB (Nat.le_refl _)) i hlt
      have hsub : (m : Int) - 1 - (i : Int) = ((m - 1 - i : Nat) : Int) := by omega
      have hsl : m - 1 - i < m := by omega
      have cB : wr.cell? ⟨w1.heap.size, m - 1 - i, none⟩ = some cur[m - 1 - i] := by rw [Lib.cell_of_heap hA, Array.getElem?_eq_getElem]
      have fB := Lib.frozen_of_heap hA (m - 1 - i)
      generalize cur[m - 1 - i] = x at cB
      clear hr hrow
      go_wp2_with fail
      go_roundw
      case rel =>
        refine ⟨i + 1, cur.setIfInBounds (m - 1 - i) (.int .i32 (Wd.lg P i)), by go_num, by omega, Go.Joins.block_setCell hA _, by simp [hAs], fun j h1 h2 => ?_, hB.setCell (p := ⟨w1.heap.size, m - 1 - i, none⟩) (Nat.le_refl _) _⟩
        by_cases e : j = m - 1 - i
        · subst e
          rw [Array.getElem?_setIfInBounds_self_of_lt (by omega), show m - 1 - (m - 1 - i) = i by omega]
        · rw [Array.getElem?_setIfInBounds_ne (fun h => e h.symm)]
          exact hget.out j (by omega) h2
      case measure => simp [intOf]; omega
    · have hlti : ¬ (i : Int) < (m : Int) := by omega
      have hown : wr.ownsRow w1.heap.size 21 1 (.slice (some ⟨w1.heap.size, 0, none⟩) m m) P.reverse.length (rc P.reverse) := by
        refine ⟨by rw [rc_length]; omega, .inr ⟨w1.heap.size, m, cur, by rw [List.length_reverse, HM.out], Nat.le_refl _, hA, by rw [List.length_reverse, HM.out]; exact Nat.le_refl _, by unfold maxLen; omega, by omega, ?_⟩⟩
        apply List.ext_getElem?
        intro j
        rw [List.getElem?_take, Nat.mul_one, List.length_reverse, HM.out]
        by_cases hj : j < m
        · rw [if_pos hj, Array.getElem?_toList, hget.out j (by omega) hj]
          have hj2 : j < P.length := by rw [HM.out]; exact hj
          rw [show m - 1 - j = P.length - 1 - j by rw [HM.out], lg_reverse P j hj2]
          simp [rc, hj2]
        · rw [if_neg hj]
          simp [rc, HM.out, hj]
      have ct := text_own (fun r hr => hsc r (List.mem_reverse.1 hr)) wr hown
      clear hrow hget hown
      go_wp2_with fail
      refine ct.mono ?_
      rintro e w3 ⟨rfl, rfl⟩
      go_wp2_with fail
      go_ret
      exact ⟨rfl, hb1.trans (hB.mono hb1.size)⟩

set_option maxRecDepth 100000 in
set_option maxHeartbeats 4000000 in
theorem refSub_any (f : Nat → Nat) (n : Nat) (from' count : Int) (w : World) (hf : ∀ j, f j < 256) (hn : n ≤ 1099511627776) (hf1 : -9223372036854775808 ≤ from') (hf2 : from' ≤ 9223372036854775807) (hc1 : -9223372036854775808 ≤ count) (hc2 : count ≤ 9223372036854775807) :
    Calls Tryd.prog 13 #[.string (Rn.arr f n), .int .i64 from', .int .i64 count] w fun e w' => e = .returned (.string (Rn.tx (Wd.sub (Wd.R f n 0) from' count))) ∧ Below w.heap.size w w' := by
  have cR := refRunes_any f n w hf hn
  have hl := Wd.R_length f n 0 hf
  have hsc := Wd.R_scal f n 0 hf
  generalize Wd.R f n 0 = P at *
  obtain ⟨i0, hi, hz0, hz1, hz2⟩ := info3 infoRune
  obtain ⟨a, ha⟩ : ∃ a, a = from'.toNat := ⟨_, rfl⟩
  obtain ⟨X, hX⟩ : ∃ X, X = (from' + count).toNat := ⟨_, rfl⟩
  have HS : Hid (Wd.sub P from' count = (P.take X).drop a) := by rw [ha, hX]; rfl
  have HA := hide' ha
  have HX := hide' hX
  clear ha hX
  have hss : ∀ r ∈ (P.take X).drop a, Rn.scal r := fun r hr => hsc r (List.mem_of_mem_take (List.mem_of_mem_drop hr))
  by_cases h0 : 0 < count
  · go_enter Tryd.func13, Tryd.ntmps13
    go_wp2_with fail
    refine cR.mono ?_
    rintro e w1 ⟨v, rfl, ⟨pa, cap, rfl, hcc1, hcc2, hrow⟩, hb1⟩
    have hc3 : cap ≤ 9223372036854775807 := by unfold maxLen at hcc2; omega
    clear cR
    go_wp2_with fail
    go_loopw [8, 9] (fun v b wr => ∃ (k : Nat), b = .int .i64 k ∧ k ≤ P.length ∧ wr.ownsRow w1.heap.size 21 1 v (Wd.sb P a X k).length (rc (Wd.sb P a X k)) ∧ Below w1.heap.size w1 wr) (fun _ b _ => P.length - (intOf b).toNat)
    case atStart => exact ⟨0, rfl, Nat.zero_le _, by rw [Wd.sb_zero]; exact World.ownsRow_nil _ _ _ _, Below.refl _ _⟩
    case round =>
      obtain ⟨k, rfl, hkm, hown, hB⟩ := hrel
      have hbs := hB.size
      have hsl := Wd.sb_length P a X k
      by_cases hlt : k < P.length
      · have hlti : (k : Int) < (P.length : Int) := by omega
        obtain ⟨g, o, rfl, hr⟩ : ∃ g o, pa = some ⟨g, o, none⟩ ∧ Row .i32 w1 g o P.length (Wd.lg P) := by
          rcases hrow with h | h
          · omega
          · exact h
        have ci := (hr.below hB (Nat.le_refl _)) k hlt
        clear hr hrow
        by_cases hneg : from' < 0
        · have q1 : from' ≤ (k : Int) := by omega
          by_cases q2 : (k : Int) < from' + count
          · have q2' : (k : Int) < from' + count := q2
            have HP := hide' (Wd.sb_put (L := P) (a := a) (X := X) (k := k) (r := Wd.lg P k) (M := P.drop (k + 1)) (by have h1 := HA.out; have h2 := HX.out; omega) (by have h1 := HA.out; have h2 := HX.out; omega) (by simp [Wd.lg, hlt]))
            generalize Wd.lg P k = r at *
            go_wp2_with (at_builtin; refine wpList_append_own _ rfl _ _ 38 rfl w1.heap.size 21 i0 (.int .i32 0) 1 4 Tryd.underlying38 hi hz0 hz1 hz2 rfl (by decide) _ (Wd.sb P a X k).length (rc (Wd.sb P a X k)) rfl (hown.alloc _) ⟨wr.heap.size, 0, none⟩ 1 1 [.int .i32 (r : Int)] rfl rfl ?d1 ?d2 ?d3 ?d4 ?d5 ?_)
            case d1 => exact rc_news _ r
            case d2 => exact rc_one r
            case d3 => unfold maxLen; omega
            case d4 => omega
            case d5 => simp; omega
            intro v' w3 hown' hgrow _
            have hB3 : Below w1.heap.size w1 w3 := (hB.alloc hbs _).grown hgrow (by simp; omega) (fun j hj => (hown.lt j hj).1)
            have hown3 : w3.ownsRow w1.heap.size 21 1 v' (Wd.sb P a X (k + 1)).length (rc (Wd.sb P a X (k + 1))) := by rw [HP.out, rc_snoc, List.length_append]; exact hown'
            clear hown hown' hgrow hB
            go_wp2_with fail
            go_roundw
            case rel => exact ⟨k + 1, by go_num, by omega, hown3, hB3⟩
            case measure => simp [intOf]; omega
          · have q2' : ¬ (k : Int) < from' + count := q2
            have q3 : ¬ (0 : Int) ≤ from' := by omega
            have HP := hide' ((Wd.sb_past P a X (k + 1) (by have h1 := HA.out; have h2 := HX.out; omega)).trans (Wd.sb_past P a X k (by have h1 := HA.out; have h2 := HX.out; omega)).symm)
            go_wp2_with fail
            go_roundw
            case rel => exact ⟨k + 1, by go_num, by omega, by rw [HP.out]; exact hown, hB⟩
            case measure => simp [intOf]; omega
        · have hneg' : (0 : Int) ≤ from' := by omega
          by_cases q1 : from' ≤ (k : Int)
          · by_cases q2 : (k : Int) - from' < count
            · have q2' : (k : Int) - from' < count := q2
              have HP := hide' (Wd.sb_put (L := P) (a := a) (X := X) (k := k) (r := Wd.lg P k) (M := P.drop (k + 1)) (by have h1 := HA.out; have h2 := HX.out; omega) (by have h1 := HA.out; have h2 := HX.out; omega) (by simp [Wd.lg, hlt]))
              generalize Wd.lg P k = r at *
              go_wp2_with (at_builtin; refine wpList_append_own _ rfl _ _ 38 rfl w1.heap.size 21 i0 (.int .i32 0) 1 4 Tryd.underlying38 hi hz0 hz1 hz2 rfl (by decide) _ (Wd.sb P a X k).length (rc (Wd.sb P a X k)) rfl (hown.alloc _) ⟨wr.heap.size, 0, none⟩ 1 1 [.int .i32 (r : Int)] rfl rfl ?e1 ?e2 ?e3 ?e4 ?e5 ?_)
              case e2 => rfl
              case e3 => unfold maxLen; omega
              case e4 => omega
              case e5 => omega
              intro v' w3 hown' hgrow _
              have hB3 : Below w1.heap.size w1 w3 := (hB.alloc hbs _).grown hgrow (by simp; omega) (fun j hj => (hown.lt j hj).1)
              have hown3 : w3.ownsRow w1.heap.size 21 1 v' (Wd.sb P a X (k + 1)).length (rc (Wd.sb P a X (k + 1))) := by rw [HP.out, rc_snoc, List.length_append]; exact hown'
              clear hown hown' hgrow hB
              go_wp2_with fail
              go_roundw
              case rel => exact ⟨k + 1, by go_num, by omega, hown3, hB3⟩
              case measure => simp [intOf]; omega
            · have q2' : ¬ (k : Int) - from' < count := q2
              have HP := hide' ((Wd.sb_past P a X (k + 1) (by have h1 := HA.out; have h2 := HX.out; omega)).trans (Wd.sb_past P a X k (by have h1 := HA.out; have h2 := HX.out; omega)).symm)
              go_wp2_with fail
              go_roundw
              case rel => exact ⟨k + 1, by go_num, by omega, by rw [HP.out]; exact hown, hB⟩
              case measure => simp [intOf]; omega
          · have q1' : ¬ from' ≤ (k : Int) := q1
            have HP := hide' (Wd.sb_skip P a X k (by have h1 := HA.out; have h2 := HX.out; omega))
            go_wp2_with fail
            go_roundw
            case rel => exact ⟨k + 1, by go_num, by omega, by rw [HP.out]; exact hown, hB⟩
            case measure => simp [intOf]; omega
      · have hlti : ¬ (k : Int) < (P.length : Int) := by omega
        rw [Wd.sb_end P a X k (by omega)] at hown
        have ct := text_own hss wr hown
        clear hrow hown
        go_wp2_with fail
        refine ct.mono ?_
        rintro e w3 ⟨rfl, rfl⟩
        go_wp2_with fail
        go_ret
        exact ⟨by rw [HS.out]; rfl, hb1.trans (hB.mono hb1.size)⟩
  · have h0' : ¬ (0 : Int) < count := h0
    have hnil : Wd.sub P from' count = [] := Wd.sub_neg P from' count (by omega)
    rw [hnil]
    go_enter Tryd.func13, Tryd.ntmps13
    go_wp2_with fail
    refine cR.mono ?_
    rintro e w1 ⟨v, rfl, ⟨pa, cap, rfl, hcc1, hcc2, -⟩, hb1⟩
    have ct := text_own (L := []) (fun r hr => by cases hr) w1 (World.ownsRow_nil w1 0 21 1)
    clear cR
    go_wp2_with fail
    go_loopw [8, 9] (fun v b wr => v = .slice none 0 0 ∧ b = .int .i64 0 ∧ wr = w1) (fun _ _ _ => 0)
    case atStart => exact ⟨rfl, rfl, rfl⟩
    case round =>
      obtain ⟨rfl, rfl, rfl⟩ := hrel
      by_cases hl0 : 0 < P.length
      · have hl0i : (0 : Int) < (P.length : Int) := by omega
        go_wp2_with fail
        refine ct.mono ?_
        rintro e w3 ⟨rfl, rfl⟩
        go_wp2_with fail
        go_ret
        exact ⟨rfl, hb1⟩
      · have hl0i : ¬ (0 : Int) < (P.length : Int) := by omega
        go_wp2_with fail
        refine ct.mono ?_
        rintro e w3 ⟨rfl, rfl⟩
        go_wp2_with fail
        go_ret
        exact ⟨rfl, hb1⟩
end Go.Proofs.YtfbjkebinbemdaaDoor
