/-
  THE WALK over gimletlaw05.RefsCuts.
-/
import Derived.Test.YtbbbokkfhfmoeaaDoorRfRead
import Derived.Test.YtbbbokkfhfmoeaaDoorChArg
namespace Go.Proofs.YtbbbokkfhfmoeaaDoor
open Go.RowKit Go.Lib

theorem rfRead_arg {f : Nat → Nat} {n : Nat} {v : Value} {w : World} (hS : Spans w) (hf : ∀ j, f j < 256) (hn : n ≤ 9223372036854775806) (hA : ArgS w f n v) :
    Calls Tryd.prog 9 #[v] w fun e w' => e = .returned (Rf.rdV (Rf.rd f n)) ∧ Below w.heap.size w w' := by
  obtain ⟨pa, cap, rfl, _, hp⟩ := hA.span
  refine rfRead_any f pa n cap w hS hf hn (fun h0 => ?_)
  rcases hp with h | ⟨b, o, e, hby⟩
  · omega
  · exact ⟨b, o, e, hby, block_lt_of_cell (hby 0 h0)⟩
theorem Rf.rd_w {f : Nat → Nat} {n : Nat} (h : (Rf.rd f n).2.2 = 1) : Rf.rd f n = (0, 0, 1) := by
  rcases Rf.rd_fine f n with r | r | r
  · exact r
  · omega
  · omega
/-- two behind one another -/
def Rf.two (f g : Nat → Nat) (n : Nat) : Nat → Nat := fun j => if j < n then f j else g (j - n)
theorem Rf.two_lt {f g : Nat → Nat} (hf : ∀ j, f j < 256) (hg : ∀ j, g j < 256) (n j : Nat) : Rf.two f g n j < 256 := by
  unfold Rf.two
  split
  · exact hf _
  · exact hg _
theorem Rf.two_bs (f g : Nat → Nat) (n m : Nat) : bs f n ++ bs g m = bs (Rf.two f g n) (n + m) := by
  apply List.ext_getElem?
  intro j
  by_cases h : j < n
  · rw [List.getElem?_append_left (by rw [bs_length]; exact h)]
    simp [bs, h, show j < n + m by omega, Rf.two]
  · rw [List.getElem?_append_right (by rw [bs_length]; omega), bs_length]
    by_cases h2 : j < n + m
    · simp [bs, h2, show j - n < m by omega, Rf.two, h]
    · simp [bs, h2, show ¬ j - n < m by omega]

set_option maxRecDepth 100000 in
set_option maxHeartbeats 1000000 in
theorem lawCuts5_any (vb vm : Value) (f g : Nat → Nat) (n m : Nat) (w : World) (hS : Spans w) (hf : ∀ j, f j < 256) (hg : ∀ j, g j < 256) (hn : n ≤ 1048576) (hm : m ≤ 1048576) (hA : ArgS w f n vb) (hM : ArgS w g m vm) :
    Calls Tryd.prog 8 #[vb, vm] w fun e w' => e = .returned (.bool true) ∧ Below w.heap.size w w' := by
  have cF := rfFixed_any w hS
  have HA := hide' (And.intro hA (And.intro hM hS))
  obtain ⟨pb, cb, rfl, hcb, -⟩ := hA.span
  clear hA hM hS
  go_enter Tryd.func8, Tryd.ntmps8
  go_wp2_with fail
  refine cF.mono ?_
  rintro e w1 ⟨rfl, hb1⟩
  clear cF
  have hA1 := HA.out.1.below (hb1.alloc hb1.size (.cells #[] 5)) (Nat.le_refl _)
  go_wp2_with (at_builtin; refine append_argS rfl _ _ rfl w1.heap.size _ _ 0 n [] f rfl (owns_none w1) rfl hA1 (by omega) (by simp) ?_)
  intro v1 w2 hown hgrow
  have hB2 : Below w.heap.size w w2 := hb1.trans ((((Below.refl w1.heap.size w1).alloc (Nat.le_refl _) _).grown hgrow (by simp) (fun k hk => by simp [Value.ownBlock] at hk; omega)).mono hb1.size)
  obtain ⟨-, hAm⟩ := slAt_own (f := f) (by simpa using hown)
  have cR := rfRead_arg (HA.out.2.2.below hB2 (Nat.le_refl _)) hf (by omega) hAm
  unfold Rf.rdV at cR
  have HB2 := hide' hB2
  clear hgrow hown hA1 hAm hb1 hB2
  go_wp2_with fail
  refine cR.mono ?_
  rintro e w3 ⟨rfl, hb3⟩
  have hB3 := HB2.out.trans (hb3.mono HB2.out.size)
  have hA3 := HA.out.1.below (hB3.alloc hB3.size (.cells #[] 5)) (Nat.le_refl _)
  have HB3 := hide' hB3
  clear cR hb3 HB2 hB3
  go_wp2_with (at_builtin; refine append_argS rfl _ _ rfl w3.heap.size _ _ 0 n [] f rfl (owns_none w3) rfl hA3 (by omega) (by simp) ?_)
  intro v4 w4 hown hgrow
  have hB34 : Below w3.heap.size w3 w4 := ((Below.refl w3.heap.size w3).alloc (Nat.le_refl _) _).grown hgrow (by simp) (fun k hk => by simp [Value.ownBlock] at hk; omega)
  have hB4 : Below w.heap.size w w4 := HB3.out.trans (hB34.mono HB3.out.size)
  have hM4 := HA.out.2.1.below hB4 (Nat.le_refl _)
  have HB34 := hide' hB34
  have hs4 := hB34.size
  have hlt4 := hown.lt
  have hown4 : w4.ownsRow w3.heap.size 5 1 v4 n (bs f n) := by simpa using hown
  clear hgrow hown hA3 hB34 hB4
  go_wp2_with (at_builtin; refine append_argS rfl _ _ rfl w3.heap.size _ _ n m (bs f n) g rfl hown4 rfl hM4 (by omega) hs4 ?_)
  intro v5 w5 hown hgrow
  rw [Rf.two_bs] at hown
  have hB35 : Below w3.heap.size w3 w5 := HB34.out.grown hgrow hs4 (fun k hk => (hlt4 k hk).1)
  have hB5 : Below w.heap.size w w5 := HB3.out.trans (hB35.mono HB3.out.size)
  obtain ⟨-, hAm⟩ := slAt_own hown
  have hFl : ∀ j, Rf.two f g n j < 256 := Rf.two_lt hf hg n
  have hFf : ∀ j, j < n → f j = Rf.two f g n j := fun j hj => by unfold Rf.two; rw [if_pos hj]
  generalize Rf.two f g n = F at *
  have cR := rfRead_arg (HA.out.2.2.below hB5 (Nat.le_refl _)) hFl (by omega) hAm
  have hfine := Rf.rd_fine f n
  have hstay := Rf.rd_stay (n' := n + m) hFf (by omega)
  have hcong := Rf.rd_congr hFf
  have HOWN := hide' hown
  have HB5 := hide' hB5
  clear hgrow hown hM4 hown4 hlt4 hs4 HB34 hB35 hB5 hAm
  obtain ⟨X, hX⟩ : ∃ X, Rf.rd f n = X := ⟨_, rfl⟩
  obtain ⟨Y, hY⟩ : ∃ Y, Rf.rd F (n + m) = Y := ⟨_, rfl⟩
  rw [hX] at hfine hstay hcong ⊢
  rw [hY] at hstay cR
  obtain ⟨x1, x2, x3⟩ := X
  obtain ⟨y1, y2, y3⟩ := Y
  unfold Rf.rdV at cR
  dsimp only at cR hstay ⊢
  have HY := hide' hY
  have HC := hide' hcong
  clear hX hY hcong
  -- every shorter beginning waits
  have look : ∀ (u : Nat) (W : World), Below w5.heap.size w5 W → u ≤ n → 0 < n → ∃ q cap, v5 = .slice (some ⟨q, 0, none⟩) (n + m) cap ∧ n + m ≤ cap ∧ cap ≤ maxLen ∧ Calls Tryd.prog 9 #[.slice (some ⟨q, 0, none⟩) u u] W fun e w' => e = .returned (Rf.rdV (Rf.rd F u)) ∧ Below W.heap.size W w' := by
    intro u W hb hu h0
    rcases HOWN.out.2 with ⟨_, h9⟩ | ⟨q, cap, cur, e, _, _, hc1, hc2, _⟩
    · omega
    · refine ⟨q, cap, e, hc1, hc2, ?_⟩
      subst e
      have hby : Bytes W q 0 u F := fun j hj => by
        have h3 := (World.ownsRow.kept (row := none) HOWN.out ⟨hb.os, hb.tape, hb.output, hb.size, fun k hk _ => hb.block k hk⟩ (.inr (by simp [Value.ownBlock]))).cells (g := q) rfl j (.int .u8 (F j : Nat)) (by simp [bs, show j < n + m by omega])
        rw [Addr.add_lit] at h3
        exact h3
      refine rfRead_any F (some ⟨q, 0, none⟩) u u W (HA.out.2.2.below (HB5.out.trans (hb.mono HB5.out.size)) (Nat.le_refl _)) hFl (by omega) (fun h => ⟨q, 0, rfl, hby, block_lt_of_cell (hby 0 h)⟩)
  rcases hfine with h | ⟨h3, h1, h2⟩ | ⟨h3, h2, -⟩
  · cases h
    have hw : ∀ i, i < n → Rf.rd F i = (0, 0, 1) := fun i hi => Rf.rd_w (Rf.rd_waits (n := n) (by rw [← HC.out]) (by omega))
    have HW := hide' hw
    clear hw hstay
    go_wp2_with fail
    refine cR.mono ?_
    rintro e w6 ⟨rfl, hb6⟩
    clear cR
    go_wp2
    go_loopw [13] (fun i wr => ∃ i' : Nat, i = .int .i64 i' ∧ i' ≤ n ∧ i' ≤ 40 ∧ Below w5.heap.size w5 wr) (fun i _ => 40 - (RowKit.intOf i).toNat)
    case atStart => exact ⟨0, rfl, Nat.zero_le _, Nat.zero_le _, hb6⟩
    case round =>
      obtain ⟨i, rfl, hin, hi40, hB⟩ := hrel
      by_cases hlt : i < n ∧ i < 40
      · obtain ⟨q, cap, rfl, hc1, hc2, cL⟩ := look i wr hB (by omega) (by omega)
        rw [HW.out i hlt.1] at cL
        unfold Rf.rdV at cL
        unfold maxLen at hc2
        have e1 : (i : Int) < (n : Int) := by omega
        have e2 : (i : Int) < 40 := by omega
        have e3 : (0 : Int) ≤ (i : Int) := by omega
        have e4 : (i : Int) ≤ (cap : Int) := by omega
        clear look hlt
        go_wp2_with fail
        refine cL.mono ?_
        rintro e w7 ⟨rfl, hb7⟩
        have hB7 := hB.trans (hb7.mono hB.size)
        clear cL hb7 hB
        go_wp2
        go_roundw
        case rel => exact ⟨i + 1, by go_num, by omega, by omega, hB7⟩
        case measure => simp [RowKit.intOf]; omega
      · have fin : Below w.heap.size w wr := HB5.out.trans (hB.mono HB5.out.size)
        by_cases h4 : i < n
        · have e1 : (i : Int) < (n : Int) := by omega
          have e2 : ¬ (i : Int) < 40 := by omega
          clear look hlt
          go_wp2
          go_ret
          exact ⟨rfl, fin⟩
        · have e1 : ¬ (i : Int) < (n : Int) := by omega
          clear look hlt
          go_wp2
          go_ret
          exact ⟨rfl, fin⟩
  · dsimp only at h3 h1 h2
    have hyx := hstay (by omega)
    cases hyx
    have t1 : ((x3 : Int) != 1) = true := by simp; omega
    have t2 : ((x3 : Int) == 1) = false := by simp; omega
    have t3 : ((x3 : Int) == 2) = true := by simp; omega
    have t4 : ((x1 : Int) == 0) = true := by simp; omega
    have hw : ∀ i, i < x2 → Rf.rd F i = (0, 0, 1) := fun i hi => Rf.rd_w (Rf.rd_ahead (n := n + m) (by rw [HY.out]; exact hi))
    have hwx : Rf.rd F x2 = (0, 0, 1) := Rf.rd_w (by have h9 := Rf.rd_badat (f := F) (n := n + m) (by rw [HY.out]; exact h3); rw [HY.out] at h9; exact h9)
    have HWX := hide' hwx
    have u1 : decide (n < x2) = false := by simp; omega
    have u2 : decide ((x2 : Int) < 0) = false := by simp
    clear hwx h3 h1
    have HW := hide' hw
    clear hw hstay
    go_wp2_with fail
    refine cR.mono ?_
    rintro e w6 ⟨rfl, hb6⟩
    clear cR
    go_wp2
    go_loopw [13] (fun i wr => ∃ i' : Nat, i = .int .i64 i' ∧ i' ≤ x2 ∧ i' ≤ 40 ∧ Below w5.heap.size w5 wr) (fun i _ => 40 - (RowKit.intOf i).toNat)
    case atStart => exact ⟨0, rfl, Nat.zero_le _, Nat.zero_le _, hb6⟩
    case round =>
      obtain ⟨i, rfl, hin, hi40, hB⟩ := hrel
      by_cases hlt : i < x2 ∧ i < 40
      · obtain ⟨q, cap, rfl, hc1, hc2, cL⟩ := look i wr hB (by omega) (by omega)
        rw [HW.out i hlt.1] at cL
        unfold Rf.rdV at cL
        unfold maxLen at hc2
        have e1 : (i : Int) < (x2 : Int) := by omega
        have e2 : (i : Int) < 40 := by omega
        have e3 : (0 : Int) ≤ (i : Int) := by omega
        have e4 : (i : Int) ≤ (cap : Int) := by omega
        clear look hlt
        go_wp2_with fail
        refine cL.mono ?_
        rintro e w7 ⟨rfl, hb7⟩
        have hB7 := hB.trans (hb7.mono hB.size)
        clear cL hb7 hB
        go_wp2
        go_roundw
        case rel => exact ⟨i + 1, by go_num, by omega, by omega, hB7⟩
        case measure => simp [RowKit.intOf]; omega
      · have fin : Below w.heap.size w wr := HB5.out.trans (hB.mono HB5.out.size)
        by_cases h4 : i < x2
        · have e1 : (i : Int) < (x2 : Int) := by omega
          have e2 : ¬ (i : Int) < 40 := by omega
          obtain ⟨q, cap, rfl, hc1, hc2, cL⟩ := look x2 wr hB (by omega) (by omega)
          rw [HWX.out] at cL
          unfold Rf.rdV at cL
          unfold maxLen at hc2
          have e3 : (0 : Int) ≤ (x2 : Int) := by omega
          have e4 : (x2 : Int) ≤ (cap : Int) := by omega
          clear look hlt
          go_wp2_with fail
          refine cL.mono ?_
          rintro e w7 ⟨rfl, hb7⟩
          clear cL
          go_wp2
          go_ret
          exact ⟨rfl, fin.trans (hb7.mono fin.size)⟩
        · have e1 : ¬ (i : Int) < (x2 : Int) := by omega
          obtain ⟨q, cap, rfl, hc1, hc2, cL⟩ := look x2 wr hB (by omega) (by omega)
          rw [HWX.out] at cL
          unfold Rf.rdV at cL
          unfold maxLen at hc2
          have e3 : (0 : Int) ≤ (x2 : Int) := by omega
          have e4 : (x2 : Int) ≤ (cap : Int) := by omega
          clear look hlt
          go_wp2_with fail
          refine cL.mono ?_
          rintro e w7 ⟨rfl, hb7⟩
          clear cL
          go_wp2
          go_ret
          exact ⟨rfl, fin.trans (hb7.mono fin.size)⟩
  · dsimp only at h3 h2
    have hyx := hstay (by omega)
    cases hyx
    have t1 : ((x3 : Int) != 1) = true := by simp; omega
    have t2 : ((x3 : Int) == 1) = false := by simp; omega
    have t3 : ((x3 : Int) == 2) = false := by simp; omega
    have t4 : ((x3 : Int) == 0) = true := by simp; omega
    have hw : ∀ i, i < x2 → Rf.rd F i = (0, 0, 1) := fun i hi => Rf.rd_w (Rf.rd_ahead (n := n + m) (by rw [HY.out]; exact hi))
    have u1 : decide (n < x2) = false := by simp; omega
    have u2 : decide ((x2 : Int) < 0) = false := by simp
    clear h3
    have HW := hide' hw
    clear hw hstay
    go_wp2_with fail
    refine cR.mono ?_
    rintro e w6 ⟨rfl, hb6⟩
    clear cR
    go_wp2
    go_loopw [13] (fun i wr => ∃ i' : Nat, i = .int .i64 i' ∧ i' ≤ x2 ∧ i' ≤ 40 ∧ Below w5.heap.size w5 wr) (fun i _ => 40 - (RowKit.intOf i).toNat)
    case atStart => exact ⟨0, rfl, Nat.zero_le _, Nat.zero_le _, hb6⟩
    case round =>
      obtain ⟨i, rfl, hin, hi40, hB⟩ := hrel
      by_cases hlt : i < x2 ∧ i < 40
      · obtain ⟨q, cap, rfl, hc1, hc2, cL⟩ := look i wr hB (by omega) (by omega)
        rw [HW.out i hlt.1] at cL
        unfold Rf.rdV at cL
        unfold maxLen at hc2
        have e1 : (i : Int) < (x2 : Int) := by omega
        have e2 : (i : Int) < 40 := by omega
        have e3 : (0 : Int) ≤ (i : Int) := by omega
        have e4 : (i : Int) ≤ (cap : Int) := by omega
        clear look hlt
        go_wp2_with fail
        refine cL.mono ?_
        rintro e w7 ⟨rfl, hb7⟩
        have hB7 := hB.trans (hb7.mono hB.size)
        clear cL hb7 hB
        go_wp2
        go_roundw
        case rel => exact ⟨i + 1, by go_num, by omega, by omega, hB7⟩
        case measure => simp [RowKit.intOf]; omega
      · have fin : Below w.heap.size w wr := HB5.out.trans (hB.mono HB5.out.size)
        by_cases h4 : i < x2
        · have e1 : (i : Int) < (x2 : Int) := by omega
          have e2 : ¬ (i : Int) < 40 := by omega
          clear look hlt
          go_wp2
          go_ret
          exact ⟨rfl, fin⟩
        · have e1 : ¬ (i : Int) < (x2 : Int) := by omega
          clear look hlt
          go_wp2
          go_ret
          exact ⟨rfl, fin⟩
end Go.Proofs.YtbbbokkfhfmoeaaDoor
