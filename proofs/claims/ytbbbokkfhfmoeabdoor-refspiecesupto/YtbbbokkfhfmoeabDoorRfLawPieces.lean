/-
  THE WALK over gimletlaw05.RefsPieces.
-/
import Derived.Test.YtbbbokkfhfmoeabDoorRfForm
import Derived.Test.YtbbbokkfhfmoeabDoorRfLawNum
namespace Go.Proofs.YtbbbokkfhfmoeabDoor
open Go.RowKit Go.Lib

set_option maxRecDepth 100000 in
set_option maxHeartbeats 1000000 in
theorem lawPieces_any (l m : List UInt8) (w : World) (hS : Spans w) (hl : l.length ≤ 1048576) (hm : m.length ≤ 1048576) :
    Calls Tryd.prog 4 #[.string ⟨l.toArray⟩, .string ⟨m.toArray⟩] w fun e w' => e = .returned (.bool true) ∧ Below w.heap.size w w' := by
  have c0 := rfFixed_any w hS
  have cA := fun W => rfText_any (l ++ m) W (by rw [List.length_append]; omega)
  have cB := fun W => rfText_any l W (by omega)
  have cC := fun W => rfText_any m W (by omega)
  have cD := fun W => rfValue_any (l ++ m) W (by rw [List.length_append]; omega)
  have cE := fun W => rfValue_any l W (by omega)
  have cF := fun W => rfValue_any m W (by omega)
  rw [Rf.esc_append] at cA cD
  have hap := strAppend l m
  have hapT := strAppend (Rf.esc Rf.inT l) (Rf.esc Rf.inT m)
  have hapV := strAppend (Rf.esc Rf.inV l) (Rf.esc Rf.inV m)
  have hlT := Rf.esc_le Rf.inT Rf.inT_le l
  have hlV := Rf.esc_le Rf.inV Rf.inV_le l
  have gT : (Rf.esc Rf.inT l).length + (Rf.esc Rf.inT m).length ≤ 9223372036854775807 := by have := Rf.esc_le Rf.inT Rf.inT_le m; omega
  have gV : (Rf.esc Rf.inV l).length + (Rf.esc Rf.inV m).length ≤ 9223372036854775807 := by have := Rf.esc_le Rf.inV Rf.inV_le m; omega
  obtain ⟨T, hT⟩ : ∃ T, Rf.esc Rf.inT l = T := ⟨_, rfl⟩
  obtain ⟨V, hV⟩ : ∃ V, Rf.esc Rf.inV l = V := ⟨_, rfl⟩
  rw [hT] at cA cB hapT hlT gT
  rw [hV] at cD cE hapV hlV gV
  generalize Rf.esc Rf.inT m = T2 at *
  generalize Rf.esc Rf.inV m = V2 at *
  have HT := hide' (And.intro hT hV)
  have HS := hide' hS
  have HL := hide' (And.intro hlT hlV)
  clear hT hV hS hlT hlV
  go_enter Tryd.func4, Tryd.ntmps4
  go_wp2_with fail
  refine c0.mono ?_
  rintro e w1 ⟨rfl, hB1⟩
  have cA1 := cA w1
  clear c0 cA
  go_wp2_with fail
  refine cA1.mono ?_
  rintro e w2 ⟨rfl, hb2⟩
  have hB2 := hB1.trans (hb2.mono hB1.size)
  have cB2 := cB w2
  clear cA1 hb2 hB1
  go_wp2_with fail
  refine cB2.mono ?_
  rintro e w3 ⟨rfl, hb3⟩
  have hB3 := hB2.trans (hb3.mono hB2.size)
  have cC3 := cC w3
  clear cB2 hb3 hB2 cC
  go_wp2_with fail
  refine cC3.mono ?_
  rintro e w4 ⟨rfl, hb4⟩
  have hB4 := hB3.trans (hb4.mono hB3.size)
  have cD4 := cD w4
  clear cC3 hb4 hB3 cD
  go_wp2_with fail
  refine cD4.mono ?_
  rintro e w5 ⟨rfl, hb5⟩
  have hB5 := hB4.trans (hb5.mono hB4.size)
  have cE5 := cE w5
  clear cD4 hb5 hB4
  go_wp2_with fail
  refine cE5.mono ?_
  rintro e w6 ⟨rfl, hb6⟩
  have hB6 := hB5.trans (hb6.mono hB5.size)
  have cF6 := cF w6
  clear cE5 hb6 hB5 cF
  go_wp2_with fail
  refine cF6.mono ?_
  rintro e w7 ⟨rfl, hb7⟩
  have hB7 := hB6.trans (hb7.mono hB6.size)
  have cB7 := cB w7
  clear cF6 hb7 hB6
  go_wp2_with fail
  refine cB7.mono ?_
  rintro e w8 ⟨rfl, hb8⟩
  have hB8 := hB7.trans (hb8.mono hB7.size)
  have cE8 := cE w8
  clear cB7 hb8 hB7 cE
  go_wp2_with fail
  refine cE8.mono ?_
  rintro e w9 ⟨rfl, hb9⟩
  have hB9 := hB8.trans (hb9.mono hB8.size)
  clear cE8 hb9 hB8
  have hX : ∀ k : Nat, k < 2 → ∃ X : List UInt8, (w9.alloc (.cells #[.string ⟨T.toArray⟩, .string ⟨V.toArray⟩] 9)).cell? ⟨w9.heap.size, k, none⟩ = some (.string ⟨X.toArray⟩) ∧ X.length ≤ 6291456 ∧ 60 ∉ X ∧ 13 ∉ X ∧ (k = 1 → 34 ∉ X) ∧ ∀ i, X[i]? = some 38 → (Rf.rd (Rf.lfn (X.drop i)) (X.drop i).length).2.2 = 0 := by
    have hh : (w9.alloc (.cells #[.string ⟨T.toArray⟩, .string ⟨V.toArray⟩] 9)).heap[w9.heap.size]? = some (.cells #[.string ⟨T.toArray⟩, .string ⟨V.toArray⟩] 9 (0, 0)) := by show (w9.heap.push _)[w9.heap.size]? = _; simp
    intro k hk
    obtain ⟨eT, eV⟩ := HT.out
    have hL := HL.out
    rcases (show k = 0 ∨ k = 1 by omega) with rfl | rfl
    · refine ⟨T, by rw [Lib.cell_of_heap hh]; rfl, by omega, ?_, ?_, fun q => absurd q (by decide), ?_⟩
      · rw [← eT]; exact Rf.esc_no60 Rf.okInT l
      · rw [← eT]; exact Rf.esc_no13 Rf.okInT l
      · rw [← eT]; exact Rf.esc_have Rf.okInT l
    · refine ⟨V, by rw [Lib.cell_of_heap hh]; rfl, by omega, ?_, ?_, fun _ => ?_, ?_⟩
      · rw [← eV]; exact Rf.esc_no60 Rf.okInV l
      · rw [← eV]; exact Rf.esc_no13 Rf.okInV l
      · rw [← eV]; exact Rf.no34 l
      · rw [← eV]; exact Rf.esc_have Rf.okInV l
  have hB10 : Below w.heap.size w (w9.alloc (.cells #[.string ⟨T.toArray⟩, .string ⟨V.toArray⟩] 9)) := hB9.alloc hB9.size _
  have HX := hide' hX
  have HB10 := hide' hB10
  clear hX hB10 hB9
  go_wp2
  generalize w9.alloc (.cells #[.string ⟨T.toArray⟩, .string ⟨V.toArray⟩] 9) = w10 at *
  obtain ⟨Q0, hQ0⟩ : ∃ Q0, w9.heap.size = Q0 := ⟨_, rfl⟩
  rw [hQ0] at HX ⊢
  clear hQ0
  go_loopw [43] (fun c wr => ∃ k : Nat, c = .int .i64 k ∧ k ≤ 2 ∧ Below w10.heap.size w10 wr) (fun c _ => 2 - (RowKit.intOf c).toNat)
  case atStart => exact ⟨0, rfl, by omega, Below.refl _ _⟩
  case round =>
    obtain ⟨k, rfl, hk2, hB⟩ := hrel
    by_cases hk : k < 2
    · have g1 : (k : Int) < 2 := by omega
      obtain ⟨X, hce, hXl, h60, h13, h34, h38⟩ := HX.out k hk
      have hcr := (hB.cell (p := ⟨Q0, k, none⟩) (block_lt_of_cell hce)).trans hce
      obtain ⟨n, hn⟩ : ∃ n, X.length = n := ⟨_, rfl⟩
      have HP := hide' (And.intro h60 (And.intro h13 (And.intro h34 h38)))
      clear hce h60 h13 h34 h38
      go_wp2
      obtain ⟨w11, hw11⟩ : ∃ w11, wr = w11 := ⟨_, rfl⟩
      rw [hw11] at hB hcr
      go_loopw [7] (fun i wr => ∃ a : Nat, i = .int .i64 a ∧ a ≤ n ∧ Below w10.heap.size w10 wr) (fun i _ => n - (RowKit.intOf i).toNat)
      case atStart => exact ⟨0, rfl, Nat.zero_le _, by rw [hw11]; exact hB⟩
      case round =>
        clear hw11 hB hcr w11
        obtain ⟨a, rfl, han, hB⟩ := hrel
        by_cases hlt : a < n
        · have g2 : (a : Int) < n := by omega
          have hal : a < X.length := by omega
          obtain ⟨y, hy⟩ : ∃ y, X[a]'hal = y := ⟨_, rfl⟩
          have hix : ∀ h : a < (ByteArray.mk X.toArray).size, (ByteArray.mk X.toArray)[a]'h = y := fun h => strIndex X a hal y hy h
          have hym : y ∈ X := by rw [← hy]; exact List.getElem_mem hal
          obtain ⟨p60, p13, p34, p38⟩ := HP.out
          have ne : ∀ z : UInt8, y ≠ z → ((y.toNat : Int) == (z.toNat : Int)) = false := fun z hz => by
            simp only [beq_eq_false_iff_ne, ne_eq]
            intro e
            exact hz (UInt8.toNat_inj.1 (by omega))
          have e60 : ((y.toNat : Int) == 60) = false := ne 60 (fun e => p60 (by rw [← e]; exact hym))
          have e13 : ((y.toNat : Int) == 13) = false := ne 13 (fun e => p13 (by rw [← e]; exact hym))
          have hdl : (X.drop a).length = n - a := by rw [List.length_drop]; omega
          have hex : (ByteArray.mk X.toArray).extract a n = ⟨(X.drop a).toArray⟩ := by
            rw [strExtract, List.take_of_length_le (by omega)]
          obtain ⟨cap, W, hrun, hc1, hc2, hby, hbw, hsw⟩ := rfConv (X.drop a) wr (by omega)
          have hBw : Below w.heap.size w wr := HB10.out.trans (hB.mono HB10.out.size)
          have hBW := hBw.trans (hbw.mono hBw.size)
          have hB4 := hB.trans (hbw.mono hB.size)
          have cR := rfRead_any (Rf.lfn (X.drop a)) (some ⟨wr.heap.size, 0, none⟩) (X.drop a).length cap W (HS.out.below hBW (Nat.le_refl _)) (Rf.lfn_lt _) (by omega) (fun _ => ⟨wr.heap.size, 0, rfl, hby, by omega⟩)
          have h38 := p38 a
          rw [List.getElem?_eq_getElem hal, hy] at h38
          obtain ⟨Z, hZ⟩ : ∃ Z, Rf.rd (Rf.lfn (X.drop a)) (X.drop a).length = Z := ⟨_, rfl⟩
          rw [hZ] at cR h38
          obtain ⟨z1, z2, z3⟩ := Z
          unfold Rf.rdV at cR
          dsimp only at cR h38
          rw [hdl] at hrun cR
          generalize X.drop a = D at *
          have HB4 := hide' hB4
          clear hZ hby hbw hsw hBw hBW hB4 hc1 hc2 hB hdl p60 p13 p38 hym
          have h34 : k = 1 → ((y.toNat : Int) == 34) = false := fun q => ne 34 (fun e => p34 q (by rw [← e, ← hy]; exact List.getElem_mem hal))
          by_cases h9 : y = 38
          · obtain rfl : z3 = 0 := h38 (by rw [h9])
            have e38 : ((y.toNat : Int) == 38) = true := by rw [h9]; rfl
            clear h9 h38 hy ne p34
            by_cases hk1 : k = 1
            · have e34 := h34 hk1
              have ek : ((k : Int) == 1) = true := by simp; omega
              clear hk1 h34
              go_wp2_with fail
              refine cR.mono ?_
              rintro e w12 ⟨rfl, hb12⟩
              have hB12 := HB4.out.trans (hb12.mono HB4.out.size)
              clear cR hb12
              go_wp2
              go_roundw
              case rel => exact ⟨a + 1, by go_num, by omega, hB12⟩
              case measure => simp [RowKit.intOf]; omega
            · have ek : ((k : Int) == 1) = false := by simp; omega
              clear hk1 h34
              go_wp2_with fail
              refine cR.mono ?_
              rintro e w12 ⟨rfl, hb12⟩
              have hB12 := HB4.out.trans (hb12.mono HB4.out.size)
              clear cR hb12
              go_wp2
              go_roundw
              case rel => exact ⟨a + 1, by go_num, by omega, hB12⟩
              case measure => simp [RowKit.intOf]; omega
          · have e38 : ((y.toNat : Int) == 38) = false := ne 38 h9
            clear h9 h38 hy ne p34
            by_cases hk1 : k = 1
            · have e34 := h34 hk1
              have ek : ((k : Int) == 1) = true := by simp; omega
              clear hk1 h34
              go_wp2_with fail
              refine cR.mono ?_
              rintro e w12 ⟨rfl, hb12⟩
              have hB12 := HB4.out.trans (hb12.mono HB4.out.size)
              clear cR hb12
              go_wp2
              go_roundw
              case rel => exact ⟨a + 1, by go_num, by omega, hB12⟩
              case measure => simp [RowKit.intOf]; omega
            · have ek : ((k : Int) == 1) = false := by simp; omega
              clear hk1 h34
              go_wp2_with fail
              refine cR.mono ?_
              rintro e w12 ⟨rfl, hb12⟩
              have hB12 := HB4.out.trans (hb12.mono HB4.out.size)
              clear cR hb12
              go_wp2
              go_roundw
              case rel => exact ⟨a + 1, by go_num, by omega, hB12⟩
              case measure => simp [RowKit.intOf]; omega
        · obtain rfl : a = n := by omega
          have g2 : ¬ (a : Int) < a := by omega
          go_wp2
          go_roundw
          case rel => exact ⟨k + 1, by go_num, by omega, hB⟩
          case measure => simp [RowKit.intOf]; omega
    · obtain rfl : k = 2 := by omega
      have hBw : Below w.heap.size w wr := HB10.out.trans (hB.mono HB10.out.size)
      have cB9 := cB wr
      have hT := HT.out.1
      have hmd := Rf.md_esc Rf.okInT l
      rw [hT] at hmd
      have cM1 := fun W => mend_any (Rf.lfn T) T.length W (Rf.lfn_lt T) (by have := HL.out; omega)
      have cM2 := fun W => mend_any (Rf.lfn l) l.length W (Rf.lfn_lt l) (by omega)
      rw [arr_lfn, hmd] at cM1
      rw [arr_lfn] at cM2
      generalize Rn.md (Rn.chs (Rf.lfn l) l.length (Rf.lfn_lt l)) = M at *
      clear hT hmd cB HX HL hB
      go_wp2_with fail
      refine cB9.mono ?_
      rintro e w13 ⟨rfl, hb13⟩
      have hB13 := hBw.trans (hb13.mono hBw.size)
      have cM13 := cM1 w13
      clear cB9 hb13 hBw cM1
      go_wp2_with fail
      refine cM13.mono ?_
      rintro e w14 ⟨rfl, hb14, -⟩
      have hB14 := hB13.trans (hb14.mono hB13.size)
      have cM14 := cM2 w14
      clear cM13 hb14 hB13 cM2
      go_wp2_with fail
      refine cM14.mono ?_
      rintro e w15 ⟨rfl, hb15, hMl⟩
      have hB15 := hB14.trans (hb15.mono hB14.size)
      have cT15 := rfText_any M w15 (by omega)
      clear cM14 hb15 hB14 hMl
      go_wp2_with fail
      refine cT15.mono ?_
      rintro e w16 ⟨rfl, hb16⟩
      have hB16 := hB15.trans (hb16.mono hB15.size)
      clear cT15 hb16 hB15
      go_wp2
      go_ret
      exact ⟨rfl, hB16⟩
end Go.Proofs.YtbbbokkfhfmoeabDoor
