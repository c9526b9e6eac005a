/-
  THE WALK over gimletlaw16.HuntPlays (gen_plaw.py).
-/
import Derived.Test.YtgbldbohadacmaaHtPlM
import Derived.Test.YtgbldbohadacmaaHtAwake
namespace Go.Proofs.Ytgbldbohadacmaa
open Go.RowKit Go.Lib
namespace Ht
/-- one call of a script -/
structure SOp where
  kind : Int
  oth : Bool
  f : Nat → Nat
  n : Nat
instance : Inhabited SOp := ⟨⟨0, false, fun _ => 0, 0⟩⟩
/-- a script's cells -/
def SOps (W : World) (a : Option Addr) (n : Nat) (S : Nat → SOp) : Prop :=
  0 < n → ∃ b o, a = some ⟨b, o, none⟩ ∧ b < W.heap.size ∧ ∀ i, i < n → W.cell? ⟨b, o + i * 3, none⟩ = some (.int .i64 (S i).kind) ∧ W.cell? ⟨b, o + i * 3 + 1, none⟩ = some (.bool (S i).oth) ∧ W.cell? ⟨b, o + i * 3 + 2, none⟩ = some (.string (Rn.arr (S i).f (S i).n))
/-- an Asked in its box -/
def Bx (w : World) (b : Nat) (c : Int) (s : ByteArray) (N : Int) : Prop := b < w.heap.size ∧ w.cell? ⟨b, 0, none⟩ = some (.int .i64 c) ∧ w.cell? ⟨b, 1, none⟩ = some (.string s) ∧ w.cell? ⟨b, 2, none⟩ = some (.int .i64 N)
theorem Bx.below {w w' : World} {b : Nat} {c N : Int} {s : ByteArray} (h : Bx w b c s N) (e : Below w.heap.size w w') : Bx w' b c s N :=
  ⟨Nat.lt_of_lt_of_le h.1 e.size, keepc h.2.1 e, keepc h.2.2.1 e, keepc h.2.2.2 e⟩
theorem below_drewN {B : Nat} {w w' : World} (h : Below B w w') (n : Nat) : Below B w (w'.drewN n) := ⟨h.os, h.tape, h.output, h.size, h.block⟩
theorem cc_nat {c : Int} (h : 0 ≤ c) : ((c.toNat : Nat) : Int) = c := Int.toNat_of_nonneg h
end Ht
section
variable {W0 w : World} {B0 D M C : Nat} {N : Int} {T : List Nat} {xt xb va vc : Value} {L : List Nat} {wh : Bool}
theorem prTruthW (h : Ht.Pr W0 B0 D M C N T xt xb va vc L wh w) :
    Calls Try.prog 8 #[.pointer (some ⟨D, 0, none⟩)] w fun e w' => e = .returned (.int .i64 (Ht.tru (Ht.cc C) (Ht.tdc C) (Ht.cn C N) T L wh)) ∧ w' = w := htTruth h.hu
theorem prRefTruthW (h : Ht.Pr W0 B0 D M C N T xt xb va vc L wh w) (hL : L.length ≤ 1099511627776) (hT : T.length ≤ 1099511627776) :
    Calls Try.prog 9 #[.pointer (some ⟨M, 0, none⟩)] w fun e w' => e = .returned (.int .i64 (Ht.tru (Ht.cc C) (Ht.tdc C) (Ht.cn C N) T L wh)) ∧ ∃ k, w' = w.drewN k := htRefTr h.rc h.c9 h.nva h.nvc hL hT
end
set_option maxRecDepth 100000 in
set_option maxHeartbeats 8000000 in
theorem lawPlays11 (W : World) (c N c' N' : Int) (f f' : Nat → Nat) (n n' : Nat) (pa : Option Addr) (len cap : Nat) (S : Nat → Ht.SOp) (he : Ht.eno c N = 0) (he' : Ht.eno c' N' = 0) (hf : ∀ j, f j < 256) (hf' : ∀ j, f' j < 256) (hn : n ≤ 1048576) (hn' : n' ≤ 1048576)
    (hN : N ≤ 9223372036854775807) (hN' : N' ≤ 9223372036854775807) (hS : Ht.SOps W pa len S) (hok : ∀ i, i < len → (∀ j, (S i).f j < 256) ∧ (S i).n ≤ 1048576) (hc : len ≤ cap) (hlen : len ≤ 1048576) :
    Calls Try.prog 3 #[.agg #[.int .i64 c, .string (Rn.arr f n), .int .i64 N], .agg #[.int .i64 c', .string (Rn.arr f' n'), .int .i64 N'], .slice pa len cap] W fun e w' => e = .returned (.bool true) ∧ Below W.heap.size W w' := by
  obtain ⟨WA, hWA⟩ : ∃ WA, W.alloc (.cells #[.int .i64 c, .string (Rn.arr f n), .int .i64 N] 23) = WA := ⟨_, rfl⟩
  obtain ⟨WB, hWB⟩ : ∃ WB, WA.alloc (.cells #[.int .i64 c', .string (Rn.arr f' n'), .int .i64 N'] 23) = WB := ⟨_, rfl⟩
  have hbA : Below W.heap.size W WA := by rw [← hWA]; exact (Below.refl _ _).alloc (Nat.le_refl _) _
  have hbB : Below WA.heap.size WA WB := by rw [← hWB]; exact (Below.refl _ _).alloc (Nat.le_refl _) _
  have hsA : WA.heap.size = W.heap.size + 1 := by rw [← hWA]; simp
  have hXA : Ht.Bx WA W.heap.size c (Rn.arr f n) N := ⟨by omega, by rw [← hWA]; simp, by rw [← hWA]; simp, by rw [← hWA]; simp⟩
  have hXB : Ht.Bx WB WA.heap.size c' (Rn.arr f' n') N' := ⟨by rw [← hWB]; simp, by rw [← hWB]; simp, by rw [← hWB]; simp, by rw [← hWB]; simp⟩
  have HX := hide' (hXA.below hbB)
  have HXP := hide' hXB
  have HWA := hide' hWA
  have HWB := hide' hWB
  have HB0 := hide' (hbA.trans (hbB.mono (by omega)))
  have HSA := hide' hsA
  have HF := hide' hf
  have HFP := hide' hf'
  have HNN := hide' (And.intro hn hn')
  have HS := hide' (And.intro hS (And.intro hok hlen))
  have RL := hide' (Wd.R_length f n 0 hf)
  have RLP := hide' (Wd.R_length f' n' 0 hf')
  have HC := hide' (Ht.eno_ok he)
  have HCP := hide' (Ht.eno_ok he')
  have CA := hide' (htAwake WB)
  clear hWA hWB hbA hbB hsA hXA hXB hS hok hlen
  go_enter Try.func3, Try.ntmps3
  go_wp2_with fail
  rw [HWA.out, HWB.out, ← HSA.out]
  refine CA.out.mono ?_
  rintro e w1 ⟨rfl, hb1⟩
  have HB1 := hide' (HB0.out.trans (hb1.mono HB0.out.size))
  have HX1 := hide' (HX.out.below hb1)
  have HXP1 := hide' (HXP.out.below hb1)
  have HZ : Hid (W.heap.size ≤ w1.heap.size) := HB1.out.size
  clear HX HXP CA hb1
  have HX := HX1
  have HXP := HXP1
  clear HX1 HXP1
  obtain ⟨-, q0, q1, q2⟩ := HX.out
  have C1 := hide' (prNew c N f n w1 he hf (by omega) hN)
  go_wp2_with fail
  refine C1.out.mono ?_
  rintro e w2 ⟨D, rfl, hd, hu, hb1⟩
  have HU := hide' hu
  have HD := hide' hd
  have HLD : Hid (D < w2.heap.size) := HU.out.lt
  clear hu hd
  have HBn := hide' (HB1.out.trans (hb1.mono HB1.out.size))
  have HXn := hide' (HX.out.below hb1)
  have HXPn := hide' (HXP.out.below hb1)
  clear HB1 HX HXP hb1 q0 q1 q2 C1
  have HB1 := HBn
  have HX := HXn
  have HXP := HXPn
  clear HBn HXn HXPn
  obtain ⟨-, q0, q1, q2⟩ := HXP.out
  have C2 := hide' (prNew c' N' f' n' w2 he' hf' (by omega) hN')
  go_wp2_with fail
  refine C2.out.mono ?_
  rintro e w3 ⟨DP, rfl, hdP, huP, hb2⟩
  have HUP := hide' huP
  have HDP := hide' hdP
  have HSZ2 := hide' hb2.size
  have HLDP : Hid (DP < w3.heap.size) := HUP.out.lt
  clear huP hdP
  have HBn := hide' (HB1.out.trans (hb2.mono HB1.out.size))
  have HXn := hide' (HX.out.below hb2)
  have HXPn := hide' (HXP.out.below hb2)
  have HUn := hide' (HU.out.below hb2)
  clear HU
  have HU := HUn
  clear HUn
  clear HB1 HX HXP hb2 q0 q1 q2 C2
  have HB1 := HBn
  have HX := HXn
  have HXP := HXPn
  clear HBn HXn HXPn
  obtain ⟨-, q0, q1, q2⟩ := HX.out
  have C3 := hide' (prRefNew c N f n w3 he hf (by omega))
  go_wp2_with fail
  refine C3.out.mono ?_
  rintro e w4 ⟨M, va, rfl, hm, hr, ho, hb3⟩
  have HR := hide' hr
  have HM := hide' hm
  have HLM : Hid (M < w4.heap.size) := HR.out.lt
  have HO := hide' ho
  clear hr hm ho
  have HSZ3 := hide' hb3.size
  have HBn := hide' (HB1.out.trans (hb3.mono HB1.out.size))
  have HXn := hide' (HX.out.below hb3)
  have HXPn := hide' (HXP.out.below hb3)
  have HUn := hide' (HU.out.below hb3)
  clear HU
  have HU := HUn
  clear HUn
  have HUPn := hide' (HUP.out.below hb3)
  clear HUP
  have HUP := HUPn
  clear HUPn
  clear HB1 HX HXP hb3 q0 q1 q2 C3
  have HB1 := HBn
  have HX := HXn
  have HXP := HXPn
  clear HBn HXn HXPn
  obtain ⟨-, q0, q1, q2⟩ := HXP.out
  have C4 := hide' (prRefNew c' N' f' n' w4 he' hf' (by omega))
  go_wp2_with fail
  refine C4.out.mono ?_
  rintro e w5 ⟨MP, vaP, rfl, hmP, hrP, hoP, hb4⟩
  have HRP := hide' hrP
  have HMP := hide' hmP
  have HOP := hide' hoP
  clear hrP hmP hoP
  have HSZ4 := hide' hb4.size
  have HBn := hide' (HB1.out.trans (hb4.mono HB1.out.size))
  have HXn := hide' (HX.out.below hb4)
  have HXPn := hide' (HXP.out.below hb4)
  have HUn := hide' (HU.out.below hb4)
  have HRn := hide' (HR.out.below hb4)
  have HOn := hide' (Ht.own_below HO.out hb4)
  clear HU HR HO
  have HU := HUn
  have HR := HRn
  have HO := HOn
  clear HUn HRn HOn
  have HUPn := hide' (HUP.out.below hb4)
  clear HUP
  have HUP := HUPn
  clear HUPn
  clear HB1 HX HXP hb4 q0 q1 q2 C4
  have HB1 := HBn
  have HX := HXn
  have HXP := HXPn
  clear HBn HXn HXPn
  obtain ⟨C, hC⟩ : ∃ C : Nat, c = C := ⟨c.toNat, (Ht.cc_nat HC.out.1).symm⟩
  have h9 : C < 9 := by have := HC.out; omega
  obtain ⟨-, xt, xb, hq, hR⟩ := HU.out.hq
  rw [hC] at hq hR
  have hr := HR.out
  rw [hC] at hr
  have p := Ht.Pr.start h9 hq hR hr HO.out
  obtain ⟨CP, hCP⟩ : ∃ C : Nat, c' = C := ⟨c'.toNat, (Ht.cc_nat HCP.out.1).symm⟩
  have h9P : CP < 9 := by have := HCP.out; omega
  obtain ⟨-, xtP, xbP, hqP, hRP⟩ := HUP.out.hq
  rw [hCP] at hqP hRP
  have hrP := HRP.out
  rw [hCP] at hrP
  have pP := Ht.Pr.start h9P hqP hRP hrP HOP.out
  have hTwo : Ht.Two true true W w5 w3.heap.size D M C N (Wd.R f n 0) xt xb va w4.heap.size DP MP CP N' (Wd.R f' n' 0) xtP xbP vaP 0 w5 := by
    refine ⟨HB1.out, HB1.out.size, fun _ => ⟨?_, ?_⟩, fun _ => ⟨?_, ?_⟩, .slice none 0 0, [], false, .slice none 0 0, [], false, fun _ => ⟨p, by simp⟩, fun _ => ⟨pP, by simp⟩, fun _ _ q hq hq2 => ?_⟩
    · have z1 := HZ.out; have z9 := HSZ3.out; have z10 := HSZ2.out; have z0 := HSZ4.out; have z2 := HD.out; have z3 := HM.out; have z4 := HDP.out; have z5 := HMP.out; have z6 := HLD.out; have z7 := HLDP.out; have z8 := HLM.out; omega
    · have z1 := HZ.out; have z9 := HSZ3.out; have z10 := HSZ2.out; have z0 := HSZ4.out; have z2 := HD.out; have z3 := HM.out; have z4 := HDP.out; have z5 := HMP.out; have z6 := HLD.out; have z7 := HLDP.out; have z8 := HLM.out; omega
    · have z1 := HZ.out; have z9 := HSZ3.out; have z10 := HSZ2.out; have z0 := HSZ4.out; have z2 := HD.out; have z3 := HM.out; have z4 := HDP.out; have z5 := HMP.out; have z6 := HLD.out; have z7 := HLDP.out; have z8 := HLM.out; omega
    · have z1 := HZ.out; have z9 := HSZ3.out; have z10 := HSZ2.out; have z0 := HSZ4.out; have z2 := HD.out; have z3 := HM.out; have z4 := HDP.out; have z5 := HMP.out; have z6 := HLD.out; have z7 := HLDP.out; have z8 := HLM.out; omega
    · have z9 := HSZ3.out; have z10 := HSZ2.out; have z0 := HSZ4.out; have z2 := HD.out; have z3 := HM.out; have z4 := HDP.out; have z5 := HMP.out; have z6 := HLD.out; have z7 := HLDP.out; have z8 := HLM.out
      rcases hq with e1 | e1 | e1
      · rcases hq2 with e2 | e2 | e2
        · omega
        · omega
        · simp [Value.ownBlock] at e2
      · rcases hq2 with e2 | e2 | e2
        · omega
        · omega
        · simp [Value.ownBlock] at e2
      · simp [Value.ownBlock] at e1
  have HT := hide' hTwo
  clear HU HR HO hq hR hr p hC h9 HD HM HLD HC HLM HUP HRP HOP hqP hRP hrP pP hCP h9P HDP HMP HLDP HCP HSZ3 HSZ4 HZ HX HXP HB1 HB0 HWA HWB HSA hTwo HSZ2
  go_wp2_with fail
  go_loopw [15] (fun i wr => ∃ a : Nat, i = .int .i64 a ∧ a ≤ len ∧ Hid (Ht.Two true true W w5 w3.heap.size D M C N (Wd.R f n 0) xt xb va w4.heap.size DP MP CP N' (Wd.R f' n' 0) xtP xbP vaP a wr)) (fun i _ => len - (RowKit.intOf i).toNat)
  case atStart => exact ⟨0, rfl, Nat.zero_le _, HT⟩
  case round =>
    obtain ⟨a, rfl, han, H2⟩ := hrel
    by_cases hlt : a < len
    · have g1 : (a : Int) < len := by omega
      obtain ⟨b, o, e, hbl, hcl⟩ := HS.out.1 (by omega)
      subst e
      obtain ⟨k0, k1, k2⟩ := hcl a hlt
      obtain ⟨hsf, hsn⟩ := HS.out.2.1 a hlt
      have h20 : a < 1048576 := by have := HS.out.2.2; omega
      clear hcl
      generalize S a = s at k0 k1 k2 hsf hsn
      have hbW := H2.out.1
      have r0 := (hbW.cell (p := ⟨b, o + a * 3, none⟩) hbl).trans k0
      have r1 := (hbW.cell (p := ⟨b, o + a * 3 + 1, none⟩) hbl).trans k1
      have r2 := (hbW.cell (p := ⟨b, o + a * 3 + 2, none⟩) hbl).trans k2
      obtain ⟨kd, oth, sf, sn⟩ := s
      have hbx : Below wr.heap.size wr (wr.alloc (.cells #[.int .i64 kd, .bool oth, .string (Rn.arr sf sn)] 35)) := (Below.refl _ _).alloc (Nat.le_refl _) _
      have HMO := hide' (H2.out.more (Nat.le_succ a) hbx)
      have CO1 := hide' (H2.out.one hbx kd oth sf sn hsf hsn h20 (by have := RL.out; have := HNN.out.1; omega))
      have CO2 := hide' (H2.out.swap.one hbx kd oth sf sn hsf hsn h20 (by have := RLP.out; have := HNN.out.2; omega))
      clear k0 k1 k2 hsf hsn hbx hbW H2 HT
      cases oth
      · go_wp2_with fail
        refine CO1.out.mono ?_
        rintro e w6 ⟨rfl, h6, -⟩
        have H6 := hide' h6
        clear CO1 h6 r0 r1 r2 CO2
        go_wp2_with fail
        go_roundw
        case rel => exact ⟨a + 1, by go_num, by omega, H6⟩
        case measure => simp [RowKit.intOf]; omega
      · go_wp2_with fail
        refine CO2.out.mono ?_
        rintro e w6 ⟨rfl, h6, hq6⟩
        have hbx : w6.heap[wr.heap.size]? = some (.cells #[.int .i64 kd, .bool true, .string (Rn.arr sf sn)] 35 (0, 0)) := (hq6 wr.heap.size (Nat.le_refl _) (by simp)).trans (World.alloc_heap_new wr _)
        have hc5 : w6.cell? ⟨wr.heap.size, 1, none⟩ = some (.bool true) := by rw [Lib.cell_of_heap hbx]; rfl
        have H6 := hide' h6.swap
        clear CO2 h6 hq6 hbx r0 r1 r2 CO1
        go_wp2_with fail
        go_roundw
        case rel => exact ⟨a + 1, by go_num, by omega, H6⟩
        case measure => simp [RowKit.intOf]; omega
    · obtain rfl : a = len := by omega
      have g1 : ¬ (a : Int) < a := by omega
      obtain ⟨hbW, -, -, -, vc, L, wh, vcP, L', wh', h5, h6, -⟩ := H2.out
      have HBW := hide' hbW
      have N1 := hide' (fun w => htNilAdd ⟨#[]⟩ w)
      have N2 := hide' (fun w => htNilClose w)
      have N3 := hide' (fun w => htNilTruth w)
      have N4 := hide' (fun w => htNilKept w)
      have T1 := hide' (prTruthW (h5 rfl).1)
      have T2 := hide' (prRefTruthW (h5 rfl).1 (by have := (h5 rfl).2; have := HS.out.2.2; omega) (by have := RL.out; have := HNN.out.1; omega))
      obtain ⟨v, hv⟩ : ∃ v : Int, Ht.tru (Ht.cc C) (Ht.tdc C) (Ht.cn C N) (Wd.R f n 0) L wh = v := ⟨_, rfl⟩
      rw [hv] at T1 T2
      have T3 := hide' (fun k => prTruthW ((h6 rfl).1.drewN k))
      have T4 := hide' (fun k => prRefTruthW ((h6 rfl).1.drewN k) (by have := (h6 rfl).2; have := HS.out.2.2; omega) (by have := RLP.out; have := HNN.out.2; omega))
      obtain ⟨v', hv'⟩ : ∃ v : Int, Ht.tru (Ht.cc CP) (Ht.tdc CP) (Ht.cn CP N') (Wd.R f' n' 0) L' wh' = v := ⟨_, rfl⟩
      rw [hv'] at T3 T4
      clear h5 h6 hbW H2 HT HS
      go_wp2_with fail
      refine T1.out.mono ?_
      rintro e w6 ⟨rfl, rfl⟩
      go_wp2_with fail
      refine T2.out.mono ?_
      rintro e w7 ⟨rfl, k1, rfl⟩
      clear T1 T2
      go_wp2_with fail
      refine (T3.out _).mono ?_
      rintro e w8 ⟨rfl, rfl⟩
      go_wp2_with fail
      refine (T4.out _).mono ?_
      rintro e w9 ⟨rfl, k2, rfl⟩
      clear T3 T4
      go_wp2_with fail
      refine (N1.out _).mono ?_
      rintro e x1 ⟨rfl, rfl⟩
      go_wp2_with fail
      refine (N2.out _).mono ?_
      rintro e x2 ⟨rfl, rfl⟩
      go_wp2_with fail
      refine (N3.out _).mono ?_
      rintro e x3 ⟨rfl, rfl⟩
      go_wp2_with fail
      refine (N4.out _).mono ?_
      rintro e x4 ⟨rfl, rfl⟩
      go_wp2_with fail
      go_ret
      exact ⟨rfl, (Ht.below_drewN HBW.out _)⟩
set_option maxRecDepth 100000 in
set_option maxHeartbeats 8000000 in
theorem lawPlays10 (W : World) (c N c' N' : Int) (f f' : Nat → Nat) (n n' : Nat) (pa : Option Addr) (len cap : Nat) (S : Nat → Ht.SOp) (he : Ht.eno c N = 0) (he' : Ht.eno c' N' ≠ 0) (hf : ∀ j, f j < 256) (hf' : ∀ j, f' j < 256) (hn : n ≤ 1048576) (hn' : n' ≤ 1048576)
    (hN : N ≤ 9223372036854775807) (_hN' : N' ≤ 9223372036854775807) (hS : Ht.SOps W pa len S) (hok : ∀ i, i < len → (∀ j, (S i).f j < 256) ∧ (S i).n ≤ 1048576) (hc : len ≤ cap) (hlen : len ≤ 1048576) :
    Calls Try.prog 3 #[.agg #[.int .i64 c, .string (Rn.arr f n), .int .i64 N], .agg #[.int .i64 c', .string (Rn.arr f' n'), .int .i64 N'], .slice pa len cap] W fun e w' => e = .returned (.bool true) ∧ Below W.heap.size W w' := by
  obtain ⟨WA, hWA⟩ : ∃ WA, W.alloc (.cells #[.int .i64 c, .string (Rn.arr f n), .int .i64 N] 23) = WA := ⟨_, rfl⟩
  obtain ⟨WB, hWB⟩ : ∃ WB, WA.alloc (.cells #[.int .i64 c', .string (Rn.arr f' n'), .int .i64 N'] 23) = WB := ⟨_, rfl⟩
  have hbA : Below W.heap.size W WA := by rw [← hWA]; exact (Below.refl _ _).alloc (Nat.le_refl _) _
  have hbB : Below WA.heap.size WA WB := by rw [← hWB]; exact (Below.refl _ _).alloc (Nat.le_refl _) _
  have hsA : WA.heap.size = W.heap.size + 1 := by rw [← hWA]; simp
  have hXA : Ht.Bx WA W.heap.size c (Rn.arr f n) N := ⟨by omega, by rw [← hWA]; simp, by rw [← hWA]; simp, by rw [← hWA]; simp⟩
  have hXB : Ht.Bx WB WA.heap.size c' (Rn.arr f' n') N' := ⟨by rw [← hWB]; simp, by rw [← hWB]; simp, by rw [← hWB]; simp, by rw [← hWB]; simp⟩
  have HX := hide' (hXA.below hbB)
  have HXP := hide' hXB
  have HWA := hide' hWA
  have HWB := hide' hWB
  have HB0 := hide' (hbA.trans (hbB.mono (by omega)))
  have HSA := hide' hsA
  have HF := hide' hf
  have HFP := hide' hf'
  have HNN := hide' (And.intro hn hn')
  have HS := hide' (And.intro hS (And.intro hok hlen))
  have RL := hide' (Wd.R_length f n 0 hf)
  have RLP := hide' (Wd.R_length f' n' 0 hf')
  obtain ⟨E', hE'⟩ : ∃ E : Int, Ht.eno c' N' = E := ⟨_, rfl⟩
  have hE0' : (E' != 0) = true := by rw [← hE']; simpa using he'
  have HC := hide' (Ht.eno_ok he)
  have CA := hide' (htAwake WB)
  clear hWA hWB hbA hbB hsA hXA hXB hS hok hlen
  go_enter Try.func3, Try.ntmps3
  go_wp2_with fail
  rw [HWA.out, HWB.out, ← HSA.out]
  refine CA.out.mono ?_
  rintro e w1 ⟨rfl, hb1⟩
  have HB1 := hide' (HB0.out.trans (hb1.mono HB0.out.size))
  have HX1 := hide' (HX.out.below hb1)
  have HXP1 := hide' (HXP.out.below hb1)
  have HZ : Hid (W.heap.size ≤ w1.heap.size) := HB1.out.size
  clear HX HXP CA hb1
  have HX := HX1
  have HXP := HXP1
  clear HX1 HXP1
  obtain ⟨-, q0, q1, q2⟩ := HX.out
  have C1 := hide' (prNew c N f n w1 he hf (by omega) hN)
  go_wp2_with fail
  refine C1.out.mono ?_
  rintro e w2 ⟨D, rfl, hd, hu, hb1⟩
  have HU := hide' hu
  have HD := hide' hd
  have HLD : Hid (D < w2.heap.size) := HU.out.lt
  clear hu hd
  have HBn := hide' (HB1.out.trans (hb1.mono HB1.out.size))
  have HXn := hide' (HX.out.below hb1)
  have HXPn := hide' (HXP.out.below hb1)
  clear HB1 HX HXP hb1 q0 q1 q2 C1
  have HB1 := HBn
  have HX := HXn
  have HXP := HXPn
  clear HBn HXn HXPn
  obtain ⟨-, q0, q1, q2⟩ := HXP.out
  have C2 := hide' (prNewBad c' N' f' n' w2 he')
  rw [hE'] at C2
  go_wp2_with fail
  refine C2.out.mono ?_
  rintro e w3 ⟨rfl, hw2⟩
  rw [hw2]
  clear hw2
  clear q0 q1 q2 C2
  obtain ⟨-, q0, q1, q2⟩ := HX.out
  have C3 := hide' (prRefNew c N f n w2 he hf (by omega))
  go_wp2_with fail
  refine C3.out.mono ?_
  rintro e w4 ⟨M, va, rfl, hm, hr, ho, hb3⟩
  have HR := hide' hr
  have HM := hide' hm
  have HLM : Hid (M < w4.heap.size) := HR.out.lt
  have HO := hide' ho
  clear hr hm ho
  have HSZ3 := hide' hb3.size
  have HBn := hide' (HB1.out.trans (hb3.mono HB1.out.size))
  have HXn := hide' (HX.out.below hb3)
  have HXPn := hide' (HXP.out.below hb3)
  have HUn := hide' (HU.out.below hb3)
  clear HU
  have HU := HUn
  clear HUn
  clear HB1 HX HXP hb3 q0 q1 q2 C3
  have HB1 := HBn
  have HX := HXn
  have HXP := HXPn
  clear HBn HXn HXPn
  obtain ⟨-, q0, q1, q2⟩ := HXP.out
  have C4 := hide' (prRefNewBad c' N' f' n' w4 he' hf' (by omega))
  rw [hE'] at C4
  go_wp2_with fail
  refine C4.out.mono ?_
  rintro e w5 ⟨rfl, hb4⟩
  have HSZ4 := hide' hb4.size
  have HBn := hide' (HB1.out.trans (hb4.mono HB1.out.size))
  have HXn := hide' (HX.out.below hb4)
  have HXPn := hide' (HXP.out.below hb4)
  have HUn := hide' (HU.out.below hb4)
  have HRn := hide' (HR.out.below hb4)
  have HOn := hide' (Ht.own_below HO.out hb4)
  clear HU HR HO
  have HU := HUn
  have HR := HRn
  have HO := HOn
  clear HUn HRn HOn
  clear HB1 HX HXP hb4 q0 q1 q2 C4
  have HB1 := HBn
  have HX := HXn
  have HXP := HXPn
  clear HBn HXn HXPn
  obtain ⟨C, hC⟩ : ∃ C : Nat, c = C := ⟨c.toNat, (Ht.cc_nat HC.out.1).symm⟩
  have h9 : C < 9 := by have := HC.out; omega
  obtain ⟨-, xt, xb, hq, hR⟩ := HU.out.hq
  rw [hC] at hq hR
  have hr := HR.out
  rw [hC] at hr
  have p := Ht.Pr.start h9 hq hR hr HO.out
  have hTwo : Ht.Two true false W w5 w2.heap.size D M C N (Wd.R f n 0) xt xb va 0 0 0 0 0 [] default default default 0 w5 := by
    refine ⟨HB1.out, HB1.out.size, fun _ => ⟨?_, ?_⟩, (fun e => nomatch e), .slice none 0 0, [], false, .slice none 0 0, [], false, fun _ => ⟨p, by simp⟩, (fun e => nomatch e), (fun _ e => nomatch e)⟩
    · have z1 := HZ.out; have z9 := HSZ3.out; have z0 := HSZ4.out; have z2 := HD.out; have z3 := HM.out; have z6 := HLD.out; have z8 := HLM.out; omega
    · have z1 := HZ.out; have z9 := HSZ3.out; have z0 := HSZ4.out; have z2 := HD.out; have z3 := HM.out; have z6 := HLD.out; have z8 := HLM.out; omega
  have HT := hide' hTwo
  clear HU HR HO hq hR hr p hC h9 HD HM HLD HC HLM HSZ3 HSZ4 HZ HX HXP HB1 HB0 HWA HWB HSA hTwo
  go_wp2_with fail
  go_loopw [15] (fun i wr => ∃ a : Nat, i = .int .i64 a ∧ a ≤ len ∧ Hid (Ht.Two true false W w5 w2.heap.size D M C N (Wd.R f n 0) xt xb va 0 0 0 0 0 [] default default default a wr)) (fun i _ => len - (RowKit.intOf i).toNat)
  case atStart => exact ⟨0, rfl, Nat.zero_le _, HT⟩
  case round =>
    obtain ⟨a, rfl, han, H2⟩ := hrel
    by_cases hlt : a < len
    · have g1 : (a : Int) < len := by omega
      obtain ⟨b, o, e, hbl, hcl⟩ := HS.out.1 (by omega)
      subst e
      obtain ⟨k0, k1, k2⟩ := hcl a hlt
      obtain ⟨hsf, hsn⟩ := HS.out.2.1 a hlt
      have h20 : a < 1048576 := by have := HS.out.2.2; omega
      clear hcl
      generalize S a = s at k0 k1 k2 hsf hsn
      have hbW := H2.out.1
      have r0 := (hbW.cell (p := ⟨b, o + a * 3, none⟩) hbl).trans k0
      have r1 := (hbW.cell (p := ⟨b, o + a * 3 + 1, none⟩) hbl).trans k1
      have r2 := (hbW.cell (p := ⟨b, o + a * 3 + 2, none⟩) hbl).trans k2
      obtain ⟨kd, oth, sf, sn⟩ := s
      have hbx : Below wr.heap.size wr (wr.alloc (.cells #[.int .i64 kd, .bool oth, .string (Rn.arr sf sn)] 35)) := (Below.refl _ _).alloc (Nat.le_refl _) _
      have HMO := hide' (H2.out.more (Nat.le_succ a) hbx)
      have CO1 := hide' (H2.out.one hbx kd oth sf sn hsf hsn h20 (by have := RL.out; have := HNN.out.1; omega))
      clear k0 k1 k2 hsf hsn hbx hbW H2 HT
      cases oth
      · go_wp2_with fail
        refine CO1.out.mono ?_
        rintro e w6 ⟨rfl, h6, -⟩
        have H6 := hide' h6
        clear CO1 h6 r0 r1 r2
        go_wp2_with fail
        go_roundw
        case rel => exact ⟨a + 1, by go_num, by omega, H6⟩
        case measure => simp [RowKit.intOf]; omega
      · go_wp2_with fail
        go_roundw
        case rel => exact ⟨a + 1, by go_num, by omega, HMO⟩
        case measure => simp [RowKit.intOf]; omega
    · obtain rfl : a = len := by omega
      have g1 : ¬ (a : Int) < a := by omega
      obtain ⟨hbW, -, -, -, vc, L, wh, vcP, L', wh', h5, h6, -⟩ := H2.out
      have HBW := hide' hbW
      have N1 := hide' (fun w => htNilAdd ⟨#[]⟩ w)
      have N2 := hide' (fun w => htNilClose w)
      have N3 := hide' (fun w => htNilTruth w)
      have N4 := hide' (fun w => htNilKept w)
      have T1 := hide' (prTruthW (h5 rfl).1)
      have T2 := hide' (prRefTruthW (h5 rfl).1 (by have := (h5 rfl).2; have := HS.out.2.2; omega) (by have := RL.out; have := HNN.out.1; omega))
      obtain ⟨v, hv⟩ : ∃ v : Int, Ht.tru (Ht.cc C) (Ht.tdc C) (Ht.cn C N) (Wd.R f n 0) L wh = v := ⟨_, rfl⟩
      rw [hv] at T1 T2
      clear h5 h6 hbW H2 HT HS
      go_wp2_with fail
      refine T1.out.mono ?_
      rintro e w6 ⟨rfl, rfl⟩
      go_wp2_with fail
      refine T2.out.mono ?_
      rintro e w7 ⟨rfl, k1, rfl⟩
      clear T1 T2
      go_wp2_with fail
      refine (N1.out _).mono ?_
      rintro e x1 ⟨rfl, rfl⟩
      go_wp2_with fail
      refine (N2.out _).mono ?_
      rintro e x2 ⟨rfl, rfl⟩
      go_wp2_with fail
      refine (N3.out _).mono ?_
      rintro e x3 ⟨rfl, rfl⟩
      go_wp2_with fail
      refine (N4.out _).mono ?_
      rintro e x4 ⟨rfl, rfl⟩
      go_wp2_with fail
      go_ret
      exact ⟨rfl, (Ht.below_drewN HBW.out _)⟩
set_option maxRecDepth 100000 in
set_option maxHeartbeats 8000000 in
theorem lawPlays01 (W : World) (c N c' N' : Int) (f f' : Nat → Nat) (n n' : Nat) (pa : Option Addr) (len cap : Nat) (S : Nat → Ht.SOp) (he : Ht.eno c N ≠ 0) (he' : Ht.eno c' N' = 0) (hf : ∀ j, f j < 256) (hf' : ∀ j, f' j < 256) (hn : n ≤ 1048576) (hn' : n' ≤ 1048576)
    (_hN : N ≤ 9223372036854775807) (hN' : N' ≤ 9223372036854775807) (hS : Ht.SOps W pa len S) (hok : ∀ i, i < len → (∀ j, (S i).f j < 256) ∧ (S i).n ≤ 1048576) (hc : len ≤ cap) (hlen : len ≤ 1048576) :
    Calls Try.prog 3 #[.agg #[.int .i64 c, .string (Rn.arr f n), .int .i64 N], .agg #[.int .i64 c', .string (Rn.arr f' n'), .int .i64 N'], .slice pa len cap] W fun e w' => e = .returned (.bool true) ∧ Below W.heap.size W w' := by
  obtain ⟨WA, hWA⟩ : ∃ WA, W.alloc (.cells #[.int .i64 c, .string (Rn.arr f n), .int .i64 N] 23) = WA := ⟨_, rfl⟩
  obtain ⟨WB, hWB⟩ : ∃ WB, WA.alloc (.cells #[.int .i64 c', .string (Rn.arr f' n'), .int .i64 N'] 23) = WB := ⟨_, rfl⟩
  have hbA : Below W.heap.size W WA := by rw [← hWA]; exact (Below.refl _ _).alloc (Nat.le_refl _) _
  have hbB : Below WA.heap.size WA WB := by rw [← hWB]; exact (Below.refl _ _).alloc (Nat.le_refl _) _
  have hsA : WA.heap.size = W.heap.size + 1 := by rw [← hWA]; simp
  have hXA : Ht.Bx WA W.heap.size c (Rn.arr f n) N := ⟨by omega, by rw [← hWA]; simp, by rw [← hWA]; simp, by rw [← hWA]; simp⟩
  have hXB : Ht.Bx WB WA.heap.size c' (Rn.arr f' n') N' := ⟨by rw [← hWB]; simp, by rw [← hWB]; simp, by rw [← hWB]; simp, by rw [← hWB]; simp⟩
  have HX := hide' (hXA.below hbB)
  have HXP := hide' hXB
  have HWA := hide' hWA
  have HWB := hide' hWB
  have HB0 := hide' (hbA.trans (hbB.mono (by omega)))
  have HSA := hide' hsA
  have HF := hide' hf
  have HFP := hide' hf'
  have HNN := hide' (And.intro hn hn')
  have HS := hide' (And.intro hS (And.intro hok hlen))
  have RL := hide' (Wd.R_length f n 0 hf)
  have RLP := hide' (Wd.R_length f' n' 0 hf')
  obtain ⟨E, hE⟩ : ∃ E : Int, Ht.eno c N = E := ⟨_, rfl⟩
  have hE0 : (E != 0) = true := by rw [← hE]; simpa using he
  have HCP := hide' (Ht.eno_ok he')
  have CA := hide' (htAwake WB)
  clear hWA hWB hbA hbB hsA hXA hXB hS hok hlen
  go_enter Try.func3, Try.ntmps3
  go_wp2_with fail
  rw [HWA.out, HWB.out, ← HSA.out]
  refine CA.out.mono ?_
  rintro e w1 ⟨rfl, hb1⟩
  have HB1 := hide' (HB0.out.trans (hb1.mono HB0.out.size))
  have HX1 := hide' (HX.out.below hb1)
  have HXP1 := hide' (HXP.out.below hb1)
  have HZ : Hid (W.heap.size ≤ w1.heap.size) := HB1.out.size
  clear HX HXP CA hb1
  have HX := HX1
  have HXP := HXP1
  clear HX1 HXP1
  obtain ⟨-, q0, q1, q2⟩ := HX.out
  have C1 := hide' (prNewBad c N f n w1 he)
  rw [hE] at C1
  go_wp2_with fail
  refine C1.out.mono ?_
  rintro e w2 ⟨rfl, hw1⟩
  rw [hw1]
  clear hw1
  clear q0 q1 q2 C1
  obtain ⟨-, q0, q1, q2⟩ := HXP.out
  have C2 := hide' (prNew c' N' f' n' w1 he' hf' (by omega) hN')
  go_wp2_with fail
  refine C2.out.mono ?_
  rintro e w3 ⟨DP, rfl, hdP, huP, hb2⟩
  have HUP := hide' huP
  have HDP := hide' hdP
  have HLDP : Hid (DP < w3.heap.size) := HUP.out.lt
  clear huP hdP
  have HBn := hide' (HB1.out.trans (hb2.mono HB1.out.size))
  have HXn := hide' (HX.out.below hb2)
  have HXPn := hide' (HXP.out.below hb2)
  clear HB1 HX HXP hb2 q0 q1 q2 C2
  have HB1 := HBn
  have HX := HXn
  have HXP := HXPn
  clear HBn HXn HXPn
  obtain ⟨-, q0, q1, q2⟩ := HX.out
  have C3 := hide' (prRefNewBad c N f n w3 he hf (by omega))
  rw [hE] at C3
  go_wp2_with fail
  refine C3.out.mono ?_
  rintro e w4 ⟨rfl, hb3⟩
  have HSZ3 := hide' hb3.size
  have HBn := hide' (HB1.out.trans (hb3.mono HB1.out.size))
  have HXn := hide' (HX.out.below hb3)
  have HXPn := hide' (HXP.out.below hb3)
  have HUPn := hide' (HUP.out.below hb3)
  clear HUP
  have HUP := HUPn
  clear HUPn
  clear HB1 HX HXP hb3 q0 q1 q2 C3
  have HB1 := HBn
  have HX := HXn
  have HXP := HXPn
  clear HBn HXn HXPn
  obtain ⟨-, q0, q1, q2⟩ := HXP.out
  have C4 := hide' (prRefNew c' N' f' n' w4 he' hf' (by omega))
  go_wp2_with fail
  refine C4.out.mono ?_
  rintro e w5 ⟨MP, vaP, rfl, hmP, hrP, hoP, hb4⟩
  have HRP := hide' hrP
  have HMP := hide' hmP
  have HOP := hide' hoP
  clear hrP hmP hoP
  have HSZ4 := hide' hb4.size
  have HBn := hide' (HB1.out.trans (hb4.mono HB1.out.size))
  have HXn := hide' (HX.out.below hb4)
  have HXPn := hide' (HXP.out.below hb4)
  have HUPn := hide' (HUP.out.below hb4)
  clear HUP
  have HUP := HUPn
  clear HUPn
  clear HB1 HX HXP hb4 q0 q1 q2 C4
  have HB1 := HBn
  have HX := HXn
  have HXP := HXPn
  clear HBn HXn HXPn
  obtain ⟨CP, hCP⟩ : ∃ C : Nat, c' = C := ⟨c'.toNat, (Ht.cc_nat HCP.out.1).symm⟩
  have h9P : CP < 9 := by have := HCP.out; omega
  obtain ⟨-, xtP, xbP, hqP, hRP⟩ := HUP.out.hq
  rw [hCP] at hqP hRP
  have hrP := HRP.out
  rw [hCP] at hrP
  have pP := Ht.Pr.start h9P hqP hRP hrP HOP.out
  have hTwo : Ht.Two false true W w5 0 0 0 0 0 [] default default default w4.heap.size DP MP CP N' (Wd.R f' n' 0) xtP xbP vaP 0 w5 := by
    refine ⟨HB1.out, HB1.out.size, (fun e => nomatch e), fun _ => ⟨?_, ?_⟩, .slice none 0 0, [], false, .slice none 0 0, [], false, (fun e => nomatch e), fun _ => ⟨pP, by simp⟩, (fun e => nomatch e)⟩
    · have z1 := HZ.out; have z9 := HSZ3.out; have z0 := HSZ4.out; have z4 := HDP.out; have z5 := HMP.out; have z7 := HLDP.out; omega
    · have z1 := HZ.out; have z9 := HSZ3.out; have z0 := HSZ4.out; have z4 := HDP.out; have z5 := HMP.out; have z7 := HLDP.out; omega
  have HT := hide' hTwo
  clear HUP HRP HOP hqP hRP hrP pP hCP h9P HDP HMP HLDP HCP HSZ3 HSZ4 HZ HX HXP HB1 HB0 HWA HWB HSA hTwo
  go_wp2_with fail
  go_loopw [15] (fun i wr => ∃ a : Nat, i = .int .i64 a ∧ a ≤ len ∧ Hid (Ht.Two false true W w5 0 0 0 0 0 [] default default default w4.heap.size DP MP CP N' (Wd.R f' n' 0) xtP xbP vaP a wr)) (fun i _ => len - (RowKit.intOf i).toNat)
  case atStart => exact ⟨0, rfl, Nat.zero_le _, HT⟩
  case round =>
    obtain ⟨a, rfl, han, H2⟩ := hrel
    by_cases hlt : a < len
    · have g1 : (a : Int) < len := by omega
      obtain ⟨b, o, e, hbl, hcl⟩ := HS.out.1 (by omega)
      subst e
      obtain ⟨k0, k1, k2⟩ := hcl a hlt
      obtain ⟨hsf, hsn⟩ := HS.out.2.1 a hlt
      have h20 : a < 1048576 := by have := HS.out.2.2; omega
      clear hcl
      generalize S a = s at k0 k1 k2 hsf hsn
      have hbW := H2.out.1
      have r0 := (hbW.cell (p := ⟨b, o + a * 3, none⟩) hbl).trans k0
      have r1 := (hbW.cell (p := ⟨b, o + a * 3 + 1, none⟩) hbl).trans k1
      have r2 := (hbW.cell (p := ⟨b, o + a * 3 + 2, none⟩) hbl).trans k2
      obtain ⟨kd, oth, sf, sn⟩ := s
      have hbx : Below wr.heap.size wr (wr.alloc (.cells #[.int .i64 kd, .bool oth, .string (Rn.arr sf sn)] 35)) := (Below.refl _ _).alloc (Nat.le_refl _) _
      have HMO := hide' (H2.out.more (Nat.le_succ a) hbx)
      have CO2 := hide' (H2.out.swap.one hbx kd oth sf sn hsf hsn h20 (by have := RLP.out; have := HNN.out.2; omega))
      clear k0 k1 k2 hsf hsn hbx hbW H2 HT
      cases oth
      · go_wp2_with fail
        go_roundw
        case rel => exact ⟨a + 1, by go_num, by omega, HMO⟩
        case measure => simp [RowKit.intOf]; omega
      · go_wp2_with fail
        refine CO2.out.mono ?_
        rintro e w6 ⟨rfl, h6, hq6⟩
        have hbx : w6.heap[wr.heap.size]? = some (.cells #[.int .i64 kd, .bool true, .string (Rn.arr sf sn)] 35 (0, 0)) := (hq6 wr.heap.size (Nat.le_refl _) (by simp)).trans (World.alloc_heap_new wr _)
        have hc5 : w6.cell? ⟨wr.heap.size, 1, none⟩ = some (.bool true) := by rw [Lib.cell_of_heap hbx]; rfl
        have H6 := hide' h6.swap
        clear CO2 h6 hq6 hbx r0 r1 r2
        go_wp2_with fail
        go_roundw
        case rel => exact ⟨a + 1, by go_num, by omega, H6⟩
        case measure => simp [RowKit.intOf]; omega
    · obtain rfl : a = len := by omega
      have g1 : ¬ (a : Int) < a := by omega
      obtain ⟨hbW, -, -, -, vc, L, wh, vcP, L', wh', h5, h6, -⟩ := H2.out
      have HBW := hide' hbW
      have N1 := hide' (fun w => htNilAdd ⟨#[]⟩ w)
      have N2 := hide' (fun w => htNilClose w)
      have N3 := hide' (fun w => htNilTruth w)
      have N4 := hide' (fun w => htNilKept w)
      have T3 := hide' (fun k => prTruthW ((h6 rfl).1.drewN k))
      have T4 := hide' (fun k => prRefTruthW ((h6 rfl).1.drewN k) (by have := (h6 rfl).2; have := HS.out.2.2; omega) (by have := RLP.out; have := HNN.out.2; omega))
      obtain ⟨v', hv'⟩ : ∃ v : Int, Ht.tru (Ht.cc CP) (Ht.tdc CP) (Ht.cn CP N') (Wd.R f' n' 0) L' wh' = v := ⟨_, rfl⟩
      rw [hv'] at T3 T4
      clear h5 h6 hbW H2 HT HS
      go_wp2_with fail
      have z0 : ∀ x : World, x = x.drewN 0 := fun _ => rfl
      have T30 := T3.out 0
      have T40 := T4.out 0
      rw [← z0] at T30 T40
      clear T3 T4 z0
      refine T30.mono ?_
      rintro e w8 ⟨rfl, rfl⟩
      go_wp2_with fail
      refine T40.mono ?_
      rintro e w9 ⟨rfl, k2, rfl⟩
      clear T30 T40
      go_wp2_with fail
      refine (N1.out _).mono ?_
      rintro e x1 ⟨rfl, rfl⟩
      go_wp2_with fail
      refine (N2.out _).mono ?_
      rintro e x2 ⟨rfl, rfl⟩
      go_wp2_with fail
      refine (N3.out _).mono ?_
      rintro e x3 ⟨rfl, rfl⟩
      go_wp2_with fail
      refine (N4.out _).mono ?_
      rintro e x4 ⟨rfl, rfl⟩
      go_wp2_with fail
      go_ret
      exact ⟨rfl, (Ht.below_drewN HBW.out _)⟩
set_option maxRecDepth 100000 in
set_option maxHeartbeats 8000000 in
theorem lawPlays00 (W : World) (c N c' N' : Int) (f f' : Nat → Nat) (n n' : Nat) (pa : Option Addr) (len cap : Nat) (S : Nat → Ht.SOp) (he : Ht.eno c N ≠ 0) (he' : Ht.eno c' N' ≠ 0) (hf : ∀ j, f j < 256) (hf' : ∀ j, f' j < 256) (hn : n ≤ 1048576) (hn' : n' ≤ 1048576)
    (_hN : N ≤ 9223372036854775807) (_hN' : N' ≤ 9223372036854775807) (hS : Ht.SOps W pa len S) (hok : ∀ i, i < len → (∀ j, (S i).f j < 256) ∧ (S i).n ≤ 1048576) (hc : len ≤ cap) (hlen : len ≤ 1048576) :
    Calls Try.prog 3 #[.agg #[.int .i64 c, .string (Rn.arr f n), .int .i64 N], .agg #[.int .i64 c', .string (Rn.arr f' n'), .int .i64 N'], .slice pa len cap] W fun e w' => e = .returned (.bool true) ∧ Below W.heap.size W w' := by
  obtain ⟨WA, hWA⟩ : ∃ WA, W.alloc (.cells #[.int .i64 c, .string (Rn.arr f n), .int .i64 N] 23) = WA := ⟨_, rfl⟩
  obtain ⟨WB, hWB⟩ : ∃ WB, WA.alloc (.cells #[.int .i64 c', .string (Rn.arr f' n'), .int .i64 N'] 23) = WB := ⟨_, rfl⟩
  have hbA : Below W.heap.size W WA := by rw [← hWA]; exact (Below.refl _ _).alloc (Nat.le_refl _) _
  have hbB : Below WA.heap.size WA WB := by rw [← hWB]; exact (Below.refl _ _).alloc (Nat.le_refl _) _
  have hsA : WA.heap.size = W.heap.size + 1 := by rw [← hWA]; simp
  have hXA : Ht.Bx WA W.heap.size c (Rn.arr f n) N := ⟨by omega, by rw [← hWA]; simp, by rw [← hWA]; simp, by rw [← hWA]; simp⟩
  have hXB : Ht.Bx WB WA.heap.size c' (Rn.arr f' n') N' := ⟨by rw [← hWB]; simp, by rw [← hWB]; simp, by rw [← hWB]; simp, by rw [← hWB]; simp⟩
  have HX := hide' (hXA.below hbB)
  have HXP := hide' hXB
  have HWA := hide' hWA
  have HWB := hide' hWB
  have HB0 := hide' (hbA.trans (hbB.mono (by omega)))
  have HSA := hide' hsA
  have HF := hide' hf
  have HFP := hide' hf'
  have HNN := hide' (And.intro hn hn')
  have HS := hide' (And.intro hS (And.intro hok hlen))
  have RL := hide' (Wd.R_length f n 0 hf)
  have RLP := hide' (Wd.R_length f' n' 0 hf')
  obtain ⟨E, hE⟩ : ∃ E : Int, Ht.eno c N = E := ⟨_, rfl⟩
  have hE0 : (E != 0) = true := by rw [← hE]; simpa using he
  obtain ⟨E', hE'⟩ : ∃ E : Int, Ht.eno c' N' = E := ⟨_, rfl⟩
  have hE0' : (E' != 0) = true := by rw [← hE']; simpa using he'
  have CA := hide' (htAwake WB)
  clear hWA hWB hbA hbB hsA hXA hXB hS hok hlen
  go_enter Try.func3, Try.ntmps3
  go_wp2_with fail
  rw [HWA.out, HWB.out, ← HSA.out]
  refine CA.out.mono ?_
  rintro e w1 ⟨rfl, hb1⟩
  have HB1 := hide' (HB0.out.trans (hb1.mono HB0.out.size))
  have HX1 := hide' (HX.out.below hb1)
  have HXP1 := hide' (HXP.out.below hb1)
  have HZ : Hid (W.heap.size ≤ w1.heap.size) := HB1.out.size
  clear HX HXP CA hb1
  have HX := HX1
  have HXP := HXP1
  clear HX1 HXP1
  obtain ⟨-, q0, q1, q2⟩ := HX.out
  have C1 := hide' (prNewBad c N f n w1 he)
  rw [hE] at C1
  go_wp2_with fail
  refine C1.out.mono ?_
  rintro e w2 ⟨rfl, hw1⟩
  rw [hw1]
  clear hw1
  clear q0 q1 q2 C1
  obtain ⟨-, q0, q1, q2⟩ := HXP.out
  have C2 := hide' (prNewBad c' N' f' n' w1 he')
  rw [hE'] at C2
  go_wp2_with fail
  refine C2.out.mono ?_
  rintro e w3 ⟨rfl, hw2⟩
  rw [hw2]
  clear hw2
  clear q0 q1 q2 C2
  obtain ⟨-, q0, q1, q2⟩ := HX.out
  have C3 := hide' (prRefNewBad c N f n w1 he hf (by omega))
  rw [hE] at C3
  go_wp2_with fail
  refine C3.out.mono ?_
  rintro e w4 ⟨rfl, hb3⟩
  have HSZ3 := hide' hb3.size
  have HBn := hide' (HB1.out.trans (hb3.mono HB1.out.size))
  have HXn := hide' (HX.out.below hb3)
  have HXPn := hide' (HXP.out.below hb3)
  clear HB1 HX HXP hb3 q0 q1 q2 C3
  have HB1 := HBn
  have HX := HXn
  have HXP := HXPn
  clear HBn HXn HXPn
  obtain ⟨-, q0, q1, q2⟩ := HXP.out
  have C4 := hide' (prRefNewBad c' N' f' n' w4 he' hf' (by omega))
  rw [hE'] at C4
  go_wp2_with fail
  refine C4.out.mono ?_
  rintro e w5 ⟨rfl, hb4⟩
  have HSZ4 := hide' hb4.size
  have HBn := hide' (HB1.out.trans (hb4.mono HB1.out.size))
  have HXn := hide' (HX.out.below hb4)
  have HXPn := hide' (HXP.out.below hb4)
  clear HB1 HX HXP hb4 q0 q1 q2 C4
  have HB1 := HBn
  have HX := HXn
  have HXP := HXPn
  clear HBn HXn HXPn
  have hTwo : Ht.Two false false W w5 0 0 0 0 0 [] default default default 0 0 0 0 0 [] default default default 0 w5 := by
    refine ⟨HB1.out, HB1.out.size, (fun e => nomatch e), (fun e => nomatch e), .slice none 0 0, [], false, .slice none 0 0, [], false, (fun e => nomatch e), (fun e => nomatch e), (fun e => nomatch e)⟩
  have HT := hide' hTwo
  clear HSZ3 HSZ4 HZ HX HXP HB1 HB0 HWA HWB HSA hTwo
  go_wp2_with fail
  go_loopw [15] (fun i wr => ∃ a : Nat, i = .int .i64 a ∧ a ≤ len ∧ Hid (Ht.Two false false W w5 0 0 0 0 0 [] default default default 0 0 0 0 0 [] default default default a wr)) (fun i _ => len - (RowKit.intOf i).toNat)
  case atStart => exact ⟨0, rfl, Nat.zero_le _, HT⟩
  case round =>
    obtain ⟨a, rfl, han, H2⟩ := hrel
    by_cases hlt : a < len
    · have g1 : (a : Int) < len := by omega
      obtain ⟨b, o, e, hbl, hcl⟩ := HS.out.1 (by omega)
      subst e
      obtain ⟨k0, k1, k2⟩ := hcl a hlt
      obtain ⟨hsf, hsn⟩ := HS.out.2.1 a hlt
      have h20 : a < 1048576 := by have := HS.out.2.2; omega
      clear hcl
      generalize S a = s at k0 k1 k2 hsf hsn
      have hbW := H2.out.1
      have r0 := (hbW.cell (p := ⟨b, o + a * 3, none⟩) hbl).trans k0
      have r1 := (hbW.cell (p := ⟨b, o + a * 3 + 1, none⟩) hbl).trans k1
      have r2 := (hbW.cell (p := ⟨b, o + a * 3 + 2, none⟩) hbl).trans k2
      obtain ⟨kd, oth, sf, sn⟩ := s
      have hbx : Below wr.heap.size wr (wr.alloc (.cells #[.int .i64 kd, .bool oth, .string (Rn.arr sf sn)] 35)) := (Below.refl _ _).alloc (Nat.le_refl _) _
      have HMO := hide' (H2.out.more (Nat.le_succ a) hbx)
      clear k0 k1 k2 hsf hsn hbx hbW H2 HT
      cases oth
      · go_wp2_with fail
        go_roundw
        case rel => exact ⟨a + 1, by go_num, by omega, HMO⟩
        case measure => simp [RowKit.intOf]; omega
      · go_wp2_with fail
        go_roundw
        case rel => exact ⟨a + 1, by go_num, by omega, HMO⟩
        case measure => simp [RowKit.intOf]; omega
    · obtain rfl : a = len := by omega
      have g1 : ¬ (a : Int) < a := by omega
      obtain ⟨hbW, -, -, -, vc, L, wh, vcP, L', wh', h5, h6, -⟩ := H2.out
      have HBW := hide' hbW
      have N1 := hide' (fun w => htNilAdd ⟨#[]⟩ w)
      have N2 := hide' (fun w => htNilClose w)
      have N3 := hide' (fun w => htNilTruth w)
      have N4 := hide' (fun w => htNilKept w)
      clear h5 h6 hbW H2 HT HS
      go_wp2_with fail
      refine (N1.out _).mono ?_
      rintro e x1 ⟨rfl, rfl⟩
      go_wp2_with fail
      refine (N2.out _).mono ?_
      rintro e x2 ⟨rfl, rfl⟩
      go_wp2_with fail
      refine (N3.out _).mono ?_
      rintro e x3 ⟨rfl, rfl⟩
      go_wp2_with fail
      refine (N4.out _).mono ?_
      rintro e x4 ⟨rfl, rfl⟩
      go_wp2_with fail
      go_ret
      exact ⟨rfl, HBW.out⟩
end Go.Proofs.Ytgbldbohadacmaa
