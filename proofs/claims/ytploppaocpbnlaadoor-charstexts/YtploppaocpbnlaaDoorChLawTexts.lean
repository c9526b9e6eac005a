/-
  WALKS over the document's All, Name and Texts; THE WALK over gimletlaw02.CharsTexts: of any text.
-/
import Derived.Test.YtploppaocpbnlaaDoorChReadX
namespace Go.Proofs.YtploppaocpbnlaaDoor
open Go.RowKit Go.Lib

namespace Ch
theorem av_step (f : Nat → Nat) (n : Nat) (d : Int) (fuel p : Nat) (c : Int) (hf : ∀ j, f j < 256) (h : p < n) :
    (allFrom f n d (fuel + 1) p c && V f n p) = (Rn.whole (Rn.off f p) (n - p) && isR (rg c) (Rn.fv (Rn.off f p)) && (allFrom f n d fuel (p + Rn.fs (Rn.off f p) (n - p)) d && V f n (p + Rn.fs (Rn.off f p) (n - p)))) := by
  have hw := dec_wrong (Rn.off f p) (n - p) (fun _ => hf _) (by omega)
  have hd := Rn.dec_whole (Rn.off f p) (n - p) (fun _ => hf _) (by omega)
  rw [allFrom_step f n d fuel p c h, V_step f n p hf h, isT_eq]
  cases hc : Rn.whole (Rn.off f p) (n - p)
  · rw [if_pos (hw.2 hc)]
    simp
  · rw [if_neg (fun e => by rw [hw.1 e] at hc; cases hc)]
    rw [hc] at hd
    simp only [if_true] at hd
    rw [hd]
    simp only [Bool.true_and]
    rw [show rg c = pick tab c from rfl, Bool.and_assoc]
theorem av_end (f : Nat → Nat) (n : Nat) (d : Int) (fuel p : Nat) (c : Int) (h : ¬ p < n) : (allFrom f n d fuel p c && V f n p) = true := by
  rw [allFrom_end f n d fuel p c h, V_end f n p h]
  rfl
end Ch

set_option maxRecDepth 100000 in
set_option maxHeartbeats 2000000 in
theorem refAll_any (f : Nat → Nat) (n : Nat) (c0 d : Int) (w : World) (hf : ∀ j, f j < 256) (hn : n ≤ 4611686018427387904) :
    Calls Tryd.prog 29 #[.string (Rn.arr f n), .int .i64 c0, .int .i64 d] w fun e w' => e = .returned (.bool (Ch.allFrom f n d n 0 c0 && Ch.V f n 0)) ∧ Below w.heap.size w w' := by
  have hsz := Rn.arr_size f n
  obtain ⟨R, hR⟩ : ∃ R, (Ch.allFrom f n d n 0 c0 && Ch.V f n 0) = R := ⟨_, rfl⟩
  rw [hR]
  have HR := hide' hR
  clear hR
  go_enter Tryd.func29, Tryd.ntmps29
  go_wp2_with fail
  go_loopw [7, 8] (fun a b wr => ∃ (p fuel : Nat) (c : Int), a = .int .i64 c ∧ b = .int .i64 p ∧ p ≤ n ∧ n ≤ p + fuel ∧ Hid ((Ch.allFrom f n d fuel p c && Ch.V f n p) = R) ∧ Below w.heap.size w wr) (fun _ b _ => n - (RowKit.intOf b).toNat)
  case atStart => exact ⟨0, n, c0, rfl, rfl, Nat.zero_le _, by omega, HR, Below.refl _ _⟩
  case round =>
    clear HR
    obtain ⟨p, fuel, c, rfl, rfl, hp, hfu, hav, hB⟩ := hrel
    by_cases hlt : p < n
    · have hlti : (p : Int) < (n : Int) := by omega
      obtain ⟨fu, rfl⟩ : ∃ fu, fuel = fu + 1 := ⟨fuel - 1, by omega⟩
      have hs := Ch.av_step f n d fu p c hf hlt
      rw [hav.out] at hs
      have cR := read_any f n p wr hf hn hlt
      have hfl := Rn.fk_le (Rn.off f p) (n - p)
      have hs4 := Rn.fs_le (Rn.off f p) (n - p)
      cases hw : Rn.whole (Rn.off f p) (n - p)
      · rw [hw, Bool.false_and, Bool.false_and] at hs
        rw [Ch.rd_no hw] at cR
        subst hs
        clear hw hav hfl hs4
        go_wp2_with fail
        refine cR.mono ?_
        rintro e w1 ⟨rfl, hb1⟩
        have hB1 := hB.trans (hb1.mono hB.size)
        clear cR
        go_wp2_with fail
        go_ret
        exact ⟨rfl, hB1⟩
      · rw [hw, Bool.true_and] at hs
        rw [Ch.rd_yes hw] at cR
        have hw' := hw
        simp only [Rn.whole, decide_eq_true_eq] at hw'
        have h0 : 0 < Rn.fs (Rn.off f p) (n - p) := by omega
        have h1 : p + Rn.fs (Rn.off f p) (n - p) ≤ n := by omega
        have cI := fun w1 => refIs_any c (Rn.fv (Rn.off f p) : Int) w1
        clear hw' hw hav hfl
        generalize Rn.fs (Rn.off f p) (n - p) = k at *
        generalize ((Rn.fv (Rn.off f p) : Nat) : Int) = v at *
        have hk0 : ((k : Int) == 0) = false := by simp; omega
        have HS := hide' hs
        clear hs
        cases hI : Ch.isR (Ch.rg c) v
        · rw [hI] at cI
          have hs := HS.out
          rw [hI, Bool.false_and] at hs
          subst hs
          clear hI HS
          go_wp2_with fail
          refine cR.mono ?_
          rintro e w1 ⟨rfl, hb1⟩
          have hB1 := hB.trans (hb1.mono hB.size)
          clear cR
          go_wp2_with fail
          refine (cI w1).mono ?_
          rintro e w2 ⟨rfl, hb2⟩
          have hB2 := hB1.trans (hb2.mono hB1.size)
          clear cI
          go_wp2_with fail
          go_ret
          exact ⟨rfl, hB2⟩
        · rw [hI] at cI
          have hs := HS.out
          rw [hI, Bool.true_and] at hs
          have HS2 := hide' hs.symm
          clear hI HS hs
          go_wp2_with fail
          refine cR.mono ?_
          rintro e w1 ⟨rfl, hb1⟩
          have hB1 := hB.trans (hb1.mono hB.size)
          clear cR
          go_wp2_with fail
          refine (cI w1).mono ?_
          rintro e w2 ⟨rfl, hb2⟩
          have hB2 := hB1.trans (hb2.mono hB1.size)
          clear cI
          go_wp2_with fail
          go_roundw
          case rel => exact ⟨p + k, fu, d, rfl, by go_num, by omega, by omega, HS2, hB2⟩
          case measure => simp [RowKit.intOf]; omega
    · have he := hav.out
      rw [Ch.av_end f n d fuel p c hlt] at he
      subst he
      have hlti : ¬ (p : Int) < (n : Int) := by omega
      clear hav
      go_wp2_with fail
      go_ret
      exact ⟨rfl, hB⟩

theorem refTexts_any (f : Nat → Nat) (n : Nat) (w : World) (hf : ∀ j, f j < 256) (hn : n ≤ 4611686018427387904) :
    Calls Tryd.prog 21 #[.string (Rn.arr f n)] w fun e w' => e = .returned (.bool (Ch.allFrom f n 0 n 0 0 && Ch.V f n 0)) ∧ Below w.heap.size w w' := by
  have c := refAll_any f n 0 0 w hf hn
  generalize (Ch.allFrom f n 0 n 0 0 && Ch.V f n 0) = R at *
  go_enter Tryd.func21, Tryd.ntmps21
  go_wp2_with fail
  refine c.mono ?_
  rintro e w1 ⟨rfl, hb1⟩
  go_wp2_with fail
  go_ret
  exact ⟨rfl, hb1⟩

theorem refName_any (f : Nat → Nat) (n : Nat) (w : World) (hf : ∀ j, f j < 256) (hn : n ≤ 4611686018427387904) :
    Calls Tryd.prog 19 #[.string (Rn.arr f n)] w fun e w' => e = .returned (.bool (decide (0 < n) && (Ch.allFrom f n 3 n 0 2 && Ch.V f n 0))) ∧ Below w.heap.size w w' := by
  have c := refAll_any f n 2 3 w hf hn
  have hem := Rn.arr_empty f n
  generalize (Ch.allFrom f n 3 n 0 2 && Ch.V f n 0) = R at *
  by_cases h0 : 0 < n
  · rw [decide_eq_true h0, Bool.true_and]
    rw [decide_eq_false (show ¬ n = 0 by omega)] at hem
    go_enter Tryd.func19, Tryd.ntmps19
    go_wp2_with fail
    refine c.mono ?_
    rintro e w1 ⟨rfl, hb1⟩
    go_wp2_with fail
    go_ret
    exact ⟨rfl, hb1⟩
  · rw [decide_eq_false h0, Bool.false_and]
    rw [decide_eq_true (show n = 0 by omega)] at hem
    clear c
    go_enter Tryd.func19, Tryd.ntmps19
    go_wp2_with fail
    go_ret
    exact ⟨rfl, Below.refl _ _⟩

set_option maxRecDepth 100000 in
set_option maxHeartbeats 2000000 in
theorem lawTexts_any (f : Nat → Nat) (n : Nat) (w : World) (hf : ∀ j, f j < 256) (hn : n ≤ 4611686018427387904) (hS : Spans w) (hT : Lib.Utf8Tabs 1 2 w) :
    Calls Tryd.prog 5 #[.string (Rn.arr f n)] w fun e w' => e = .returned (.bool true) ∧ Below w.heap.size w w' := by
  have cF := fixed_any w hS hT
  have cM : ∀ w1, Below w.heap.size w w1 → _ := fun w1 hb => name_any f n w1 hf (by omega) (hS.below hb (Nat.le_refl _)) (tabs_below hT hb (Nat.le_refl _))
  have cX : ∀ w1, Below w.heap.size w w1 → _ := fun w1 hb => texts_any f n w1 hf (by omega) (hS.below hb (Nat.le_refl _)) (tabs_below hT hb (Nat.le_refl _))
  have dM := fun w1 => refName_any f n w1 hf hn
  have dX := fun w1 => refTexts_any f n w1 hf hn
  rw [Ch.V_zero] at dM dX
  have e1 : (decide (0 < n) && (Ch.allFrom f n 3 n 0 2 && Ch.valid f n)) = (Ch.allFrom f n 3 n 0 2 && (decide (0 < n) && Ch.valid f n)) := by
    cases decide (0 < n) <;> cases Ch.allFrom f n 3 n 0 2 <;> rfl
  rw [e1] at dM
  clear hS hT e1
  generalize (Ch.allFrom f n 3 n 0 2 && (decide (0 < n) && Ch.valid f n)) = M at *
  generalize (Ch.allFrom f n 0 n 0 0 && Ch.valid f n) = X at *
  have t1 : (M == M) = true := by simp
  have t2 : (X == X) = true := by simp
  go_enter Tryd.func5, Tryd.ntmps5
  go_wp2_with fail
  refine cF.mono ?_
  rintro e w1 ⟨rfl, hb1⟩
  go_wp2_with fail
  refine (cM w1 hb1).mono ?_
  rintro e w2 ⟨rfl, hb2⟩
  have hB2 := hb1.trans (hb2.mono hb1.size)
  go_wp2_with fail
  refine (dM w2).mono ?_
  rintro e w3 ⟨rfl, hb3⟩
  have hB3 := hB2.trans (hb3.mono hB2.size)
  go_wp2_with fail
  refine (cX w3 hB3).mono ?_
  rintro e w4 ⟨rfl, hb4⟩
  have hB4 := hB3.trans (hb4.mono hB3.size)
  go_wp2_with fail
  refine (dX w4).mono ?_
  rintro e w5 ⟨rfl, hb5⟩
  have hB5 := hB4.trans (hb5.mono hB4.size)
  go_wp2_with fail
  go_ret
  exact ⟨ret_bool (by simp), hB5⟩
end Go.Proofs.YtploppaocpbnlaaDoor
