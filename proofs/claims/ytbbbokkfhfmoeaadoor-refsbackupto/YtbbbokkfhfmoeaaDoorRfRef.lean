/-
  WALKS over the document's digit, allowed, goesOn and Number.
-/
import Derived.Test.YtbbbokkfhfmoeaaDoorRfGoOn
import Derived.Test.YtbbbokkfhfmoeaaDoorChRef
namespace Go.Proofs.YtbbbokkfhfmoeaaDoor
open Go.RowKit Go.Lib

namespace Rf
theorem isD_iff : ∀ x : Fin 256, isD 4 x.val = decide (48 ≤ x.val ∧ x.val ≤ 57) ∧ isD 5 x.val = decide ((48 ≤ x.val ∧ x.val ≤ 57) ∨ (65 ≤ x.val ∧ x.val ≤ 70) ∨ (97 ≤ x.val ∧ x.val ≤ 102)) := by decide +kernel
/-- a digit's value, or -1 -/
def dgt (c x : Nat) : Int := if isD c x = true then (dv x : Int) else -1
theorem Bas.dgt_num {base c x : Nat} (hb : Bas base c) (h : 48 ≤ x ∧ x ≤ 57) : dgt c x = ((x - 48 : Nat) : Int) := by
  have k := isD_iff ⟨x, by omega⟩
  have hd : isD c x = true := by
    rcases hb with ⟨_, rfl⟩ | ⟨_, rfl⟩
    · rw [k.1]; simp; omega
    · rw [k.2]; simp; omega
  unfold dgt dv
  rw [if_pos hd, if_neg (by omega), if_neg (by omega)]
theorem Bas.dgt_low {base c x : Nat} (hb : Bas base c) (h : 97 ≤ x ∧ x ≤ 102) : dgt c x = if base = 16 then ((x - 97 + 10 : Nat) : Int) else -1 := by
  have k := isD_iff ⟨x, by omega⟩
  rcases hb with ⟨rfl, rfl⟩ | ⟨rfl, rfl⟩
  · have hd : isD 4 x = false := by rw [k.1]; simp; omega
    unfold dgt; rw [if_neg (by rw [hd]; decide), if_neg (by decide)]
  · have hd : isD 5 x = true := by rw [k.2]; simp; omega
    unfold dgt dv; rw [if_pos hd, if_pos rfl, if_pos h.1]
theorem Bas.dgt_up {base c x : Nat} (hb : Bas base c) (h : 65 ≤ x ∧ x ≤ 70) : dgt c x = if base = 16 then ((x - 65 + 10 : Nat) : Int) else -1 := by
  have k := isD_iff ⟨x, by omega⟩
  rcases hb with ⟨rfl, rfl⟩ | ⟨rfl, rfl⟩
  · have hd : isD 4 x = false := by rw [k.1]; simp; omega
    unfold dgt; rw [if_neg (by rw [hd]; decide), if_neg (by decide)]
  · have hd : isD 5 x = true := by rw [k.2]; simp; omega
    unfold dgt dv; rw [if_pos hd, if_pos rfl, if_neg (by omega), if_pos h.1]
theorem Bas.dgt_no {base c x : Nat} (hb : Bas base c) (hx : x < 256) (h1 : ¬ (48 ≤ x ∧ x ≤ 57)) (h2 : ¬ (97 ≤ x ∧ x ≤ 102)) (h3 : ¬ (65 ≤ x ∧ x ≤ 70)) : dgt c x = -1 := by
  have k := isD_iff ⟨x, hx⟩
  have hd : isD c x = false := by
    rcases hb with ⟨_, rfl⟩ | ⟨_, rfl⟩
    · rw [k.1]; simp; omega
    · rw [k.2]; simp; omega
  unfold dgt; rw [if_neg (by rw [hd]; decide)]
/-- the number of digits; none: one of them is no digit -/
def nb (base c : Nat) : List UInt8 → Nat → Option Nat
  | [], v => some v
  | x :: r, v => if isD c x.toNat = true then nb base c r (min (v * base + dv x.toNat) 1114112) else none
def nbV (o : Option Nat) : Value := .tuple #[.int .i64 (o.getD 0 : Nat), .bool o.isSome]
end Rf

set_option maxHeartbeats 1000000 in
theorem refDigit5_any {base c : Nat} (hb : Rf.Bas base c) (x : Nat) (hx : x < 256) (w : World) :
    Calls Tryd.prog 49 #[.int .u8 x, .int .i64 base] w fun e w' => e = .returned (.int .i64 (Rf.dgt c x)) ∧ w' = w := by
  by_cases h1 : 48 ≤ x ∧ x ≤ 57
  · rw [hb.dgt_num h1]
    obtain ⟨y, rfl⟩ : ∃ y, x = 48 + y := ⟨x - 48, by omega⟩
    have g1 : (48 : Int) ≤ ((48 + y : Nat) : Int) := by omega
    have g2 : ((48 + y : Nat) : Int) ≤ 57 := by omega
    have g3 : IntKind.u8.wrap (((48 + y : Nat) : Int) - 48) = (y : Int) := by rw [IntKind.wrap_u8]; omega
    have g4 : ¬ (base : Int) ≤ (y : Int) := by rcases hb with ⟨rfl, _⟩ | ⟨rfl, _⟩ <;> omega
    rw [show 48 + y - 48 = y by omega]
    clear h1
    go_enter Tryd.func49, Tryd.ntmps49
    go_wp2
    go_ret
    exact ⟨by simp; try omega, rfl⟩
  · by_cases h2 : 97 ≤ x ∧ x ≤ 102
    · rw [hb.dgt_low h2]
      obtain ⟨y, rfl⟩ : ∃ y, x = 97 + y := ⟨x - 97, by omega⟩
      have k1 : (48 : Int) ≤ ((97 + y : Nat) : Int) := by omega
      have k2 : ¬ ((97 + y : Nat) : Int) ≤ 57 := by omega
      have g1 : (97 : Int) ≤ ((97 + y : Nat) : Int) := by omega
      have g2 : ((97 + y : Nat) : Int) ≤ 102 := by omega
      have g3 : IntKind.u8.wrap (((97 + y : Nat) : Int) - 97) = (y : Int) := by rw [IntKind.wrap_u8]; omega
      rw [show 97 + y - 97 + 10 = y + 10 by omega]
      clear h1 h2
      rcases hb with ⟨rfl, _⟩ | ⟨rfl, _⟩
      · have g4 : (10 : Int) ≤ (y : Int) + 10 := by omega
        go_enter Tryd.func49, Tryd.ntmps49
        go_wp2
        go_ret
        exact ⟨by simp, rfl⟩
      · have g4 : ¬ (16 : Int) ≤ (y : Int) + 10 := by omega
        go_enter Tryd.func49, Tryd.ntmps49
        go_wp2
        go_ret
        exact ⟨by simp; try omega, rfl⟩
    · by_cases h3 : 65 ≤ x ∧ x ≤ 70
      · rw [hb.dgt_up h3]
        obtain ⟨y, rfl⟩ : ∃ y, x = 65 + y := ⟨x - 65, by omega⟩
        have k1 : (48 : Int) ≤ ((65 + y : Nat) : Int) := by omega
        have k2 : ¬ ((65 + y : Nat) : Int) ≤ 57 := by omega
        have k3 : ¬ (97 : Int) ≤ ((65 + y : Nat) : Int) := by omega
        have g1 : (65 : Int) ≤ ((65 + y : Nat) : Int) := by omega
        have g2 : ((65 + y : Nat) : Int) ≤ 70 := by omega
        have g3 : IntKind.u8.wrap (((65 + y : Nat) : Int) - 65) = (y : Int) := by rw [IntKind.wrap_u8]; omega
        rw [show 65 + y - 65 + 10 = y + 10 by omega]
        clear h1 h2 h3
        rcases hb with ⟨rfl, _⟩ | ⟨rfl, _⟩
        · have g4 : (10 : Int) ≤ (y : Int) + 10 := by omega
          go_enter Tryd.func49, Tryd.ntmps49
          go_wp2
          go_ret
          exact ⟨by simp, rfl⟩
        · have g4 : ¬ (16 : Int) ≤ (y : Int) + 10 := by omega
          go_enter Tryd.func49, Tryd.ntmps49
          go_wp2
          go_ret
          exact ⟨by simp; try omega, rfl⟩
      · rw [hb.dgt_no hx h1 h2 h3]
        have g4 : ¬ (base : Int) ≤ -1 := by omega
        by_cases q1 : 48 ≤ x
        · have k1 : (48 : Int) ≤ (x : Int) := by omega
          have k2 : ¬ (x : Int) ≤ 57 := by omega
          by_cases q2 : 97 ≤ x
          · have k3 : (97 : Int) ≤ (x : Int) := by omega
            have k4 : ¬ (x : Int) ≤ 102 := by omega
            have k5 : (65 : Int) ≤ (x : Int) := by omega
            have k6 : ¬ (x : Int) ≤ 70 := by omega
            clear h1 h2 h3
            go_enter Tryd.func49, Tryd.ntmps49
            go_wp2
            go_ret
            exact ⟨rfl, rfl⟩
          · have k3 : ¬ (97 : Int) ≤ (x : Int) := by omega
            by_cases q3 : 65 ≤ x
            · have k5 : (65 : Int) ≤ (x : Int) := by omega
              have k6 : ¬ (x : Int) ≤ 70 := by omega
              clear h1 h2 h3
              go_enter Tryd.func49, Tryd.ntmps49
              go_wp2
              go_ret
              exact ⟨rfl, rfl⟩
            · have k5 : ¬ (65 : Int) ≤ (x : Int) := by omega
              clear h1 h2 h3
              go_enter Tryd.func49, Tryd.ntmps49
              go_wp2
              go_ret
              exact ⟨rfl, rfl⟩
        · have k1 : ¬ (48 : Int) ≤ (x : Int) := by omega
          have k3 : ¬ (97 : Int) ≤ (x : Int) := by omega
          have k5 : ¬ (65 : Int) ≤ (x : Int) := by omega
          clear h1 h2 h3
          go_enter Tryd.func49, Tryd.ntmps49
          go_wp2
          go_ret
          exact ⟨rfl, rfl⟩

theorem refAllowed_any (v : Nat) (w : World) :
    Calls Tryd.prog 42 #[.int .i64 v] w fun e w' => e = .returned (.bool (Ch.isT Ch.tab 0 (v : Int))) ∧ Below w.heap.size w w' := by
  have c := refIs_any 0 (v : Int) w
  rw [show Ch.isR (Ch.rg 0) (v : Int) = Ch.isT Ch.tab 0 (v : Int) from (Ch.isT_eq Ch.tab 0 v).symm] at c
  go_enter Tryd.func42, Tryd.ntmps42
  go_wp2_with fail
  refine c.mono ?_
  rintro e w1 ⟨rfl, hb1⟩
  go_wp2
  go_ret
  exact ⟨rfl, hb1⟩

set_option maxHeartbeats 1000000 in
theorem refGoesOn_any {base : Nat} (hb : base = 10 ∨ base = 16) : ∀ (k v : Nat) (w : World), v ≤ 20000000 → 1114112 - v ≤ k →
    Calls Tryd.prog 41 #[.int .i64 v, .int .i64 base] w fun e w' => e = .returned (.bool (decide (v ≤ 1114111))) ∧ Below w.heap.size w w'
  | k, v, w, hv, hk => by
    by_cases h1 : v ≤ 1114111
    · have g1 : ¬ (1114111 : Int) < (v : Int) := by omega
      have cA := refAllowed_any v w
      rw [show decide (v ≤ 1114111) = true by simp; omega]
      by_cases h2 : Ch.isT Ch.tab 0 (v : Int) = true
      · rw [h2] at cA
        go_enter Tryd.func41, Tryd.ntmps41
        go_wp2_with fail
        refine cA.mono ?_
        rintro e w1 ⟨rfl, hb1⟩
        go_wp2
        go_ret
        exact ⟨rfl, hb1⟩
      · have h3 := h2
        rw [Rf.isT0] at h3
        simp only [decide_eq_true_eq] at h3
        rw [show Ch.isT Ch.tab 0 (v : Int) = false by simpa using h2] at cA
        by_cases h0 : v = 0
        · subst h0
          go_enter Tryd.func41, Tryd.ntmps41
          go_wp2_with fail
          refine cA.mono ?_
          rintro e w1 ⟨rfl, hb1⟩
          go_wp2
          go_ret
          exact ⟨rfl, hb1⟩
        · have hle : v * base ≤ 1114111 ∧ v < v * base := by rcases hb with rfl | rfl <;> omega
          have g2 : ((v : Int) == 0) = false := by simp; omega
          obtain ⟨z, hz⟩ : ∃ z, v * base = z := ⟨_, rfl⟩
          rw [hz] at hle
          have hzi : (v : Int) * (base : Int) = (z : Int) := by rw [← hz]; simp
          have g3 : (0 : Int) < (base : Int) := by omega
          match k, hk with
          | 0, hk => omega
          | k + 1, hk =>
            have cR := fun W => refGoesOn_any hb k z W (by omega) (by omega)
            simp only [show decide (z ≤ 1114111) = true by simp; omega] at cR
            clear h2 h3
            go_enter Tryd.func41, Tryd.ntmps41
            go_wp2_with fail
            refine cA.mono ?_
            rintro e w1 ⟨rfl, hb1⟩
            clear cA
            go_wp2
            go_loopw [5] (fun d wr => d = .int .i64 0 ∧ wr = w1) (fun _ _ => 0)
            case atStart => exact ⟨rfl, rfl⟩
            case round =>
              obtain ⟨rfl, rfl⟩ := hrel
              have cR1 := cR wr
              clear cR
              go_wp2_with fail
              refine cR1.mono ?_
              rintro e w2 ⟨rfl, hb2⟩
              go_wp2
              go_ret
              exact ⟨rfl, hb1.trans (hb2.mono hb1.size)⟩
    · have g1 : (1114111 : Int) < (v : Int) := by omega
      rw [show decide (v ≤ 1114111) = false by simp; omega]
      go_enter Tryd.func41, Tryd.ntmps41
      go_wp2
      go_ret
      exact ⟨rfl, Below.refl _ _⟩
termination_by k => k

set_option maxHeartbeats 1000000 in
theorem refNumber_any {base c : Nat} (hb : Rf.Bas base c) (l : List UInt8) (w : World) (hl : l.length ≤ 9223372036854775806) :
    Calls Tryd.prog 40 #[.string ⟨l.toArray⟩, .int .i64 base] w fun e w' => e = .returned (Rf.nbV (Rf.nb base c l 0)) ∧ w' = w := by
  have hb16 : base ≤ 16 := by rcases hb with ⟨rfl, _⟩ | ⟨rfl, _⟩ <;> decide
  obtain ⟨n, hn⟩ : ∃ n, l.length = n := ⟨_, rfl⟩
  go_enter Tryd.func40, Tryd.ntmps40
  go_wp2
  go_loopw [6, 7] (fun v i wr => ∃ v' i' : Nat, v = .int .i64 v' ∧ i = .int .i64 i' ∧ v' ≤ 1114112 ∧ i' ≤ n ∧ Hid (Rf.nb base c (l.drop i') v' = Rf.nb base c l 0) ∧ wr = w) (fun _ i _ => n - (RowKit.intOf i).toNat)
  case atStart => exact ⟨0, 0, rfl, rfl, by omega, Nat.zero_le _, rfl, rfl⟩
  case round =>
    obtain ⟨v, i, rfl, rfl, hv, hin, hE, rfl⟩ := hrel
    by_cases hlt : i < n
    · have g1 : (i : Int) < n := by omega
      have hil : i < l.length := by omega
      obtain ⟨y, hy⟩ : ∃ y, l[i]'hil = y := ⟨_, rfl⟩
      have hix : ∀ h : i < (ByteArray.mk l.toArray).size, (ByteArray.mk l.toArray)[i]'h = y := fun h => strIndex l i hil y hy h
      have hst : Rf.nb base c (l.drop i) v = if Rf.isD c y.toNat = true then Rf.nb base c (l.drop (i + 1)) (min (v * base + Rf.dv y.toNat) 1114112) else none := by
        rw [List.drop_eq_getElem_cons hil, hy]
        rfl
      rw [hE.out] at hst
      have cD := refDigit5_any hb y.toNat y.toNat_lt wr
      by_cases hd : Rf.isD c y.toNat = true
      · rw [if_pos hd] at hst
        have hdv := (hb.dig y.toNat_lt hd).2
        rw [show Rf.dgt c y.toNat = ((Rf.dv y.toNat : Nat) : Int) by unfold Rf.dgt; rw [if_pos hd]] at cD
        generalize Rf.dv y.toNat = d at *
        have hm : v * base ≤ 1114112 * 16 := Nat.mul_le_mul hv hb16
        obtain ⟨z, hz⟩ : ∃ z, v * base = z := ⟨_, rfl⟩
        rw [hz] at hst hm
        have hzi : (v : Int) * (base : Int) = (z : Int) := by rw [← hz]; simp
        have g2 : ¬ (d : Int) < 0 := by omega
        have HST := hide' hst
        clear hst hE hd hy hz
        go_wp2_with fail
        refine cD.mono ?_
        rintro e w1 ⟨rfl, rfl⟩
        clear cD
        go_wp2
        go_roundw
        case rel => exact ⟨min (z + d) 1114112, i + 1, congrArg (Value.int .i64) (by omega), by go_num, by omega, by omega, HST.out.symm, trivial⟩
        case measure => simp [RowKit.intOf]; omega
      · rw [if_neg hd] at hst
        rw [show Rf.dgt c y.toNat = -1 by unfold Rf.dgt; rw [if_neg hd]] at cD
        have HST := hide' hst
        clear hst hE hd hy
        go_wp2_with fail
        refine cD.mono ?_
        rintro e w1 ⟨rfl, rfl⟩
        clear cD
        go_wp2
        refine bodyPost_ret (v := Rf.nbV none) (by simp [Rf.nbV, results, Tryd.results40, go_sem]) rfl ⟨by rw [HST.out], rfl⟩
    · obtain rfl : i = n := by omega
      have g1 : ¬ (i : Int) < i := by omega
      have hst : Rf.nb base c (l.drop i) v = some v := by
        rw [List.drop_eq_nil_of_le (by omega)]
        rfl
      rw [hE.out] at hst
      have HST := hide' hst
      clear hst hE
      go_wp2
      refine bodyPost_ret (v := Rf.nbV (some v)) (by simp [Rf.nbV, results, Tryd.results40, go_sem]) rfl ⟨by rw [HST.out], rfl⟩
end Go.Proofs.YtbbbokkfhfmoeaaDoor
