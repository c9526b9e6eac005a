/-
  WALKS over refs.digit and refs.readNumber.
-/
import Derived.Test.YtbbbokkfhfmoeabDoorChTab
namespace Go.Proofs.YtbbbokkfhfmoeabDoor
open Go.RowKit Go.Lib

namespace Rf
/-- what a digit counts -/
def dv (x : Nat) : Nat := if 97 ≤ x then x - 97 + 10 else if 65 ≤ x then x - 65 + 10 else x - 48
/-- is it a digit of the class? -/
def isD (c : Nat) (x : Nat) : Bool := Ch.isT Ch.tab (c : Int) (x : Int)
theorem isD_dv : ∀ x : Fin 256, (isD 4 x = true → 48 ≤ x.val ∧ dv x < 10) ∧ (isD 5 x = true → 48 ≤ x.val ∧ dv x < 16) := by decide +kernel
/-- a number's digits from a place on, with what they came to so far: the character, how many bytes, how -/
def rn (f : Nat → Nat) (base c : Nat) : Nat → Nat → Nat → Nat × Nat × Nat
  | 0, _, _ => (0, 0, 1)
  | k + 1, at', v => if isD c (f at') = true then (if 1114111 < v * base + dv (f at') then (0, at', 2) else rn f base c k (at' + 1) (v * base + dv (f at'))) else if f at' = 59 ∧ Ch.isT Ch.tab 0 (v : Int) = true then (v, at' + 1, 0) else (0, at', 2)
theorem rn_succ (f : Nat → Nat) (base c k a v : Nat) : rn f base c (k + 1) a v = if isD c (f a) = true then (if 1114111 < v * base + dv (f a) then (0, a, 2) else rn f base c k (a + 1) (v * base + dv (f a))) else if f a = 59 ∧ Ch.isT Ch.tab 0 (v : Int) = true then (v, a + 1, 0) else (0, a, 2) := rfl
/-- the bases that there are -/
def Bas (base c : Nat) : Prop := (base = 10 ∧ c = 4) ∨ (base = 16 ∧ c = 5)
theorem Bas.dig {base c x : Nat} (h : Bas base c) (hx : x < 256) (hd : isD c x = true) : 48 ≤ x ∧ dv x < base := by
  have := isD_dv ⟨x, hx⟩
  rcases h with ⟨rfl, rfl⟩ | ⟨rfl, rfl⟩
  · exact this.1 hd
  · exact this.2 hd
/-- the answer of Read -/
def rdV (x : Nat × Nat × Nat) : Value := .tuple #[.int .i32 x.1, .int .i64 x.2.1, .int .i64 x.2.2]
end Rf

set_option maxHeartbeats 400000 in
theorem digit_any (x : Nat) (w : World) (h1 : 48 ≤ x) (h2 : x < 256) :
    Calls Tryd.prog 21 #[.int .u8 x] w fun e w' => e = .returned (.int .i32 (Rf.dv x)) ∧ w' = w := by
  by_cases a : 97 ≤ x
  · have e : Rf.dv x = x - 97 + 10 := by unfold Rf.dv; rw [if_pos a]
    rw [e]
    obtain ⟨y, rfl⟩ : ∃ y, x = 97 + y := ⟨x - 97, by omega⟩
    have g1 : (97 : Int) ≤ (97 + y : Nat) := by omega
    have g2 : IntKind.u8.wrap (((97 + y : Nat) : Int) - 97) = (y : Int) := by rw [IntKind.wrap_u8]; omega
    have g3 : IntKind.i32.wrap ((y : Int) + 10) = (y : Int) + 10 := by rw [IntKind.wrap_i32]; omega
    rw [show 97 + y - 97 + 10 = y + 10 by omega]
    clear e
    go_enter Tryd.func21, Tryd.ntmps21
    go_wp2
    go_ret
    exact ⟨by simp; omega, rfl⟩
  · by_cases b : 65 ≤ x
    · have e : Rf.dv x = x - 65 + 10 := by unfold Rf.dv; rw [if_neg a, if_pos b]
      rw [e]
      obtain ⟨y, rfl⟩ : ∃ y, x = 65 + y := ⟨x - 65, by omega⟩
      have g0 : ¬ (97 : Int) ≤ (65 + y : Nat) := by omega
      have g1 : (65 : Int) ≤ (65 + y : Nat) := by omega
      have g2 : IntKind.u8.wrap (((65 + y : Nat) : Int) - 65) = (y : Int) := by rw [IntKind.wrap_u8]; omega
      have g3 : IntKind.i32.wrap ((y : Int) + 10) = (y : Int) + 10 := by rw [IntKind.wrap_i32]; omega
      rw [show 65 + y - 65 + 10 = y + 10 by omega]
      clear e
      go_enter Tryd.func21, Tryd.ntmps21
      go_wp2
      go_ret
      exact ⟨by simp; omega, rfl⟩
    · have e : Rf.dv x = x - 48 := by unfold Rf.dv; rw [if_neg a, if_neg b]
      rw [e]
      obtain ⟨y, rfl⟩ : ∃ y, x = 48 + y := ⟨x - 48, by omega⟩
      have g0 : ¬ (97 : Int) ≤ (48 + y : Nat) := by omega
      have g1 : ¬ (65 : Int) ≤ (48 + y : Nat) := by omega
      have g2 : IntKind.u8.wrap (((48 + y : Nat) : Int) - 48) = (y : Int) := by rw [IntKind.wrap_u8]; omega
      rw [show 48 + y - 48 = y by omega]
      clear e
      go_enter Tryd.func21, Tryd.ntmps21
      go_wp2
      go_ret
      exact ⟨by simp; omega, rfl⟩

set_option maxHeartbeats 1000000 in
theorem readNumber_any (f : Nat → Nat) (pa : Option Addr) (n cap at0 base c : Nat) (w : World) (hS : Spans w) (hf : ∀ j, f j < 256) (hn : n ≤ 9223372036854775806) (hb : Rf.Bas base c) (hat : at0 ≤ n)
    (hpa : 0 < n → ∃ b o, pa = some ⟨b, o, none⟩ ∧ Bytes w b o n f ∧ b < w.heap.size) :
    Calls Tryd.prog 11 #[.slice pa n cap, .int .i64 at0, .int .i32 base, .int .i64 c] w fun e w' => e = .returned (Rf.rdV (Rf.rn f base c (n - at0) at0 0)) ∧ Below w.heap.size w w' := by
  have hb16 : base ≤ 16 := by rcases hb with ⟨rfl, _⟩ | ⟨rfl, _⟩ <;> decide
  have HS := hide' hS
  have HPA := hide' hpa
  clear hS hpa
  go_enter Tryd.func11, Tryd.ntmps11
  go_wp2
  go_loopw [1, 11] (fun a v wr => ∃ a' v' : Nat, a = .int .i64 a' ∧ v = .int .i32 v' ∧ a' ≤ n ∧ v' ≤ 1114111 ∧ Rf.rn f base c (n - a') a' v' = Rf.rn f base c (n - at0) at0 0 ∧ Below w.heap.size w wr) (fun a _ _ => n - (RowKit.intOf a).toNat)
  case atStart => exact ⟨at0, 0, rfl, rfl, hat, by omega, rfl, Below.refl _ _⟩
  case round =>
    obtain ⟨a, v, rfl, rfl, ha, hv, hr, hB⟩ := hrel
    by_cases hlt : a < n
    · have g1 : (a : Int) < n := by omega
      obtain ⟨b, o, rfl, hby, hbl⟩ := HPA.out (by omega)
      have hx := hby.below hB (Nat.le_refl _) a hlt
      obtain ⟨k, hk⟩ : ∃ k, n - a = k + 1 := ⟨n - a - 1, by omega⟩
      have hfa := hf a
      have hk2 : k = n - (a + 1) := by omega
      rw [hk] at hr
      rw [Rf.rn_succ] at hr
      rw [hk2] at hr
      have cI := is_any (c : Int) ((f a : Nat) : Int) wr (HS.out.below hB (Nat.le_refl _))
      clear hk hk2 hby
      by_cases hd : Rf.isD c (f a) = true
      · rw [if_pos hd] at hr
        obtain ⟨d1, d2⟩ := hb.dig hfa hd
        unfold Rf.isD at hd
        rw [hd] at cI
        have cD := fun W => digit_any (f a) W d1 hfa
        generalize hx0 : f a = x at *
        generalize hy0 : Rf.dv x = y at *
        have hm : v * base ≤ 1114111 * 16 := Nat.mul_le_mul hv hb16
        obtain ⟨z, hz⟩ : ∃ z, v * base = z := ⟨_, rfl⟩
        rw [hz] at hr hm
        have hz2 : (v : Int) * (base : Int) = (z : Int) := by rw [← hz]; simp
        have HR := hide' hr
        have HB := hide' hB
        clear hr hB hx0 hy0 hz hd HPA
        go_wp2_with fail
        refine cI.mono ?_
        rintro e w1 ⟨rfl, hb1⟩
        have hx1 := (hb1.cell (p := ⟨b, o + a, none⟩) (block_lt_of_cell hx)).trans hx
        have cD1 := cD w1
        clear cI cD hx
        go_wp2_with fail
        refine cD1.mono ?_
        rintro e w2 ⟨rfl, rfl⟩
        have hB2 := HB.out.trans (hb1.mono HB.out.size)
        clear cD1
        by_cases hg : 1114111 < z + y
        · have g2 : (1114111 : Int) < (z : Int) + (y : Int) := by omega
          go_wp2
          refine bodyPost_ret (v := Rf.rdV (0, a, 2)) (by simp [Rf.rdV, results, Tryd.results11, go_sem]) rfl ⟨?_, hB2⟩
          rw [← HR.out, if_pos hg]
        · have g2 : ¬ (1114111 : Int) < (z : Int) + (y : Int) := by omega
          go_wp2
          go_roundw
          case rel => exact ⟨a + 1, z + y, by go_num, by go_num, by omega, by omega, by rw [← HR.out, if_neg hg], hB2⟩
          case measure => simp [RowKit.intOf]; omega
      · rw [if_neg hd] at hr
        have hd' : Ch.isT Ch.tab (c : Int) ((f a : Nat) : Int) = false := by simpa [Rf.isD] using hd
        rw [hd'] at cI
        have hxn : ¬ (a : Int) = n := by omega
        generalize hx0 : f a = x at *
        have HR := hide' hr
        have HB := hide' hB
        clear hr hB hx0 hd hd' HPA
        go_wp2_with fail
        refine cI.mono ?_
        rintro e w1 ⟨rfl, hb1⟩
        have hx1 := (hb1.cell (p := ⟨b, o + a, none⟩) (block_lt_of_cell hx)).trans hx
        have hB1 := HB.out.trans (hb1.mono HB.out.size)
        have cA := is_any 0 (v : Int) w1 (HS.out.below hB1 (Nat.le_refl _))
        clear cI hx hb1
        by_cases h59 : x = 59
        · subst h59
          cases hall : Ch.isT Ch.tab 0 (v : Int)
          · rw [hall] at cA
            have HR2 := hide' HR.out
            rw [if_neg (by simp [hall])] at HR2
            go_wp2_with fail
            refine cA.mono ?_
            rintro e w2 ⟨rfl, hb2⟩
            go_wp2
            refine bodyPost_ret (v := Rf.rdV (0, a, 2)) (by simp [Rf.rdV, results, Tryd.results11, go_sem]) rfl ⟨?_, hB1.trans (hb2.mono hB1.size)⟩
            rw [← HR2.out]
          · rw [hall] at cA
            have HR2 := hide' HR.out
            rw [if_pos ⟨rfl, hall⟩] at HR2
            go_wp2_with fail
            refine cA.mono ?_
            rintro e w2 ⟨rfl, hb2⟩
            go_wp2
            refine bodyPost_ret (v := Rf.rdV (v, a + 1, 0)) (by simp [Rf.rdV, results, Tryd.results11, go_sem]) rfl ⟨?_, hB1.trans (hb2.mono hB1.size)⟩
            rw [← HR2.out]
        · have g5 : ((x : Int) == 59) = false := by simp; omega
          have HR2 := hide' HR.out
          rw [if_neg (fun h => h59 h.1)] at HR2
          go_wp2
          refine bodyPost_ret (v := Rf.rdV (0, a, 2)) (by simp [Rf.rdV, results, Tryd.results11, go_sem]) rfl ⟨?_, hB1⟩
          rw [← HR2.out]
    · obtain rfl : a = n := by omega
      have g1 : ¬ (a : Int) < a := by omega
      rw [Nat.sub_self] at hr
      have HR := hide' hr
      clear hr HPA
      go_wp2
      refine bodyPost_ret (v := Rf.rdV (0, 0, 1)) (by simp [Rf.rdV, results, Tryd.results11, go_sem]) rfl ⟨?_, hB⟩
      rw [← HR.out]
      rfl
end Go.Proofs.YtbbbokkfhfmoeabDoor
