/-
  THE WALK over chars.Begins.
-/
import Derived.Test.YtploppaocpbnlaaDoorChComp
namespace Go.Proofs.YtploppaocpbnlaaDoor
open Go.RowKit Go.Lib

namespace Ch
/-- what Begins answers -/
def low (f : Nat → Nat) (n : Nat) : Nat := Rn.fv (goOn f n (Rn.lo (f 0)) 128)
def high (f : Nat → Nat) (n : Nat) : Nat := Rn.fv (goOn f n (Rn.hi (f 0)) 191)
def begP (c : Int) (f : Nat → Nat) (n : Nat) : Bool := if 0 < n ∧ Rn.fk f n = n then ((nextT tab c ((low f n : Int) - 1)).2 && decide ((nextT tab c ((low f n : Int) - 1)).1 ≤ (high f n : Int))) else false
theorem goOn_lt (f : Nat → Nat) (hf : ∀ j, f j < 256) (n y x : Nat) (hy : y < 256) (hx : x < 256) : ∀ j, goOn f n y x j < 256 := by
  intro j
  unfold goOn
  split
  · exact hf j
  · split <;> omega
theorem lo_hi (b : Nat) : 128 ≤ Rn.lo b ∧ Rn.lo b ≤ Rn.hi b ∧ Rn.hi b ≤ 191 := by
  unfold Rn.lo Rn.hi
  repeat' split
  all_goals omega
theorem low_lt (f : Nat → Nat) (n : Nat) (hf : ∀ j, f j < 256) : low f n < 2097152 := Rn.fv_le _ (goOn_lt f hf n _ _ (by have := lo_hi (f 0); omega) (by omega))
theorem high_lt (f : Nat → Nat) (n : Nat) (hf : ∀ j, f j < 256) : high f n < 2097152 := Rn.fv_le _ (goOn_lt f hf n _ _ (by have := lo_hi (f 0); omega) (by omega))
end Ch

/-- a slice of bytes as a call takes it -/
def SlAt (w : World) (v : Value) (n : Nat) (f : Nat → Nat) : Prop := (v = .slice none 0 0 ∧ n = 0) ∨ ∃ b o cap, v = .slice (some ⟨b, o, none⟩) n cap ∧ n ≤ cap ∧ cap ≤ maxLen ∧ Bytes w b o n f

set_option maxRecDepth 100000 in
set_option maxHeartbeats 2000000 in
theorem begins_any (c : Int) (v : Value) (f : Nat → Nat) (n : Nat) (w : World) (hf : ∀ j, f j < 256) (hS : Spans w) (hT : Lib.Utf8Tabs 1 2 w) (hv : SlAt w v n f) :
    Calls Tryd.prog 16 #[.int .i64 c, v] w fun e w' => e = .returned (.bool (Ch.begP c f n)) ∧ Below w.heap.size w w' := by
  rcases hv with ⟨rfl, rfl⟩ | ⟨b, o, cap, rfl, hc, hm, hby⟩
  · have cN := next_nil w
    rw [show Ch.begP c f 0 = false from by unfold Ch.begP; rw [if_neg (by omega)]]
    go_enter Tryd.func16, Tryd.ntmps16
    go_wp2_with fail
    refine cN.mono ?_
    rintro e w1 ⟨rfl, rfl⟩
    go_wp2_with fail
    go_ret
    exact ⟨rfl, Below.refl _ _⟩
  by_cases h0 : n = 0
  · subst h0
    have cN := next_done b o 0 cap w hc hm
    rw [show Ch.begP c f 0 = false from by unfold Ch.begP; rw [if_neg (by omega)]]
    go_enter Tryd.func16, Tryd.ntmps16
    go_wp2_with fail
    refine cN.mono ?_
    rintro e w1 ⟨rfl, rfl⟩
    go_wp2_with fail
    go_ret
    exact ⟨rfl, Below.refl _ _⟩
  have cN := next_first f n b o cap w hT hf (by omega) hc hm hby
  have hgood := Ch.good_iff f n (by omega)
  have hn9 : n ≤ 9223372036854775807 := by unfold maxLen at hm; omega
  by_cases hk : Rn.fk f n = n
  · have cL : ∀ w1, Below w.heap.size w w1 → _ := fun w1 hb => compLow_any f n b o cap w1 hf (tabs_below hT hb (Nat.le_refl _)) (hby.below hb (Nat.le_refl _)) (by omega) hk
    have cH : ∀ w1, Below w.heap.size w w1 → _ := fun w1 hb => compHigh_any f n b o cap w1 hf (tabs_below hT hb (Nat.le_refl _)) (hby.below hb (Nat.le_refl _)) (by omega) hk
    have hl := Ch.low_lt f n hf
    have hh := Ch.high_lt f n hf
    have cX : ∀ w1, Below w.heap.size w w1 → _ := fun w1 hb => chNext_any c ((Ch.low f n : Int) - 1) w1 (hS.below hb (Nat.le_refl _)) (by omega)
    rw [show Ch.begP c f n = ((Ch.nextT Ch.tab c ((Ch.low f n : Int) - 1)).2 && decide ((Ch.nextT Ch.tab c ((Ch.low f n : Int) - 1)).1 ≤ (Ch.high f n : Int))) from by unfold Ch.begP; rw [if_pos ⟨by omega, hk⟩]]
    replace cL : ∀ w1, Below w.heap.size w w1 → Calls Tryd.prog 26 #[.slice (some ⟨b, o, none⟩) n cap, .int .u8 128, .int .i64 1] w1 fun e w' => e = .returned (.int .i32 (Ch.low f n : Nat)) ∧ Below w1.heap.size w1 w' := cL
    replace cH : ∀ w1, Below w.heap.size w w1 → Calls Tryd.prog 26 #[.slice (some ⟨b, o, none⟩) n cap, .int .u8 191, .int .i64 (-1)] w1 fun e w' => e = .returned (.int .i32 (Ch.high f n : Nat)) ∧ Below w1.heap.size w1 w' := cH
    have hnx : ∃ r how : Nat, (how = 0 ∨ how = 1) ∧ Rn.nx f n = (r, n, how) := by
      rcases hgood.2 hk with ⟨hw, hfs⟩ | hw
      · exact ⟨_, 0, .inl rfl, by rw [Rn.nx_whole hw, hfs]⟩
      · exact ⟨_, 1, .inr rfl, (Rn.nx_waits hw).1⟩
    obtain ⟨r0, how, hhow, hnx⟩ := hnx
    rw [hnx] at cN
    clear hnx hgood hk hS hT hby
    generalize Ch.low f n = l at *
    generalize Ch.high f n = h at *
    generalize Ch.nextT Ch.tab c ((l : Int) - 1) = nx at *
    obtain ⟨nv, nb⟩ := nx
    rcases hhow with rfl | rfl
    all_goals
      cases nb
      all_goals
        go_enter Tryd.func16, Tryd.ntmps16
        go_wp2_with fail
        refine cN.mono ?_
        rintro e w1 ⟨rfl, hb1⟩
        go_wp2_with fail
        refine (cL w1 hb1).mono ?_
        rintro e w2 ⟨rfl, hb2⟩
        have hB2 := hb1.trans (hb2.mono hb1.size)
        go_wp2_with fail
        refine (cH w2 hB2).mono ?_
        rintro e w3 ⟨rfl, hb3⟩
        have hB3 := hB2.trans (hb3.mono hB2.size)
        go_wp2_with fail
        refine (cX w3 hB3).mono ?_
        rintro e w4 ⟨rfl, hb4⟩
        have hB4 := hB3.trans (hb4.mono hB3.size)
        go_wp2_with fail
        go_ret
        exact ⟨rfl, hB4⟩
  · rw [show Ch.begP c f n = false from by unfold Ch.begP; rw [if_neg (fun h => hk h.2)]]
    have hnx : (∃ r wd : Nat, wd ≠ n ∧ Rn.nx f n = (r, wd, 0)) ∨ Rn.nx f n = (65533, 1, 2) := by
      cases hw : Rn.whole f n
      · cases hw2 : Rn.waits f n
        · exact .inr (Rn.nx_bad (by omega) hw2 hw)
        · exact absurd (hgood.1 (.inr hw2)) hk
      · refine .inl ⟨_, _, fun e => hk (hgood.1 (.inl ⟨hw, e⟩)), Rn.nx_whole hw⟩
    clear hgood hk hS hT hby
    rcases hnx with ⟨r, wd, hwd, hnx⟩ | hnx
    · rw [hnx] at cN
      have hne : ((wd : Int) != n) = true := by simp; omega
      clear hnx
      go_enter Tryd.func16, Tryd.ntmps16
      go_wp2_with fail
      refine cN.mono ?_
      rintro e w1 ⟨rfl, hb1⟩
      go_wp2_with fail
      go_ret
      exact ⟨rfl, hb1⟩
    · rw [hnx] at cN
      clear hnx
      go_enter Tryd.func16, Tryd.ntmps16
      go_wp2_with fail
      refine cN.mono ?_
      rintro e w1 ⟨rfl, hb1⟩
      go_wp2_with fail
      go_ret
      exact ⟨rfl, hb1⟩
end Go.Proofs.YtploppaocpbnlaaDoor
