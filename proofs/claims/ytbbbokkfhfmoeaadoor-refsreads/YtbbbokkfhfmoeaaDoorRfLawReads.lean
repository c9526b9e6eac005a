/-
  THE WALK over gimletlaw05.RefsReads.
-/
import Derived.Test.YtbbbokkfhfmoeaaDoorRfRefRead
namespace Go.Proofs.YtbbbokkfhfmoeaaDoor
open Go.RowKit Go.Lib

set_option maxRecDepth 100000 in
set_option maxHeartbeats 1000000 in
theorem lawReads_any (v : Value) (f : Nat → Nat) (n : Nat) (w : World) (hS : Spans w) (hf : ∀ j, f j < 256) (hn : n ≤ 140737488355328) (hA : ArgS w f n v) :
    Calls Tryd.prog 3 #[v] w fun e w' => e = .returned (.bool true) ∧ Below w.heap.size w w' := by
  have hA1 := hA.below ((Below.refl w.heap.size w).alloc (Nat.le_refl _) (.cells #[] 5)) (Nat.le_refl _)
  have HA := hide' (And.intro hA hS)
  have hfine := Rf.rd_fine f n
  clear hA hS
  go_enter Tryd.func3, Tryd.ntmps3
  go_wp2_with (at_builtin; refine append_argS rfl _ _ rfl w.heap.size _ _ 0 n [] f rfl (owns_none w) rfl hA1 (by omega) (by simp) ?_)
  intro v1 w1 hown hgrow
  have hB1 : Below w.heap.size w w1 := ((Below.refl w.heap.size w).alloc (Nat.le_refl _) _).grown hgrow (by simp) (fun k hk => by simp [Value.ownBlock] at hk; omega)
  obtain ⟨-, hAm⟩ := slAt_own (f := f) (by simpa using hown)
  have cR := rfRead_arg (HA.out.2.below hB1 (Nat.le_refl _)) hf (by omega) hAm
  have HM := hide' hAm
  obtain ⟨X, hX⟩ : ∃ X, Rf.rd f n = X := ⟨_, rfl⟩
  rw [hX] at cR hfine
  have HX := hide' hX
  have hx1 : X.1 ≤ 1114111 := by
    rcases hfine with q | q | q
    · rw [q]; show 0 ≤ _; omega
    · omega
    · exact q.2.2
  unfold Rf.rdV at cR
  clear hgrow hown hA1 hAm hX hfine
  go_wp2_with fail
  refine cR.mono ?_
  rintro e w2 ⟨rfl, hb2⟩
  have hB2 := hB1.trans (hb2.mono hB1.size)
  have cD := ref5Read_any w2 hf (by omega) (HA.out.1.below hB2 (Nat.le_refl _))
  rw [HX.out] at cD
  unfold Rf.rdI at cD
  have hM2 := HM.out.below hb2 (Nat.le_refl _)
  have HM2 := hide' hM2
  clear cR hb2 HM hB1 hM2 HX
  go_wp2_with fail
  refine cD.mono ?_
  rintro e w3 ⟨rfl, hb3⟩
  have hB3 := hB2.trans (hb3.mono hB2.size)
  have cF := rfFixed_any w3 (HA.out.2.below hB3 (Nat.le_refl _))
  have HM3 := hide' (HM2.out.below hb3 (Nat.le_refl _))
  clear cD hb3 HM2 hB2
  go_wp2_with fail
  refine cF.mono ?_
  rintro e w4 ⟨rfl, hb4⟩
  have hB4 := hB3.trans (hb4.mono hB3.size)
  have t1 := (HM3.out.below hb4 (Nat.le_refl _)).text hf
  have t2 := (HA.out.1.below hB4 (Nat.le_refl _)).text hf
  clear cF hb4 HM3 hB3
  go_wp2
  go_ret
  exact ⟨by simp, hB4⟩
end Go.Proofs.YtbbbokkfhfmoeaaDoor
