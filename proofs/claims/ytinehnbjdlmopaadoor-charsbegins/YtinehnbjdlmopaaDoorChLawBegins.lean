/-
  THE WALK over gimletlaw02.CharsBegins: of any bytes.
-/
import Derived.Test.YtinehnbjdlmopaaDoorChRefBeg
namespace Go.Proofs.YtinehnbjdlmopaaDoor
open Go.RowKit Go.Lib

set_option maxRecDepth 100000 in
set_option maxHeartbeats 4000000 in
theorem lawBegins_any (c : Int) (v : Value) (f : Nat → Nat) (n : Nat) (w : World) (hf : ∀ j, f j < 256) (hn : n ≤ 140737488355328) (hA : ArgS w f n v) (hS : Spans w) (hT : Lib.Utf8Tabs 1 2 w) :
    Calls Tryd.prog 4 #[.int .i64 c, v] w fun e w' => e = .returned (.bool true) ∧ Below w.heap.size w w' := by
  have hA1 := hA.below ((Below.refl w.heap.size w).alloc (Nat.le_refl _) (.cells #[] 5)) (Nat.le_refl _)
  go_enter Tryd.func4, Tryd.ntmps4
  go_wp2_with (at_builtin; refine append_argS rfl _ _ rfl w.heap.size _ _ 0 n [] f rfl (owns_none w) rfl hA1 (by omega) (by simp) ?_)
  intro v1 w1 hown hgrow
  have hB1 : Below w.heap.size w w1 := ((Below.refl w.heap.size w).alloc (Nat.le_refl _) _).grown hgrow (by simp) (fun k hk => by simp [Value.ownBlock] at hk; omega)
  obtain ⟨hsl, hAm⟩ := slAt_own hown
  clear hgrow hown hA1
  go_wp2_with fail
  refine (fixed_any w1 (hS.below hB1 (Nat.le_refl _)) (tabs_below hT hB1 (Nat.le_refl _))).mono ?_
  rintro e w2 ⟨rfl, hb2⟩
  have hB2 := hB1.trans (hb2.mono hB1.size)
  have hsl2 : SlAt w2 v1 n f := by
    rcases hsl with h | ⟨b, o, cap, e, h1, h2, h3⟩
    · exact .inl h
    · exact .inr ⟨b, o, cap, e, h1, h2, h3.below hb2 (Nat.le_refl _)⟩
  have hAm2 := hAm.below hb2 (Nat.le_refl _)
  clear hsl hAm
  go_wp2_with fail
  refine (begins_any c v1 f n w2 hf (hS.below hB2 (Nat.le_refl _)) (tabs_below hT hB2 (Nat.le_refl _)) hsl2).mono ?_
  rintro e w3 ⟨rfl, hb3⟩
  have hB3 := hB2.trans (hb3.mono hB2.size)
  have hAm3 := hAm2.below hb3 (Nat.le_refl _)
  clear hsl2 hAm2
  go_wp2_with fail
  refine (refBegins_any c v f n w3 hf (by omega) (hA.below hB3 (Nat.le_refl _))).mono ?_
  rintro e w4 ⟨rfl, hb4⟩
  have hB4 := hB3.trans (hb4.mono hB3.size)
  have t1 := (hAm3.below hb4 (Nat.le_refl _)).text hf
  have t2 := (hA.below hB4 (Nat.le_refl _)).text hf
  have t3 : (Ch.begP c f n == Ch.ovR (Ch.rg c) (Ch.span f n).1 (Ch.span f n).2) = true := by rw [Ch.beg_eq c f n hf]; simp
  clear hAm3 hA hS hT
  go_wp2_with fail
  go_ret
  exact ⟨ret_bool (by simp), hB4⟩
end Go.Proofs.YtinehnbjdlmopaaDoor
