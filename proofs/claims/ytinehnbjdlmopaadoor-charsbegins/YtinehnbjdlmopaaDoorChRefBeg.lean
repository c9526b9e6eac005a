/-
  THE WALK over the document's Begins.
-/
import Derived.Test.YtinehnbjdlmopaaDoorChBegMath
import Derived.Test.YtinehnbjdlmopaaDoorChArg
namespace Go.Proofs.YtinehnbjdlmopaaDoor
open Go.RowKit Go.Lib

set_option maxHeartbeats 1000000 in
theorem refBegins_any (c : Int) (v : Value) (f : Nat → Nat) (n : Nat) (w : World) (hf : ∀ j, f j < 256) (hn : n ≤ 9223372036854775807) (hv : ArgS w f n v) :
    Calls Tryd.prog 17 #[.int .i64 c, v] w fun e w' => e = .returned (.bool (Ch.ovR (Ch.rg c) (Ch.span f n).1 (Ch.span f n).2)) ∧ Below w.heap.size w w' := by
  have cS : Calls Tryd.prog 27 #[v] w fun e w' => e = .returned (.tuple #[.int .i64 (Ch.span f n).1, .int .i64 (Ch.span f n).2]) ∧ Below w.heap.size w w' := by
    obtain ⟨pa, cap, rfl, h1, h2⟩ := hv.span
    exact span_any f pa n cap w hf hn h1 h2
  have cR := fun w1 => ranges_any c w1
  have hlen : (Ch.rg c).length ≤ 45 := Ch.rg_length c
  clear hv hf
  generalize Ch.rg c = L at *
  generalize Ch.span f n = sp at *
  obtain ⟨a, h⟩ := sp
  simp only at cS
  go_enter Tryd.func17, Tryd.ntmps17
  go_wp2_with fail
  refine cS.mono ?_
  rintro e w0 ⟨rfl, hb0⟩
  clear cS
  go_wp2_with fail
  refine (cR w0).mono ?_
  rintro e w1 ⟨v, rfl, hV, hb1'⟩
  have hb1 := hb0.trans (hb1'.mono hb0.size)
  clear cR hb1'
  have hbb := hb1.size
  obtain ⟨pa, cap, rfl, hat⟩ := hV
  go_wp2_with fail
  go_loopw [17] (fun i wr => ∃ k : Nat, i = .int .i64 k ∧ k ≤ L.length ∧ Ch.ovR (L.drop k) a h = Ch.ovR L a h ∧ Below w1.heap.size w1 wr) (fun i _ => L.length - (RowKit.intOf i).toNat)
  case atStart => exact ⟨0, rfl, by omega, rfl, Below.refl _ _⟩
  case round =>
    obtain ⟨k, rfl, hk, hd, hB⟩ := hrel
    by_cases hlt : k < L.length
    · rcases hat with h0 | ⟨b, o, rfl, hc⟩
      · subst h0; simp at hlt
      have g1 : (k : Int) < L.length := by omega
      obtain ⟨c1, c2⟩ := hc k _ (List.getElem?_eq_getElem hlt)
      have e1 := (hB.cell (p := ⟨b, o + k * 2, none⟩) (block_lt_of_cell c1)).trans c1
      have e2 := (hB.cell (p := ⟨b, o + k * 2 + 1, none⟩) (block_lt_of_cell c2)).trans c2
      rw [List.drop_eq_getElem_cons hlt, Ch.ovR_cons] at hd
      have hbs := hB.size
      generalize L[k] = p at *
      obtain ⟨lo, hi⟩ := p
      simp only at e1 e2 hd
      clear c1 c2 hc
      by_cases q : max (lo : Int) a ≤ min (hi : Int) h
      · rw [if_pos q] at hd
        have HD := hide' hd
        clear hd
        go_wp2
        all_goals first | omega | (go_ret; exact ⟨by rw [← HD.out]; rfl, hb1.trans ((hB.alloc hbs _).mono hbb)⟩)
      · rw [if_neg q] at hd
        have HD := hide' hd
        clear hd
        go_wp2
        go_roundw
        case rel => exact ⟨k + 1, by go_num, by omega, HD.out, hB.alloc hbs _⟩
        case measure => simp [RowKit.intOf]; omega
    · obtain rfl : k = L.length := by omega
      rw [List.drop_length] at hd
      have HD := hide' hd
      clear hd hat
      go_wp2
      go_ret
      exact ⟨by rw [← HD.out]; rfl, hb1.trans (hB.mono hbb)⟩
end Go.Proofs.YtinehnbjdlmopaaDoor
