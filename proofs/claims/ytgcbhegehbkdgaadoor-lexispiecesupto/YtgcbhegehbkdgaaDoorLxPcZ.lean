/-
  gimletlaw10.LexisPieces, at any number.
-/
import Derived.Test.YtgcbhegehbkdgaaDoorLxPcL
namespace Go.Proofs.YtgcbhegehbkdgaaDoor
open Go.RowKit Go.Lib
theorem lawPieces_all (f g : Nat → Nat) (m l : Nat) (x : Int) (vp vq : Value) (w : World) (hT : Lib.Utf8Tabs 1 2 w) (hS : Spans w) (hG : Signs w) (hf : ∀ j, f j < 256) (hg : ∀ j, g j < 256) (hm : m ≤ 549755813886) (hl : l ≤ 549755813886) (hp : ArgS w f m vp) (hq : ArgS w g l vq) :
    Calls Tryd.prog 5 #[vp, vq, .int .i64 x] w fun e w' => e = .returned (.bool true) ∧ Below w.heap.size w w' := by
  have h1 : -5 < x.tmod 5 ∧ x.tmod 5 < 5 := by
    rcases Int.le_total 0 x with h | h
    · rw [Int.tmod_eq_emod_of_nonneg h]; omega
    · have e : x.tmod 5 = -((-x).tmod 5) := by rw [Int.neg_tmod, Int.neg_neg]
      rw [e, Int.tmod_eq_emod_of_nonneg (by omega)]; omega
  have h2 : wrap64 (x.tmod 5 + 5) = x.tmod 5 + 5 := by unfold wrap64; omega
  obtain ⟨k, hk, hk5⟩ : ∃ k : Nat, (wrap64 (x.tmod 5 + 5)).tmod 5 = (k : Int) ∧ k < 5 := by
    refine ⟨((x.tmod 5 + 5) % 5).toNat, ?_, by omega⟩
    rw [h2, Int.tmod_eq_emod_of_nonneg (by omega)]
    omega
  obtain ⟨gs, hgs⟩ : ∃ gs, Lx.gapL[k]? = some gs := ⟨_, List.getElem?_eq_getElem hk5⟩
  exact lawPieces_any f g m l x vp vq w hT hS hG hf hg hm hl k gs hk (by omega) hgs hp hq
end Go.Proofs.YtgcbhegehbkdgaaDoor
