/-
  GROUND of gimletlaw16.HuntOnce: what Truth says stays; a piece of a row of runes, joined; a row of numbers that came in.
-/
import Derived.Test.YtgbldbohadacmaaHtAsk
import Derived.Test.YtgbldbohadacmaaHtAwake
import Derived.Test.YtgbldbohadacmaaRnJoin
namespace Go.Proofs.Ytgbldbohadacmaa
open Go.RowKit Go.Lib
namespace Ht
theorem no_one {t : Int} (h : t = 0 ∨ t = 1 ∨ t = 2) : no t = 1 ↔ t = 1 := by rcases h with rfl | rfl | rfl <;> decide
theorem tru_stay {c : Int} {td : Bool} {N : Int} {T L : List Nat} (h : tru c td N T L false ≠ 1) (M : List Nat) : tru c td N T (L ++ M) false = tru c td N T L false := by
  have ho : opn c T N L ≠ 1 := fun e => h (by
    unfold tru
    cases td
    · simpa using e
    · simpa using (no_one (opn_rng c T N L)).2 e)
  have := opn_stay ho M
  cases td <;> simp [tru, this]
theorem tru_end {c : Int} (hc : cok c) {td : Bool} {N : Int} {T L : List Nat} (h : tru c td N T L false ≠ 1) : tru c td N T L true = tru c td N T L false := by
  have ho : opn c T N L ≠ 1 := fun e => h (by
    unfold tru
    cases td
    · simpa using e
    · simpa using (no_one (opn_rng c T N L)).2 e)
  have := opn_fin hc ho
  cases td <;> simp [tru, this]
theorem tru_whole (c : Int) (td : Bool) (N : Int) (T L : List Nat) : tru c td N T L true = 0 ∨ tru c td N T L true = 2 := by
  unfold tru
  rcases fin_rng c T N L with e | e <;> cases td <;> simp [e, no]
theorem cat_le : ∀ L : List Nat, (Rn.cat L).length ≤ 4 * L.length
  | [] => by simp [Rn.cat]
  | r :: L => by
    have := cat_le L
    have := Rn.el_pos r
    rw [Rn.cat_cons, List.length_append, Rn.enc_length, List.length_cons]
    omega
/-- a row of numbers that came in -/
def Ri (w : World) (v : Value) (l : List Int) : Prop :=
  ∃ p cap, v = .slice p l.length cap ∧ l.length ≤ cap ∧ cap ≤ 9223372036854775807 ∧ (0 < l.length → ∃ b o, p = some ⟨b, o, none⟩ ∧ ∀ i x, l[i]? = some x → w.cell? ⟨b, o + i, none⟩ = some (.int .i64 x))
theorem TR.lie {w : World} {T : List Nat} {g m cap : Nat} (h : TR w T (.slice (some ⟨g, 0, none⟩) m cap)) : Lie w g T := by
  obtain ⟨g', cap', cur, e, _, _, h4, _⟩ := h
  cases e
  exact h4
end Ht
end Go.Proofs.Ytgbldbohadacmaa
