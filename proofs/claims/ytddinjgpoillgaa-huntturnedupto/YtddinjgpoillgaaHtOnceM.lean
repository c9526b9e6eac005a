/-
  GROUND of gimletlaw16.HuntOnce: what Truth says stays; a piece of a row of runes, joined; a row of numbers that came in.
-/
import Derived.Test.YtddinjgpoillgaaHtAsk
import Derived.Test.YtddinjgpoillgaaHtAwake
import Derived.Test.YtddinjgpoillgaaRnJoin
namespace Go.Proofs.Ytddinjgpoillgaa
open Go.RowKit Go.Lib
namespace Ht
theorem no_one {t : Int} (h : t = 0 ∨ t = 1 ∨ t = 2) : no t = 1 ↔ t = 1 := by rcases h with rfl | rfl | rfl <;> decide
theorem tru_stay {c : Int} {td : Bool} {N : Int} {T L : List Nat} (h : tru c td N T L false ≠ 1) (M : List Nat) : tru c td N T (L ++ M) false = tru c td N T L false := by
  have ho : opn c T N L ≠ 1 := fun e => h (by
    unfold tru
    cases td
    · simpa using e
    · simpa using (no_one (opn_rng c T N L)).2 e)
  have := opn_stay ho M
  cases td <;> simp [tru, this]
theorem tru_end {c : Int} (hc : cok c) {td : Bool} {N : Int} {T L : List Nat} (h : tru c td N T L false ≠ 1) : tru c td N T L true = tru c td N T L false := by
  have ho : opn c T N L ≠ 1 := fun e => h (by
    unfold tru
    cases td
    · simpa using e
    · simpa using (no_one (opn_rng c T N L)).2 e)
  have := opn_fin hc ho
  cases td <;> simp [tru, this]
theorem tru_whole (c : Int) (td : Bool) (N : Int) (T L : List Nat) : tru c td N T L true = 0 ∨ tru c td N T L true = 2 := by
  unfold tru
  rcases fin_rng c T N L with e | e <;> cases td <;> simp [e, no]
theorem cat_le : ∀ L : List Nat, (Rn.cat L).length ≤ 4 * L.length
  | [] => by simp [Rn.cat]
  | r :: L => by
    have := cat_le L
    have := Rn.el_pos r
    rw [Rn.cat_cons, List.length_append, Rn.enc_length, List.length_cons]
    omega
/-- a row of numbers that came in -/
def Ri (w : World) (v : Value) (l : List Int) : Prop :=
  ∃ p cap, v = .slice p l.length cap ∧ l.length ≤ cap ∧ cap ≤ 9223372036854775807 ∧ (0 < l.length → ∃ b o, p = some ⟨b, o, none⟩ ∧ ∀ i x, l[i]? = some x → w.cell? ⟨b, o + i, none⟩ = some (.int .i64 x))
theorem TR.lie {w : World} {T : List Nat} {g m cap : Nat} (h : TR w T (.slice (some ⟨g, 0, none⟩) m cap)) : Lie w g T := by
  obtain ⟨g', cap', cur, e, _, _, h4, _⟩ := h
  cases e
  exact h4
end Ht
theorem htJoin (X : List Nat) (hX : ∀ r ∈ X, Rn.scal r) (g : Nat) (w : World) (h : Lie w g X) (at' k cap : Nat) (hk : at' + k ≤ X.length) :
    Calls Try.prog 18 #[.slice (some ⟨g, at', none⟩) k cap] w fun e w' => e = .returned (.string (Rn.arr (Rn.lf (Rn.cat ((X.drop at').take k))) (Rn.cat ((X.drop at').take k)).length)) ∧ w' = w := by
  obtain ⟨M, hM⟩ : ∃ M, (X.drop at').take k = M := ⟨_, rfl⟩
  have hl : M.length = k := by rw [← hM, List.length_take, List.length_drop]; omega
  have hs : ∀ r ∈ M, Rn.scal r := fun r hr => hX r (List.mem_of_mem_drop (List.mem_of_mem_take (hM ▸ hr)))
  have c := join_any (M.map (fun r : Nat => (r : Int))) g at' cap w (fun j hj => by
    rw [List.length_map, hl] at hj
    have := h (at' + j) (by omega)
    rw [Nat.zero_add] at this
    rw [this]
    have e : M[j]? = X[at' + j]? := by rw [← hM, List.getElem?_take_of_lt hj, List.getElem?_drop]
    have e2 : X[at' + j]? = some X[at' + j] := List.getElem?_eq_getElem (by omega)
    simp [List.getD_eq_getElem?_getD, e, e2])
  rw [List.length_map, hl, Rn.runesBytes_tx M hs] at c
  rw [hM]
  exact c
end Go.Proofs.Ytddinjgpoillgaa
