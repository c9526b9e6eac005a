/-
  What the row of a law of layer 4 gives: the numbers of an argument.
-/
import Derived.Test.YtbfabpjhdhhpfaaDoorFdPieces
import Derived.Test.YtbfabpjhdhhpfaaDoorFdOpen
namespace Go.Proofs.YtbfabpjhdhhpfaaDoor
open Go.RowKit Go.Shelf Go.Lib
open Go.ChangeShapes Go.WideShapes Go.ChangeAt

theorem argI_of {H : Type} {enc : TypeId × Value → H} {W : World} {a : Option Addr} {len cap : Nat} {d : DataW H} {p : List MemPlace} (h : DataW.Trod enc Tryd.prog W 0 (fun _ => true) true 46 (Value.slice a len cap) d p) :
    ∃ g, Cuts W a len g ∧ (len = 0 ∨ ∃ el sp, d = .slice el sp ∧ el.length = len) := by
  obtain ⟨fuel, hf⟩ := h
  rcases open_ints Tryd.underlying46 Tryd.underlying3 (by kernel_rfl) hf with ⟨hcs, _⟩ | ⟨x, l, c, zs, hcs, _, hl, hm, hz, hd, hcell, hwz⟩
  · simp [Value.cells] at hcs
    obtain ⟨rfl, rfl, rfl⟩ := hcs
    exact ⟨fun _ => 0, fun h => absurd h (by omega), .inl rfl⟩
  · simp [Value.cells] at hcs
    obtain ⟨rfl, rfl, rfl⟩ := hcs
    have hz' : zs.length = cap := by simpa using hz
    refine ⟨fun j => zs.getD j 0, fun h0 => ?_, .inr ⟨_, _, congrArg Prod.fst hd, ?_⟩⟩
    · obtain ⟨b, o, e, _⟩ := ints_at hcell (by omega)
      subst e
      have hb : ∀ j, j < len → W.cell? ⟨b, o + j, none⟩ = some (.int .i64 (zs.getD j 0)) := fun j hj => by
        have := hcell j (by omega)
        rw [show Addr.add ⟨b, o, none⟩ j = ⟨b, o + j, none⟩ by simp [Addr.add]] at this
        exact this
      exact ⟨b, o, rfl, block_lt_of_cell (hb 0 h0), hb⟩
    · simp [lits]
      omega
end Go.Proofs.YtbfabpjhdhhpfaaDoor
