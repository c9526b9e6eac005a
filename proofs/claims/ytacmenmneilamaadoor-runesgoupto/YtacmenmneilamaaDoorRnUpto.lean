/-
  What the second form's bound gives of a slice of bytes.
-/
import Derived.Test.YtacmenmneilamaaDoorRnBulk
import Derived.Test.YtacmenmneilamaaDoorRnArgs
import Derived.Test.YtacmenmneilamaaDoorRnLaid
namespace Go.Proofs.YtacmenmneilamaaDoor
open Go.RowKit Go.Shelf Go.Lib
open Go.ChangeShapes Go.WideShapes Go.ChangeAt

/-- a slice of bytes that came in, with its bulk -/
theorem isRow_bulk {H : Type} {enc : TypeId × Value → H} {W : World} {a : Option Addr} {len cap : Nat} {d : DataW H} {p : List MemPlace} (h : DataW.Trod enc Tryd.prog W 0 (fun _ => true) true 22 (Value.slice a len cap) d p) : ∃ zs, IsRow .u8 W a len cap zs ∧ len ≤ Rows.uptoBulk d := by
  obtain ⟨fuel, hf⟩ := h
  rcases open_ints Tryd.underlying22 Tryd.underlying5 (by kernel_rfl) hf with ⟨hcs, _⟩ | ⟨x, l, c, zs, hcs, _, hl, hm, hz, hd, hcell, hwz⟩
  · simp [Value.cells] at hcs
    obtain ⟨rfl, rfl, rfl⟩ := hcs
    exact ⟨[], .inl ⟨rfl, rfl, rfl, rfl⟩, Nat.zero_le _⟩
  · simp [Value.cells] at hcs
    obtain ⟨rfl, rfl, rfl⟩ := hcs
    have hz' : zs.length = cap := by simpa using hz
    refine ⟨zs, .inr ⟨_, rfl, hl, hm, hz', hcell, hwz⟩, ?_⟩
    have hd' : d = .slice (lits .u8 (zs.take len)) (lits .u8 (zs.drop len)) := congrArg Prod.fst hd
    rw [hd']
    have := bulk_length (lits (H := H) .u8 (zs.take len))
    have e : (lits (H := H) .u8 (zs.take len)).length = len := by simp [lits]; omega
    simp only [Rows.uptoBulk]
    omega
/-- .. as the walks want it -/
theorem argB_of {W : World} {a : Option Addr} {len cap : Nat} {zs : List Int} (h : IsRow .u8 W a len cap zs) : ArgB W (bt zs) len (.slice a len cap) := by
  have hb := slb_of h
  rcases h with ⟨rfl, rfl, rfl, rfl⟩ | ⟨x, rfl, h1, h2, h3, h4, h5⟩
  · exact .nil rfl
  · refine .some x cap h1 h2 (fun j u hu => ?_) (fun h0 => ?_)
    · obtain ⟨hj, rfl⟩ := xs_get _ _ _ _ hu
      rw [h4 j (by omega)]
      have e : ((bt zs j : Nat) : Int) = zs.getD j 0 := by
        have := range_u8 h5 j
        unfold bt
        rw [List.getD_eq_getElem?_getD]
        omega
      rw [e]
    · rcases hb.1 with h | ⟨b, o, e, _, hby⟩
      · omega
      · exact ⟨b, o, Option.some.inj e, hby⟩

end Go.Proofs.YtacmenmneilamaaDoor
