/-
  What a row tells of a slice of bytes that came in.
-/
import Derived.Test.YtoccedbnnafjcaaDoorChArg
import Derived.Test.YtoccedbnnafjcaaDoorLxTabs
import Derived.OpenShut
import Derived.ShutString
import Derived.ChangeOld
import Derived.Below
import Derived.SizedLaws
namespace Go.Proofs.YtoccedbnnafjcaaDoor
open Go.ChangeShapes Go.WideShapes Go.ChangeAt Go.RowKit

theorem laidOut : laidOutB Tryd.prog = true := by kernel_rfl
/-- the bytes by their place -/
def bz (zs : List Int) : Nat → Nat := fun j => (zs[j]?.getD 0).toNat
theorem argS_of {H : Type} {enc : TypeId × Value → H} {W : World} {a : Option Addr} {len cap : Nat} {d : DataW H} {p : List MemPlace} (h : DataW.Trod enc Tryd.prog W 0 (fun _ => true) true 22 (Value.slice a len cap) d p) :
    ∃ f, ArgS W f len (.slice a len cap) ∧ (∀ j, f j < 256) ∧ (len = 0 ∨ ∃ el sp, d = .slice el sp ∧ el.length = len) := by
  obtain ⟨fuel, hf⟩ := h
  rcases open_ints Tryd.underlying22 Tryd.underlying5 (by kernel_rfl) hf with ⟨hcs, _⟩ | ⟨x, l, c, zs, hcs, _, hl, hm, hz, hd, hcell, hwz⟩
  · simp [Value.cells] at hcs
    obtain ⟨rfl, rfl, rfl⟩ := hcs
    exact ⟨fun _ => 0, .nil rfl, fun _ => by show 0 < 256; omega, .inl rfl⟩
  · simp [Value.cells] at hcs
    obtain ⟨rfl, rfl, rfl⟩ := hcs
    have hz' : zs.length = cap := by simpa using hz
    have hr := fun j => range_u8 hwz j
    have hcells : ∀ j, j < len → W.cell? (x.add j) = some (.int .u8 (bz zs j : Nat)) := by
      intro j hj
      rw [hcell j (by omega)]
      have e : ((bz zs j : Nat) : Int) = zs.getD j 0 := by
        have := hr j
        unfold bz
        rw [List.getD_eq_getElem?_getD]
        omega
      rw [e]
    refine ⟨bz zs, .some x cap hl hm hcells (fun h0 => ?_), fun j => by have := hr j; unfold bz; omega, .inr ⟨_, _, congrArg Prod.fst hd, ?_⟩⟩
    · obtain ⟨b, o, e, _⟩ := ints_at hcell (by omega)
      exact ⟨b, o, e⟩
    · simp [lits]
      omega
/-- .. and how many there are at most -/
theorem len_reach {H : Type} {ts : List TypeId} {ds : List (DataW H)} (hsz : (DataW.weightsEach Tryd.prog ts ds).all (· ≤ reachBytes) = true) {j len : Nat} {d : DataW H} (ht : ts[j]? = some 22) (hd : ds[j]? = some d)
    (h : len = 0 ∨ ∃ el sp, d = .slice el sp ∧ el.length = len) : len ≤ 140737488351232 := by
  rcases h with h | ⟨el, sp, rfl, h⟩
  · omega
  · have := sized_slice hsz ht hd Tryd.underlying22
    rw [show Tryd.prog.bytesOf 5 = 1 from by kernel_rfl] at this
    unfold reachBytes at this
    omega
end Go.Proofs.YtoccedbnnafjcaaDoor
