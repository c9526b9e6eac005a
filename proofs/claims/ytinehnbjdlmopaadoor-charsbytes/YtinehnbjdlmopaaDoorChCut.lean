/-
  What a row tells of the struct that came in: a class, a rune, a number and bytes.
-/
import Derived.Test.YtinehnbjdlmopaaDoorChOpen
import Derived.Lib.SmallJoins
namespace Go.Proofs.YtinehnbjdlmopaaDoor
open Go.ChangeShapes Go.WideShapes Go.ChangeAt Go.RowKit Go.Joins

theorem cut_of {H : Type} {enc : TypeId × Value → H} {W : World} {cs : Array Value} {d : DataW H} {p : List MemPlace} (hcs : cs.size = Tryd.prog.cellsOf 42) (h : DataW.Trod enc Tryd.prog W 0 (fun _ => true) true 42 (Value.agg cs) d p) :
    ∃ (c r k : Int) (v : Value) (f : Nat → Nat) (n : Nat), cs = #[.int .i64 c, .int .i32 r, .int .i64 k, v] ∧ (Lit.int .i32 r).wf = true ∧ ArgS W f n v ∧ (∀ j, f j < 256) ∧ (∃ a b e z, d = .agg [a, b, e, z] ∧ (n = 0 ∨ ∃ el sp, z = .slice el sp ∧ el.length = n)) := by
  rw [show Tryd.prog.cellsOf 42 = 4 from by kernel_rfl] at hcs
  obtain ⟨c0, c1, c2, c3, rfl⟩ := array4 hcs
  obtain ⟨fuel, hf⟩ := h
  obtain ⟨y0, y1, y2, y3, m, hd, _, g0, g1, g2, g3⟩ := trod_struct4 Tryd.underlying42 hf
  change DataW.trod _ _ _ _ _ _ _ 3 (([c0, c1, c2, c3].drop 0).take (Tryd.prog.cellsOf 3)) = some y0 at g0
  change DataW.trod _ _ _ _ _ _ _ 21 (([c0, c1, c2, c3].drop 1).take (Tryd.prog.cellsOf 21)) = some y1 at g1
  change DataW.trod _ _ _ _ _ _ _ 3 (([c0, c1, c2, c3].drop 2).take (Tryd.prog.cellsOf 3)) = some y2 at g2
  change DataW.trod _ _ _ _ _ _ _ 33 (([c0, c1, c2, c3].drop 3).take (Tryd.prog.cellsOf 33)) = some y3 at g3
  rw [show Tryd.prog.cellsOf 3 = 1 from by kernel_rfl] at g0 g2
  rw [show Tryd.prog.cellsOf 21 = 1 from by kernel_rfl] at g1
  rw [show Tryd.prog.cellsOf 33 = 1 from by kernel_rfl] at g3
  obtain ⟨c, hc, _, _⟩ := DataW.trod_int Tryd.underlying3 g0
  obtain ⟨r, hr, _, wr⟩ := DataW.trod_int Tryd.underlying21 g1
  obtain ⟨k, hk, _, _⟩ := DataW.trod_int Tryd.underlying3 g2
  simp at hc hr hk g3
  subst hc hr hk
  have hsl : ∃ a len cap, c3 = .slice a len cap := by
    rcases DataW.trod_slice Tryd.underlying33 g3 with ⟨e, _⟩ | ⟨a', len, cap, _, _, _, _, e, _⟩
    · simp at e; exact ⟨none, 0, 0, e⟩
    · simp at e; exact ⟨_, _, _, e⟩
  obtain ⟨a, len, cap, rfl⟩ := hsl
  obtain ⟨f, hA, hf', hl⟩ := argS_of (H := H) (enc := enc) (d := y3.1) (p := y3.2) ⟨m, g3⟩
  exact ⟨c, r, k, _, f, len, rfl, wr, hA, hf', _, _, _, y3.1, congrArg Prod.fst hd, hl⟩
/-- how many bytes there are at most -/
theorem cut_reach {H : Type} {a b e z : DataW H} {n : Nat} (hsz : (DataW.weightsEach Tryd.prog [42] [.agg [a, b, e, z]]).all (· ≤ reachBytes) = true) (h : n = 0 ∨ ∃ el sp, z = .slice el sp ∧ el.length = n) : n ≤ 140737488351232 := by
  have h2 : (DataW.weightsEach Tryd.prog [3, 21, 3, 33] [a, b, e, z]).all (· ≤ reachBytes) = true := by
    have e1 : DataW.weightsEach Tryd.prog [42] [.agg [a, b, e, z]] = DataW.weightsEach Tryd.prog [3, 21, 3, 33] [a, b, e, z] := by
      simp [DataW.weightsEach, DataW.weights, Tryd.underlying42]
    rw [← e1]; exact hsz
  exact len_reach h2 (j := 3) rfl rfl h
end Go.Proofs.YtinehnbjdlmopaaDoor
