/-
  What a row tells of a Three that came in.
-/
import Derived.Test.YtipnhfnjoaoceaaKlOps
import Derived.Test.YtipnhfnjoaoceaaKlVal
import Derived.SizedLaws
namespace Go.Proofs.Ytipnhfnjoaoceaa
open Go.RowKit Go.Shelf Go.Lib
open Go.ChangeShapes Go.WideShapes Go.ChangeAt Go.Joins
theorem klCellsT : Try.prog.cellsOf 23 = 1 := by kernel_rfl
theorem klBytesT : Try.prog.bytesOf 23 = 8 := by kernel_rfl
set_option maxRecDepth 100000 in
theorem klTruthsOf {H : Type} {enc : TypeId × Value → H} {W : World} {fuel : Nat} {v : Value} {y : DataW H × List MemPlace} (hf : DataW.trod enc Try.prog W 0 (fun _ => true) true fuel 22 [v] = some y) (hZ : ∀ k ∈ y.1.weights Try.prog 22, k ≤ reachBytes) :
    ∃ l : List Int, Kl.TsN W v l ∧ l.length ≤ 17592186044416 := by
  rcases open_ints Try.underlying22 Try.underlying23 klCellsT hf with ⟨hcs, hx⟩ | ⟨a, len, cap, zs, hcs, _, hl, hmx, hz, hx, hcell, hwz⟩
  · obtain rfl : v = .slice none 0 0 := by simpa using hcs
    exact ⟨[], ⟨Kl.Ts.none W, fun n c e => by cases e; rfl⟩, by simp⟩
  · obtain rfl : v = .slice (some a) len cap := by simpa using hcs
    subst hx
    simp only [if_true] at hz
    have hreach : len ≤ 17592186044416 ∧ zs.length ≤ 17592186044416 := by
      have := hZ _ (by simp only [DataW.weights, Try.underlying22]; exact List.mem_cons_self)
      rw [klBytesT] at this
      simp only [lits, List.length_map, List.length_take, List.length_drop, reachBytes] at this
      omega
    have hll : (zs.take len).length = len := by rw [List.length_take]; omega
    refine ⟨zs.take len, ⟨⟨some a, cap, by rw [hll], by rw [hll]; omega, by omega, fun h0 => ?_⟩, fun n c e => by cases e⟩, by rw [hll]; omega⟩
    obtain ⟨b, off, spot⟩ := a
    rw [hll] at h0
    have hspot : spot = none := by simpa [Addr.add] using World.cell?_spot (hcell 0 (by omega))
    subst hspot
    refine ⟨b, off, rfl, fun i y hy => ?_⟩
    have hi : i < len := by have := (List.getElem?_eq_some_iff.1 hy).1; omega
    have q := hcell i (by omega)
    rw [add_plain] at q
    rw [q]
    rw [List.getElem?_take_of_lt hi] at hy
    rw [List.getD_eq_getElem?_getD, hy]
    rfl
set_option maxRecDepth 100000 in
set_option maxHeartbeats 800000 in
theorem klThreeOf {H : Type} {enc : TypeId × Value → H} {W : World} {cs : Array Value} {d : DataW H} {p : List MemPlace} (hcs : cs.size = Try.prog.cellsOf 60) (h : DataW.Trod enc Try.prog W 0 (fun _ => true) true 60 (Value.agg cs) d p) (hZ : ∀ k ∈ d.weights Try.prog 60, k ≤ reachBytes) :
    ∃ (x y z : Kl.Fv) (v : Value) (l : List Int), cs = (x.enc ++ (y.enc ++ (z.enc ++ [v]))).toArray ∧ Kl.Ok W x ∧ Kl.Ok W y ∧ Kl.Ok W z ∧ Kl.TsN W v l ∧ l.length ≤ 17592186044416 := by
  rw [show Try.prog.cellsOf 60 = 13 from by kernel_rfl] at hcs
  obtain ⟨L⟩ := cs
  match L, hcs with
  | [v0, v1, v2, v3, v4, v5, v6, v7, v8, v9, v10, v11, v12], _ =>
    obtain ⟨fuel, hf⟩ := h
    change DataW.trod enc Try.prog W 0 (fun _ => true) true fuel 60 [v0, v1, v2, v3, v4, v5, v6, v7, v8, v9, v10, v11, v12] = some (d, p) at hf
    obtain ⟨ys, k, hk, hxy, _, hxl, hfl⟩ := DataW.trod_struct Try.underlying60 hf
    match ys, hxl with
    | [y0, y1, y2, y3], _ =>
      have g0 := hfl 0 _ rfl
      have g1 := hfl 1 _ rfl
      have g2 := hfl 2 _ rfl
      have g3 := hfl 3 _ rfl
      have c0 : Try.prog.cellsOf 37 = 4 := by kernel_rfl
      have c3 : Try.prog.cellsOf 22 = 1 := by kernel_rfl
      simp [c0, c3] at g0 g1 g2 g3
      obtain ⟨x, hx, ox⟩ := klFormOf k _ y0 rfl g0
      obtain ⟨y, hy, oy⟩ := klFormOf k _ y1 rfl g1
      obtain ⟨z, hz, oz⟩ := klFormOf k _ y2 rfl g2
      simp only [Prod.mk.injEq] at hxy
      have hw := hZ
      rw [hxy.1] at hw
      simp only [DataW.weights, Try.underlying60] at hw
      obtain ⟨l, tl, bl⟩ := klTruthsOf g3 fun k hk => hw _ (DataW.weights_mem_each (j := 3) rfl rfl _ hk)
      exact ⟨x, y, z, v12, l, by rw [← hx, ← hy, ← hz]; rfl, ox, oy, oz, tl, bl⟩
end Go.Proofs.Ytipnhfnjoaoceaa
