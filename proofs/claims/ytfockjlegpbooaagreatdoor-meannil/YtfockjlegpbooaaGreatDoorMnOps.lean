/-
  What a row tells of paths and expressions that came in: they are nested so deep and no deeper.
-/
import Derived.Test.YtfockjlegpbooaaGreatDoorMnGreat
import Derived.Test.YtfockjlegpbooaaGreatDoorCards
import Derived.Deep.Slices
import Derived.Lib.SmallJoins
namespace Go.Proofs.YtfockjlegpbooaaGreatDoor
open Go.RowKit Go.Shelf Go.Lib
open Go.ChangeShapes Go.WideShapes Go.ChangeAt Go.Joins
namespace Mn
theorem mono_both : ∀ (d : Nat) (W : World), (∀ v, StL d W v → StL (d + 1) W v) ∧ (∀ v, ExL d W v → ExL (d + 1) W v)
  | 0, _ => ⟨fun v h => by unfold StL at h; exact h.elim, fun v h => by unfold ExL at h; exact h.elim⟩
  | d + 1, W => by
    have ih := mono_both d W
    refine ⟨fun v h => ?_, fun v h => ?_⟩
    · unfold StL at h ⊢
      refine h.imp fun b o hx => ?_
      obtain ⟨nm, wv, h1, h2, h3⟩ := hx
      exact ⟨nm, wv, h1, h2, ih.2 _ h3⟩
    · unfold ExL at h ⊢
      refine h.imp fun b o hx => ?_
      obtain ⟨av, sv, at_, tx, h1, h2, h3, h4, h5, h6⟩ := hx
      exact ⟨av, sv, at_, tx, h1, h2, h3, h4, ih.2 _ h5, ih.1 _ h6⟩
theorem StL.le {d d' : Nat} {W : World} {v : Value} (h : StL d W v) (hd : d ≤ d') : StL d' W v := by
  obtain ⟨k, rfl⟩ := Nat.exists_eq_add_of_le hd
  clear hd
  induction k with
  | zero => exact h
  | succ k ih => exact (mono_both _ _).1 _ ih
theorem ExL.le {d d' : Nat} {W : World} {v : Value} (h : ExL d W v) (hd : d ≤ d') : ExL d' W v := by
  obtain ⟨k, rfl⟩ := Nat.exists_eq_add_of_le hd
  clear hd
  induction k with
  | zero => exact h
  | succ k ih => exact (mono_both _ _).2 _ ih
theorem rowx_nil (k : Nat) (X : Nat → Nat → Prop) : RowX (.slice none 0 0) k X := ⟨none, 0, 0, rfl, Nat.le_refl _, by decide, fun h => absurd h (by omega)⟩
/-- a slice that came in, opened -/
theorem row_open {H : Type} {enc : TypeId × Value → H} {W : World} {t e : TypeId} {fuel k : Nat} {v : Value} {y : DataW H × List MemPlace} (ht : Tryz.prog.underlying t = some (.slice e)) (hk : Tryz.prog.cellsOf e = k) (h0 : 0 < k) (h : DataW.trod enc Tryz.prog W 0 (fun _ => true) true fuel t [v] = some y)
    {X : Nat → Nat → Prop} (hX : ∀ n b o (cs' : List Value) y', fuel = n + 1 → cs'.length = k → (∀ (j : Nat) u, cs'[j]? = some u → W.cell? ⟨b, o + j, none⟩ = some u) → DataW.trod enc Tryz.prog W 0 (fun _ => true) true n e cs' = some y' → X b o) : RowX v k X := by
  rcases DataW.trod_slice ht h with ⟨hcs, _⟩ | ⟨a, len, cap, elems, rest, n, hf, hcs, _, _, hl, hm, hlen, hel, _⟩
  · obtain rfl : v = .slice none 0 0 := by simpa using hcs
    exact rowx_nil _ _
  · obtain rfl : v = .slice (some a) len cap := by simpa using hcs
    have each : ∀ i, i < len → ∃ cs' y', W.cells? 0 (a.add (i * k)) k = some cs' ∧ DataW.trod enc Tryz.prog W 0 (fun _ => true) true n e cs' = some y' := fun i hi => by
      have h1 := hel i hi
      rw [hk] at h1
      have h2 : ∃ y', elems[i]? = some y' := ⟨_, List.getElem?_eq_getElem (by omega)⟩
      obtain ⟨y', h2⟩ := h2
      rw [h2] at h1
      obtain ⟨cs', h3, h4⟩ := Option.bind_eq_some_iff.1 h1
      exact ⟨cs', y', h3, h4⟩
    refine ⟨some a, len, cap, rfl, hl, by unfold maxLen at hm; omega, fun hpos => ?_⟩
    obtain ⟨b, off, spot⟩ := a
    have hspot : spot = none := by
      obtain ⟨cs', y', h1, _⟩ := each 0 hpos
      obtain ⟨_, hlen', hcell⟩ := World.cells?_some h1
      have := hcell 0 (by omega)
      rw [List.getElem?_eq_getElem (by omega)] at this
      simpa [Addr.add] using World.cell?_spot this
    subst hspot
    refine ⟨b, off, rfl, fun i hi => ?_⟩
    obtain ⟨cs', y', h1, h2⟩ := each i hi
    obtain ⟨_, hlen', hcell⟩ := World.cells?_some h1
    refine hX n b (off + i * k) cs' y' hf hlen' (fun j u hu => ?_) h2
    have hj := (List.getElem?_eq_some_iff.1 hu).1
    have := hcell j (by omega)
    rw [Go.Deep.add_add, add_plain, ← Nat.add_assoc] at this
    rw [this]
    exact hu
end Mn
set_option maxRecDepth 100000 in
theorem paths_of {H : Type} {enc : TypeId × Value → H} {W : World} : ∀ (fuel : Nat), (∀ (v : Value) (y : DataW H × List MemPlace), DataW.trod enc Tryz.prog W 0 (fun _ => true) true fuel 23 [v] = some y → Mn.StL fuel W v) ∧ (∀ (v : Value) (y : DataW H × List MemPlace), DataW.trod enc Tryz.prog W 0 (fun _ => true) true fuel 45 [v] = some y → Mn.ExL fuel W v)
  | 0 => ⟨fun v y h => by simp [DataW.trod] at h, fun v y h => by simp [DataW.trod] at h⟩
  | m + 1 => by
    have ih := fun k (_ : k < m + 1) => paths_of (H := H) (enc := enc) (W := W) k
    refine ⟨fun v y h => ?_, fun v y h => ?_⟩
    · unfold Mn.StL
      refine Mn.row_open Tryz.underlying23 (show Tryz.prog.cellsOf 64 = 4 by kernel_rfl) (by omega) h ?_
      intro n b o cs' y' hf hlen hcell hy
      obtain ⟨ys, k, hk, _, _, hxl, hfl⟩ := DataW.trod_struct Tryz.underlying64 hy
      match ys, hxl, cs', hlen with
      | [y0, y1, y2, y3], _, [v0, v1, v2, v3], _ =>
        have g2 := hfl 2 _ rfl
        have g3 := hfl 3 _ rfl
        have c1 : Tryz.prog.cellsOf 9 = 1 := by kernel_rfl
        have c2 : Tryz.prog.cellsOf 45 = 1 := by kernel_rfl
        simp [c1, c2] at g2 g3
        obtain ⟨s2, hs2, _⟩ := DataW.trod_string Tryz.underlying9 g2
        obtain rfl : v2 = .string s2 := by simpa using hs2
        exact ⟨s2, v3, hcell 2 _ rfl, hcell 3 _ rfl, ((ih k (by omega)).2 _ _ g3).le (by omega)⟩
    · unfold Mn.ExL
      refine Mn.row_open Tryz.underlying45 (show Tryz.prog.cellsOf 48 = 7 by kernel_rfl) (by omega) h ?_
      intro n b o cs' y' hf hlen hcell hy
      obtain ⟨ys, k, hk, _, _, hxl, hfl⟩ := DataW.trod_struct Tryz.underlying48 hy
      match ys, hxl, cs', hlen with
      | [y0, y1, y2, y3, y4, y5, y6], _, [v0, v1, v2, v3, v4, v5, v6], _ =>
        have g1 := hfl 1 _ rfl
        have g2 := hfl 2 _ rfl
        have g3 := hfl 3 _ rfl
        have g5 := hfl 5 _ rfl
        have c1 : Tryz.prog.cellsOf 9 = 1 := by kernel_rfl
        have c2 : Tryz.prog.cellsOf 45 = 1 := by kernel_rfl
        have c3 : Tryz.prog.cellsOf 25 = 1 := by kernel_rfl
        have c4 : Tryz.prog.cellsOf 23 = 1 := by kernel_rfl
        simp [c1, c2, c3] at g1 g2 g3 g5
        obtain ⟨s3, hs3, _⟩ := DataW.trod_string Tryz.underlying9 g3
        obtain ⟨s5, hs5, _⟩ := DataW.trod_string Tryz.underlying9 g5
        obtain rfl : v3 = .string s3 := by simpa using hs3
        obtain rfl : v5 = .string s5 := by simpa using hs5
        obtain ⟨zs, k2, hk2, _, _, hzl, hzf⟩ := DataW.trod_struct Tryz.underlying25 g2
        match zs, hzl with
        | [z0], _ =>
          have q0 := hzf 0 _ rfl
          simp [c4] at q0
          exact ⟨v1, v2, s3, s5, hcell 1 _ rfl, hcell 2 _ rfl, hcell 3 _ rfl, hcell 5 _ rfl, ((ih k (by omega)).2 _ _ g1).le (by omega), ((ih k2 (by omega)).1 _ _ q0).le (by omega)⟩
end Go.Proofs.YtfockjlegpbooaaGreatDoor
