/-
  What the row of a law of layer 9 gives: a slice of events, each row and each text of it no greater than what can be reached.
-/
import Derived.Test.YtfkmeghddobgcaaDoorTrEv
import Derived.Test.YtfkmeghddobgcaaDoorChTabs
import Derived.SizedLaws
import Derived.Test.YtfkmeghddobgcaaDoorCards
import Derived.Deep.Slices
namespace Go.Proofs.YtfkmeghddobgcaaDoor
open Go.RowKit Go.Shelf Go.Lib
open Go.ChangeShapes Go.WideShapes Go.ChangeAt
instance : Inhabited (Tr.Ev Value) := ⟨⟨0, 0, 0, ⟨#[]⟩, .slice none 0 0, [], ⟨#[]⟩, 0, 0⟩⟩
theorem trLaidOut : laidOutB Tryd.prog = true := by kernel_rfl
theorem weights_all {H : Type} {P : Program} {e : TypeId} {d : DataW H} {k : Nat} (hk : k ∈ d.weights P e) : ∀ {l : List (DataW H)}, d ∈ l → k ∈ DataW.weightsAll P e l
  | x :: l, h => by
    unfold DataW.weightsAll
    rcases List.mem_cons.1 h with rfl | h
    · exact List.mem_append.2 (.inl hk)
    · exact List.mem_append.2 (.inr (weights_all hk h))
  | [], h => by cases h
set_option maxRecDepth 100000 in
/-- attributes -/
theorem ats_of {H : Type} {enc : TypeId × Value → H} {W : World} {fuel : Nat} {v : Value} {y : DataW H × List MemPlace} (hf : DataW.trod enc Tryd.prog W 0 (fun _ => true) true fuel 37 [v] = some y) (hZ : ∀ k ∈ y.1.weights Tryd.prog 37, k ≤ reachBytes) :
    ∃ l, Tr.AtRow W v l ∧ l.length * 32 ≤ reachBytes ∧ ∀ x ∈ l, x.1.size ≤ reachBytes ∧ x.2.size ≤ reachBytes := by
  rcases Go.Deep.open_slice Tryd.underlying37 hf with ⟨hcs, _⟩ | ⟨x, len, cap, m, n, D, Pl, hcs, _, hl, hm, hmm, hx, hel⟩
  · obtain rfl : v = .slice none 0 0 := by simpa using hcs
    exact ⟨[], ⟨none, 0, rfl, Nat.le_refl _, by omega, fun _ => rfl, fun h => absurd h (by simp)⟩, by simp, fun x hx => by cases hx⟩
  · obtain rfl : v = .slice (some x) len cap := by simpa using hcs
    obtain rfl : m = cap := by simpa using hmm
    have ce : Tryd.prog.cellsOf 63 = 2 := by kernel_rfl
    have cb : Tryd.prog.bytesOf 63 = 32 := by kernel_rfl
    have hlenB : len * 32 ≤ reachBytes := by
      have := hZ ((((List.range len).map D).length + ((List.range (m - len)).map fun j => D (len + j)).length) * Tryd.prog.bytesOf 63) (by rw [hx]; simp [DataW.weights, Tryd.underlying37])
      rw [cb] at this
      simp only [List.length_map, List.length_range] at this
      omega
    have hDi : ∀ i, i < len → ∀ k ∈ (D i).weights Tryd.prog 63, k ≤ reachBytes := fun i hi k hk => hZ k (by
      rw [hx]
      simp only [DataW.weights, Tryd.underlying37]
      exact List.mem_cons_of_mem _ (List.mem_append.2 (.inl (weights_all hk (List.mem_map.2 ⟨i, List.mem_range.2 hi, rfl⟩)))))
    have each : ∀ i, i < len → ∃ s : ByteArray × ByteArray, (W.cell? (x.add (i * 2)) = some (.string s.1) ∧ W.cell? (x.add (i * 2 + 1)) = some (.string s.2)) ∧ s.1.size ≤ reachBytes ∧ s.2.size ≤ reachBytes := by
      intro i hi
      obtain ⟨cs', h1, h2⟩ := hel i (by omega)
      rw [ce] at h1
      obtain ⟨_, hlen, hcell⟩ := World.cells?_some h1
      obtain ⟨ys, k, hk, hxy, _, hxl, hfl⟩ := DataW.trod_struct Tryd.underlying63 h2
      match ys, hxl, cs', hlen with
      | [y0, y1], _, [v0, v1], _ =>
        have g0 := hfl 0 _ rfl
        have g1 := hfl 1 _ rfl
        have c0 : Tryd.prog.cellsOf 9 = 1 := by kernel_rfl
        simp [c0] at g0 g1
        obtain ⟨s0, hs0, e0, _⟩ := DataW.trod_string Tryd.underlying9 g0
        obtain ⟨s1, hs1, e1, _⟩ := DataW.trod_string Tryd.underlying9 g1
        obtain rfl : v0 = .string s0 := by simpa using hs0
        obtain rfl : v1 = .string s1 := by simpa using hs1
        have a0 := hcell 0 (by omega)
        have a1 := hcell 1 (by omega)
        rw [Go.Deep.add_add] at a0 a1
        simp only [Prod.mk.injEq] at hxy
        have hw := hDi i hi
        rw [hxy.1] at hw
        simp only [DataW.weights, Tryd.underlying63] at hw
        have w0 : s0.data.toList.length ≤ reachBytes := hw _ (DataW.weights_mem_each (j := 0) rfl rfl _ (by rw [e0]; simp [DataW.weights]))
        have w1 : s1.data.toList.length ≤ reachBytes := hw _ (DataW.weights_mem_each (j := 1) rfl rfl _ (by rw [e1]; simp [DataW.weights]))
        exact ⟨(s0, s1), ⟨by simpa using a0, by simpa using a1⟩, w0, w1⟩
    obtain ⟨S, hS⟩ := Go.Deep.choose_lt each
    refine ⟨(List.range len).map S, ⟨some x, m, by simp, by simpa using hl, by unfold maxLen at hm; omega, (fun e => by cases e), fun h0 => ?_⟩, ?_, fun s hs => ?_⟩
    · have h0' : 0 < len := by simpa using h0
      obtain ⟨b, off, spot⟩ := x
      have hspot : spot = none := by simpa [Addr.add] using World.cell?_spot (hS 0 h0').1.1
      subst hspot
      refine ⟨b, off, rfl, fun i s hi => ?_⟩
      have hi2 : i < len := by have := (List.getElem?_eq_some_iff.1 hi).1; simpa using this
      rw [List.getElem?_map, List.getElem?_range hi2] at hi
      obtain rfl : S i = s := by simpa using hi
      have := (hS i hi2).1
      simp only [add_plain] at this
      exact this
    · simpa using hlenB
    · obtain ⟨i, hi, rfl⟩ := List.mem_map.1 hs
      exact (hS i (List.mem_range.1 hi)).2
set_option maxRecDepth 100000 in
/-- events -/
theorem evs_of {H : Type} {enc : TypeId × Value → H} {W : World} {a : Option Addr} {len cap : Nat} {d : DataW H} {p : List MemPlace} (h : DataW.Trod enc Tryd.prog W 0 (fun _ => true) true 22 (Value.slice a len cap) d p) (hZ : ∀ k ∈ d.weights Tryd.prog 22, k ≤ reachBytes) :
    ∃ E, Tr.Evs W (.slice a len cap) len E ∧ (∀ i, i < len → Tr.Small (E i)) ∧ len ≤ 1466015503658 := by
  obtain ⟨fuel, hf⟩ := h
  rcases Go.Deep.open_slice Tryd.underlying22 hf with ⟨hcs, _⟩ | ⟨x, l, c, m, n, D, Pl, hcs, _, hl, hm, hmm, hx, hel⟩
  · simp [Value.cells] at hcs
    obtain ⟨rfl, rfl, rfl⟩ := hcs
    exact ⟨fun _ => default, ⟨⟨none, 0, rfl, Nat.le_refl _, by omega, fun _ => rfl, fun h => absurd h (by omega)⟩, fun i hi => absurd hi (by omega)⟩, fun i hi => absurd hi (by omega), by omega⟩
  · simp [Value.cells] at hcs
    obtain ⟨rfl, rfl, rfl⟩ := hcs
    obtain rfl : m = cap := by simpa using hmm
    have ce : Tryd.prog.cellsOf 39 = 8 := by kernel_rfl
    have hd : d = .slice ((List.range len).map D) ((List.range (m - len)).map fun j => D (len + j)) := congrArg Prod.fst hx
    have cb : Tryd.prog.bytesOf 39 = 96 := by kernel_rfl
    have hlenB : len * 96 ≤ reachBytes := by
      have := hZ ((((List.range len).map D).length + ((List.range (m - len)).map fun j => D (len + j)).length) * Tryd.prog.bytesOf 39) (by rw [hd]; simp [DataW.weights, Tryd.underlying22])
      rw [cb] at this
      simp only [List.length_map, List.length_range] at this
      omega
    have hDi : ∀ i, i < len → ∀ k ∈ (D i).weights Tryd.prog 39, k ≤ reachBytes := fun i hi k hk => hZ k (by
      rw [hd]
      simp only [DataW.weights, Tryd.underlying22]
      exact List.mem_cons_of_mem _ (List.mem_append.2 (.inl (weights_all hk (List.mem_map.2 ⟨i, List.mem_range.2 hi, rfl⟩)))))
    have each : ∀ i, i < len → ∃ e : Tr.Ev Value, (∀ j u, e.cs[j]? = some u → W.cell? (x.add (i * 8 + j)) = some u) ∧ Tr.AtRow W e.av e.ats ∧ Tr.Small e := by
      intro i hi
      have hw := hDi i hi
      obtain ⟨cs', h1, h2⟩ := hel i (by omega)
      rw [ce] at h1
      obtain ⟨_, hlen, hcell⟩ := World.cells?_some h1
      obtain ⟨ys, k, hk, hxy, _, hxl, hfl⟩ := DataW.trod_struct Tryd.underlying39 h2
      match ys, hxl, cs', hlen with
      | [y0, y1, y2, y3, y4, y5, y6, y7], _, [v0, v1, v2, v3, v4, v5, v6, v7], _ =>
        have g0 := hfl 0 _ rfl
        have g1 := hfl 1 _ rfl
        have g2 := hfl 2 _ rfl
        have g3 := hfl 3 _ rfl
        have g4 := hfl 4 _ rfl
        have g5 := hfl 5 _ rfl
        have g6 := hfl 6 _ rfl
        have g7 := hfl 7 _ rfl
        have c0 : Tryd.prog.cellsOf 3 = 1 := by kernel_rfl
        have c1 : Tryd.prog.cellsOf 9 = 1 := by kernel_rfl
        have c2 : Tryd.prog.cellsOf 37 = 1 := by kernel_rfl
        have c3 : Tryd.prog.cellsOf 36 = 1 := by kernel_rfl
        simp [c0, c1, c2, c3] at g0 g1 g2 g3 g4 g5 g6 g7
        obtain ⟨k0, hk0, _⟩ := DataW.trod_int Tryd.underlying36 g0
        obtain ⟨k1, hk1, _⟩ := DataW.trod_int Tryd.underlying3 g1
        obtain ⟨k2, hk2, _⟩ := DataW.trod_int Tryd.underlying3 g2
        obtain ⟨s3, hs3, e3, _⟩ := DataW.trod_string Tryd.underlying9 g3
        simp only [Prod.mk.injEq] at hxy
        rw [hxy.1] at hw
        simp only [DataW.weights, Tryd.underlying39] at hw
        obtain ⟨l4, hl4, b4, b4'⟩ := ats_of g4 (fun k hk => hw k (DataW.weights_mem_each (j := 4) rfl rfl _ hk))
        obtain ⟨s5, hs5, e5, _⟩ := DataW.trod_string Tryd.underlying9 g5
        obtain ⟨k6, hk6, _⟩ := DataW.trod_int Tryd.underlying3 g6
        obtain ⟨k7, hk7, _⟩ := DataW.trod_int Tryd.underlying3 g7
        obtain rfl : v0 = .int .i64 k0 := by simpa using hk0
        obtain rfl : v1 = .int .i64 k1 := by simpa using hk1
        obtain rfl : v2 = .int .i64 k2 := by simpa using hk2
        obtain rfl : v3 = .string s3 := by simpa using hs3
        obtain rfl : v5 = .string s5 := by simpa using hs5
        obtain rfl : v6 = .int .i64 k6 := by simpa using hk6
        obtain rfl : v7 = .int .i64 k7 := by simpa using hk7
        have w3 : s3.data.toList.length ≤ reachBytes := hw _ (DataW.weights_mem_each (j := 3) rfl rfl _ (by rw [e3]; simp [DataW.weights]))
        have w5 : s5.data.toList.length ≤ reachBytes := hw _ (DataW.weights_mem_each (j := 5) rfl rfl _ (by rw [e5]; simp [DataW.weights]))
        unfold reachBytes at b4
        refine ⟨⟨k0, k1, k2, s3, v4, l4, s5, k6, k7⟩, fun j u hj => ?_, hl4, ?_⟩
        · have h8 : j < 8 := by have := (Array.getElem?_eq_some_iff.1 hj).1; exact this
          have a0 := hcell j (by omega)
          rw [Go.Deep.add_add] at a0
          match j, h8, hj, a0 with
          | 0, _, hj, a0 | 1, _, hj, a0 | 2, _, hj, a0 | 3, _, hj, a0 | 4, _, hj, a0 | 5, _, hj, a0 | 6, _, hj, a0 | 7, _, hj, a0 => simp [Tr.Ev.cs] at hj; subst hj; simpa using a0
        · exact ⟨w3, w5, by show l4.length ≤ _; omega, b4'⟩
    obtain ⟨E, hE⟩ := Go.Deep.choose_lt each
    refine ⟨E, ⟨⟨some x, m, rfl, hl, by unfold maxLen at hm; omega, (fun e => by cases e), fun h0 => ?_⟩, fun i hi => (hE i hi).2.1⟩, fun i hi => (hE i hi).2.2, ?_⟩
    · obtain ⟨b, off, spot⟩ := x
      have hspot : spot = none := by simpa [Addr.add] using World.cell?_spot ((hE 0 h0).1 0 _ rfl)
      subst hspot
      refine ⟨b, off, rfl, fun i j u hi hu => ?_⟩
      have := (hE i hi).1 j u hu
      rw [add_plain, ← Nat.add_assoc] at this
      exact this
    · unfold reachBytes at hlenB
      omega
end Go.Proofs.YtfkmeghddobgcaaDoor
