/-
  What a row tells of texts that came in.
-/
import Derived.Test.YtddinjgpoillgaaHtTurnM
import Derived.Test.YtddinjgpoillgaaHtOps
import Derived.Deep.Slices
namespace Go.Proofs.Ytddinjgpoillgaa
open Go.RowKit Go.Lib
open Go.ChangeShapes Go.WideShapes Go.ChangeAt Go.Joins
theorem htSumLe {H : Type} (f : Nat → List UInt8) (D : Nat → DataW H) : ∀ l : List Nat, (∀ i ∈ l, (f i).length ≤ Rows.uptoBulk (D i)) → ((l.map f).map List.length).sum ≤ Rows.uptoBulkAll (l.map D)
  | [], _ => by simp [Rows.uptoBulkAll]
  | a :: l, h => by
    have h1 := h a (by simp)
    have h2 := htSumLe f D l fun i hi => h i (by simp [hi])
    simp only [List.map_cons, List.sum_cons, Rows.uptoBulkAll]
    omega
theorem htTakeSum (l : List Nat) : ∀ i, (l.take i).sum ≤ l.sum := fun i => by
  have := congrArg List.sum (List.take_append_drop i l)
  rw [List.sum_append] at this
  omega
theorem htMemSum : ∀ {l : List Nat} {x : Nat}, x ∈ l → x ≤ l.sum
  | a :: l, x, h => by
    rw [List.sum_cons]
    rcases List.mem_cons.1 h with rfl | h
    · omega
    · have := htMemSum h; omega
set_option maxRecDepth 100000 in
set_option maxHeartbeats 800000 in
theorem htSrOf {H : Type} {enc : TypeId × Value → H} {W : World} {a : Option Addr} {len cap : Nat} {d : DataW H} {p : List MemPlace} (h : DataW.Trod enc Try.prog W 0 (fun _ => true) true 51 (Value.slice a len cap) d p) :
    ∃ ps : List (List UInt8), Ht.Sr W (.slice a len cap) ps ∧ (ps.map List.length).sum ≤ Rows.uptoBulk d ∧ ps.length ≤ Rows.uptoBulk d := by
  obtain ⟨fuel, hf⟩ := h
  rcases Go.Deep.open_slice1 Try.underlying51 (show Try.prog.cellsOf 9 = 1 by kernel_rfl) hf with ⟨hcs, _⟩ | ⟨x, l, c, m, n, V, D, Pl, hcs, _, hl, hm, hmm, hx, hel⟩
  · simp [Value.cells] at hcs
    obtain ⟨rfl, rfl, rfl⟩ := hcs
    exact ⟨[], ⟨none, 0, rfl, by simp, by omega, fun h => by simp at h⟩, by simp, by simp⟩
  · simp [Value.cells] at hcs
    obtain ⟨rfl, rfl, rfl⟩ := hcs
    obtain rfl : m = cap := by simpa using hmm
    have each : ∀ i, i < len → ∃ s : List UInt8, W.cell? (x.add i) = some (.string (Rn.arr (Rn.lf s) s.length)) ∧ s.length ≤ Rows.uptoBulk (D i) := fun i hi => by
      obtain ⟨h1, h2⟩ := hel i (by omega)
      obtain ⟨s, hs1, hs2, _⟩ := DataW.trod_string Try.underlying9 h2
      have e1 : V i = .string s := by simpa using hs1
      have e2 : D i = .lit (.string s.data.toList) := congrArg Prod.fst hs2
      refine ⟨s.data.toList, ?_, ?_⟩
      · rw [Rn.arr_lf, h1, e1]
      · rw [e2]; simp [Rows.uptoBulk]
    obtain ⟨S, hS⟩ := Go.Deep.choose_lt each
    have hd : d = .slice ((List.range len).map D) ((List.range (m - len)).map fun j => D (len + j)) := congrArg Prod.fst hx
    have hsum := htSumLe S D (List.range len) fun i hi => (hS i (List.mem_range.1 hi)).2
    have hlen := htBulkLen ((List.range len).map D)
    rw [List.length_map, List.length_range] at hlen
    refine ⟨(List.range len).map S, ⟨some x, m, by simp, by simpa using hl, by unfold maxLen at hm; omega, fun h0 => ?_⟩, ?_, ?_⟩
    · rw [List.length_map, List.length_range] at h0
      obtain ⟨b, off, spot⟩ := x
      have hspot : spot = none := by simpa [Addr.add] using World.cell?_spot (hS 0 h0).1
      subst hspot
      refine ⟨b, off, rfl, fun i y hy => ?_⟩
      have hi : i < len := by have := (List.getElem?_eq_some_iff.1 hy).1; simpa using this
      have q := (hS i hi).1
      rw [add_plain] at q
      rw [List.getElem?_map, List.getElem?_range hi] at hy
      simp at hy
      subst hy
      exact q
    · rw [hd]; simp only [Rows.uptoBulk]; omega
    · rw [hd]; simp only [Rows.uptoBulk, List.length_map, List.length_range]; omega
end Go.Proofs.Ytddinjgpoillgaa
