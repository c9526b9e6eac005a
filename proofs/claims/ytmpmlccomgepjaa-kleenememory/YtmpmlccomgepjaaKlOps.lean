/-
  What a row tells of a formula that came in.
-/
import Derived.Test.YtmpmlccomgepjaaKlApp
import Derived.Deep.Slices
import Derived.Lib.SmallJoins
import Derived.Lib.RowBridge
import Derived.ProofKit
namespace Go.Proofs.Ytmpmlccomgepjaa
open Go.RowKit Go.Shelf Go.Lib
open Go.ChangeShapes Go.WideShapes Go.ChangeAt Go.Joins
namespace Kl
theorem list_of {α : Type} : ∀ (n : Nat) {P : Nat → α → Prop}, (∀ i, i < n → ∃ x, P i x) → ∃ l : List α, l.length = n ∧ ∀ (i : Nat) x, l[i]? = some x → P i x
  | 0, _, _ => ⟨[], rfl, fun i x h => by simp at h⟩
  | n + 1, P, h => by
    obtain ⟨l, hl, hp⟩ := list_of n fun i hi => h i (by omega)
    obtain ⟨x, hx⟩ := h n (by omega)
    refine ⟨l ++ [x], by simp [hl], fun i y hy => ?_⟩
    by_cases c : i < n
    · rw [List.getElem?_append_left (by omega)] at hy; exact hp i y hy
    · have hi := (List.getElem?_eq_some_iff.1 hy).1
      simp [hl] at hi
      obtain rfl : i = n := by omega
      rw [List.getElem?_append_right (by omega), hl, Nat.sub_self] at hy
      simp at hy
      subst hy
      exact hx
/-- a slice that came in, opened -/
theorem sl_open {H : Type} {enc : TypeId × Value → H} {W : World} {t e : TypeId} {fuel k : Nat} {v : Value} {y : DataW H × List MemPlace} (ht : Try.prog.underlying t = some (.slice e)) (hk : Try.prog.cellsOf e = k) (h0 : 0 < k) (h : DataW.trod enc Try.prog W 0 (fun _ => true) true fuel t [v] = some y) :
    ∃ p len cap, v = .slice p len cap ∧ len ≤ cap ∧ cap ≤ 9223372036854775807 ∧ (0 < len → ∃ b off n, p = some ⟨b, off, none⟩ ∧ fuel = n + 1 ∧ ∀ i, i < len → ∃ cs' y', cs'.length = k ∧ W.rangeAt b (off + i * k) cs' ∧ DataW.trod enc Try.prog W 0 (fun _ => true) true n e cs' = some y') := by
  rcases DataW.trod_slice ht h with ⟨hcs, _⟩ | ⟨a, len, cap, elems, rest, n, hf, hcs, _, _, hl, hm, hlen, hel, _⟩
  · obtain rfl : v = .slice none 0 0 := by simpa using hcs
    exact ⟨none, 0, 0, rfl, Nat.le_refl _, by decide, fun h => absurd h (by omega)⟩
  · obtain rfl : v = .slice (some a) len cap := by simpa using hcs
    have each : ∀ i, i < len → ∃ cs' y', W.cells? 0 (a.add (i * k)) k = some cs' ∧ DataW.trod enc Try.prog W 0 (fun _ => true) true n e cs' = some y' := fun i hi => by
      have h1 := hel i hi
      rw [hk] at h1
      have h2 : ∃ y', elems[i]? = some y' := ⟨_, List.getElem?_eq_getElem (by omega)⟩
      obtain ⟨y', h2⟩ := h2
      rw [h2] at h1
      obtain ⟨cs', h3, h4⟩ := Option.bind_eq_some_iff.1 h1
      exact ⟨cs', y', h3, h4⟩
    refine ⟨some a, len, cap, rfl, hl, by unfold maxLen at hm; omega, fun hpos => ?_⟩
    obtain ⟨b, off, spot⟩ := a
    have hspot : spot = none := by
      obtain ⟨cs', y', h1, _⟩ := each 0 hpos
      obtain ⟨_, hlen', hcell⟩ := World.cells?_some h1
      have := hcell 0 (by omega)
      rw [List.getElem?_eq_getElem (by omega)] at this
      simpa [Addr.add] using World.cell?_spot this
    subst hspot
    refine ⟨b, off, n, rfl, hf, fun i hi => ?_⟩
    obtain ⟨cs', y', h1, h2⟩ := each i hi
    obtain ⟨_, hlen', hcell⟩ := World.cells?_some h1
    refine ⟨cs', y', hlen', fun j u hu => ?_, h2⟩
    have hj := (List.getElem?_eq_some_iff.1 hu).1
    have := hcell j (by omega)
    rw [Go.Deep.add_add, add_plain, ← Nat.add_assoc] at this
    rw [this]
    exact hu
end Kl
set_option maxRecDepth 100000 in
set_option maxHeartbeats 800000 in
theorem klFormOf {H : Type} {enc : TypeId × Value → H} {W : World} : ∀ (fuel : Nat) (cs : List Value) (y : DataW H × List MemPlace), cs.length = 4 → DataW.trod enc Try.prog W 0 (fun _ => true) true fuel 26 cs = some y → ∃ x : Kl.Fv, cs = x.enc ∧ Kl.Ok W x
  | 0, cs, y, _, h => by simp [DataW.trod] at h
  | m + 1, cs, y, hlen, h => by
    have ih := fun k (_ : k < m + 1) => klFormOf (H := H) (enc := enc) (W := W) k
    obtain ⟨ys, k, hk, _, _, hxl, hfl⟩ := DataW.trod_struct Try.underlying26 h
    match ys, hxl, cs, hlen with
    | [y0, y1, y2, y3], _, [v0, v1, v2, v3], _ =>
      have g0 := hfl 0 _ rfl
      have g1 := hfl 1 _ rfl
      have g2 := hfl 2 _ rfl
      have g3 := hfl 3 _ rfl
      have c0 : Try.prog.cellsOf 3 = 1 := by kernel_rfl
      have c1 : Try.prog.cellsOf 22 = 1 := by kernel_rfl
      have c2 : Try.prog.cellsOf 23 = 1 := by kernel_rfl
      have c3 : Try.prog.cellsOf 24 = 1 := by kernel_rfl
      simp [c0, c1, c2, c3] at g0 g1 g2 g3
      have cE : ∀ t, (Try.prog.underlying t = some (.int .i64)) → ∀ v y, DataW.trod enc Try.prog W 0 (fun _ => true) true k t [v] = some y → ∃ x, v = .int .i64 x := fun t ht v y hy => by
        obtain ⟨x, hx, _, _⟩ := DataW.trod_int ht hy
        exact ⟨x, by simpa using hx⟩
      obtain ⟨op, rfl⟩ : ∃ x, v0 = .int .i64 x := cE 22 Try.underlying22 _ y0 g0
      obtain ⟨va, rfl⟩ : ∃ x, v1 = .int .i64 x := cE 23 Try.underlying23 _ y1 g1
      obtain ⟨n, rfl⟩ : ∃ x, v2 = .int .i64 x := cE 3 Try.underlying3 _ y2 g2
      obtain ⟨p, len, cap, rfl, h1, h2, h3⟩ := Kl.sl_open Try.underlying24 (show Try.prog.cellsOf 26 = 4 by kernel_rfl) (by omega) g3
      by_cases c : 0 < len
      · obtain ⟨b, off, n', rfl, hn, each⟩ := h3 c
        obtain ⟨l, hl, hp⟩ := Kl.list_of len (P := fun i (x : Kl.Fv) => W.rangeAt b (off + i * 4) x.enc ∧ Kl.Ok W x) fun i hi => by
          obtain ⟨cs', y', e1, e2, e3⟩ := each i hi
          obtain ⟨x, rfl, hx⟩ := ih n' (by omega) cs' y' e1 e3
          exact ⟨x, e2, hx⟩
        subst hl
        exact ⟨.mk op va n (some ⟨b, off, none⟩) cap l, rfl, Kl.Ok.mk' h1 h2 fun _ => ⟨b, off, rfl, hp⟩⟩
      · obtain rfl : len = 0 := by omega
        exact ⟨.mk op va n p cap [], rfl, Kl.Ok.mk' h1 h2 fun h => absurd h (by simp)⟩
set_option maxRecDepth 100000 in
theorem klForm_of {H : Type} {enc : TypeId × Value → H} {W : World} {cs : Array Value} {d : DataW H} {p : List MemPlace} (hcs : cs.size = Try.prog.cellsOf 26) (h : DataW.Trod enc Try.prog W 0 (fun _ => true) true 26 (Value.agg cs) d p) :
    ∃ x : Kl.Fv, cs = x.enc.toArray ∧ Kl.Ok W x := by
  rw [show Try.prog.cellsOf 26 = 4 from by kernel_rfl] at hcs
  obtain ⟨l⟩ := cs
  match l, hcs with
  | [v0, v1, v2, v3], _ =>
    obtain ⟨fuel, hf⟩ := h
    change DataW.trod enc Try.prog W 0 (fun _ => true) true fuel 26 [v0, v1, v2, v3] = some (d, p) at hf
    obtain ⟨x, e, hx⟩ := klFormOf fuel _ _ rfl hf
    exact ⟨x, by rw [e], hx⟩
end Go.Proofs.Ytmpmlccomgepjaa
