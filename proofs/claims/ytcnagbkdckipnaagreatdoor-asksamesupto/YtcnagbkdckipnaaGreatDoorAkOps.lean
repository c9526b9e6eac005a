/-
  What a row tells of a path that came in.
-/
import Derived.Test.YtcnagbkdckipnaaGreatDoorAkSL
import Derived.Test.YtcnagbkdckipnaaGreatDoorRows
import Derived.Deep.Slices
import Derived.Lib.SmallJoins
import Derived.Lib.RowBridge
import Derived.ProofKit
import Derived.ChangeSame
namespace Go.Proofs.YtcnagbkdckipnaaGreatDoor
open Go.RowKit Go.Shelf Go.Lib
open Go.ChangeShapes Go.WideShapes Go.ChangeAt Go.Joins
namespace Ak
theorem bulk_one {H : Type} (d : DataW H) : 1 ≤ Rows.uptoBulk d := by
  cases d with
  | lit l => cases l <;> simp [Rows.uptoBulk]
  | nil => simp [Rows.uptoBulk]
  | ptr d => simp [Rows.uptoBulk]
  | slice elems spare => simp [Rows.uptoBulk]
  | agg parts => simp [Rows.uptoBulk]
  | iface t d => simp [Rows.uptoBulk]
  | map entries => simp [Rows.uptoBulk]
  | held h => simp [Rows.uptoBulk]
theorem bulk_part {H : Type} {d : DataW H} {l : List (DataW H)} (h : d ∈ l) : Rows.uptoBulk d ≤ Rows.uptoBulkAll l := by
  induction l with
  | nil => cases h
  | cons x r ih =>
    simp only [Rows.uptoBulkAll]
    cases List.mem_cons.1 h with
    | inl e => subst e; omega
    | inr e => have := ih e; omega
theorem bulk_bound {H : Type} {l : List (DataW H)} (hk : Rows.uptoSmall H l = true) {d : DataW H} (h : d ∈ l) : Rows.uptoBulk d ≤ 1048576 :=
  Nat.le_trans (bulk_part h) (of_decide_eq_true hk)
/-- a field's bulk -/
theorem bulk_field {H : Type} {y : DataW H × List MemPlace} {ys : List (DataW H × List MemPlace)} {P : List MemPlace} (hy : y = (.agg (ys.map (·.1)), P)) {z : DataW H × List MemPlace} (hz : z ∈ ys) (hb : Rows.uptoBulk y.1 ≤ 1048576) : Rows.uptoBulk z.1 ≤ 1048576 := by
  subst hy
  have := bulk_part (List.mem_map.2 ⟨z, hz, rfl⟩ : z.1 ∈ ys.map (·.1))
  simp only [Rows.uptoBulk] at hb
  omega
theorem list_of {α : Type} : ∀ (n : Nat) {P : Nat → α → Prop}, (∀ i, i < n → ∃ x, P i x) → ∃ l : List α, l.length = n ∧ ∀ (i : Nat) x, l[i]? = some x → P i x
  | 0, _, _ => ⟨[], rfl, fun i x h => by simp at h⟩
  | n + 1, P, h => by
    obtain ⟨l, hl, hp⟩ := list_of n fun i hi => h i (by omega)
    obtain ⟨x, hx⟩ := h n (by omega)
    refine ⟨l ++ [x], by simp [hl], fun i y hy => ?_⟩
    by_cases c : i < n
    · rw [List.getElem?_append_left (by omega)] at hy; exact hp i y hy
    · have hi := (List.getElem?_eq_some_iff.1 hy).1
      simp [hl] at hi
      obtain rfl : i = n := by omega
      rw [List.getElem?_append_right (by omega), hl, Nat.sub_self] at hy
      simp at hy
      subst hy
      exact hx
theorem sl_open {H : Type} {enc : TypeId × Value → H} {W : World} {t e : TypeId} {fuel k : Nat} {v : Value} {y : DataW H × List MemPlace} (ht : Tryz.prog.underlying t = some (.slice e)) (hk : Tryz.prog.cellsOf e = k) (h0 : 0 < k) (hb : Rows.uptoBulk y.1 ≤ 1048576) (h : DataW.trod enc Tryz.prog W 0 (fun _ => true) true fuel t [v] = some y) :
    ∃ p len cap, v = .slice p len cap ∧ len ≤ cap ∧ cap ≤ 9223372036854775807 ∧ (0 < len → ∃ b off n, p = some ⟨b, off, none⟩ ∧ fuel = n + 1 ∧ ∀ i, i < len → ∃ cs' y', cs'.length = k ∧ W.rangeAt b (off + i * k) cs' ∧ DataW.trod enc Tryz.prog W 0 (fun _ => true) true n e cs' = some y' ∧ Rows.uptoBulk y'.1 ≤ 1048576) := by
  rcases DataW.trod_slice ht h with ⟨hcs, _⟩ | ⟨a, len, cap, elems, rest, n, hf, hcs, hxx, _, hl, hm, hlen, hel, _⟩
  · obtain rfl : v = .slice none 0 0 := by simpa using hcs
    exact ⟨none, 0, 0, rfl, Nat.le_refl _, by decide, fun h => absurd h (by omega)⟩
  · obtain rfl : v = .slice (some a) len cap := by simpa using hcs
    have each : ∀ i, i < len → ∃ cs' y', W.cells? 0 (a.add (i * k)) k = some cs' ∧ DataW.trod enc Tryz.prog W 0 (fun _ => true) true n e cs' = some y' ∧ Rows.uptoBulk y'.1 ≤ 1048576 := fun i hi => by
      have h1 := hel i hi
      rw [hk] at h1
      have h2 : ∃ y', elems[i]? = some y' := ⟨_, List.getElem?_eq_getElem (by omega)⟩
      obtain ⟨y', h2⟩ := h2
      rw [h2] at h1
      obtain ⟨cs', h3, h4⟩ := Option.bind_eq_some_iff.1 h1
      refine ⟨cs', y', h3, h4, ?_⟩
      rw [hxx] at hb
      simp only [Rows.uptoBulk] at hb
      have := bulk_part (List.mem_map.2 ⟨y', List.mem_of_getElem? h2, rfl⟩ : y'.1 ∈ elems.map (·.1))
      omega
    refine ⟨some a, len, cap, rfl, hl, by unfold maxLen at hm; omega, fun hpos => ?_⟩
    obtain ⟨b, off, spot⟩ := a
    have hspot : spot = none := by
      obtain ⟨cs', y', h1, _, _⟩ := each 0 hpos
      obtain ⟨_, hlen', hcell⟩ := World.cells?_some h1
      have := hcell 0 (by omega)
      rw [List.getElem?_eq_getElem (by omega)] at this
      simpa [Addr.add] using World.cell?_spot this
    subst hspot
    refine ⟨b, off, n, rfl, hf, fun i hi => ?_⟩
    obtain ⟨cs', y', h1, h2, hbb⟩ := each i hi
    obtain ⟨_, hlen', hcell⟩ := World.cells?_some h1
    refine ⟨cs', y', hlen', fun j u hu => ?_, h2, hbb⟩
    have hj := (List.getElem?_eq_some_iff.1 hu).1
    have := hcell j (by omega)
    rw [Go.Deep.add_add, add_plain, ← Nat.add_assoc] at this
    rw [this]
    exact hu
theorem azXs_all : ∀ {l : List Xv}, (∀ (i : Nat) x, l[i]? = some x → azX (cX x)) → azXs (cXs l)
  | [], _ => by unfold cXs azXs; trivial
  | a :: l, h => by
    unfold cXs azXs
    exact ⟨h 0 a rfl, azXs_all fun i x e => h (i + 1) x (by simpa using e)⟩
theorem azSs_all : ∀ {l : List Sv}, (∀ (i : Nat) x, l[i]? = some x → azS (cS x)) → azSs (cSs l)
  | [], _ => by unfold cSs azSs; trivial
  | a :: l, h => by
    unfold cSs azSs
    exact ⟨h 0 a rfl, azSs_all fun i x e => h (i + 1) x (by simpa using e)⟩
/-- a step, an expression that came in -/
def InS {H : Type} (enc : TypeId × Value → H) (W : World) (fuel : Nat) : Prop := ∀ (cs : List Value) (y : DataW H × List MemPlace), cs.length = 4 → DataW.trod enc Tryz.prog W 0 (fun _ => true) true fuel 61 cs = some y → Rows.uptoBulk y.1 ≤ 1048576 → ∃ x : Sv, cs = x.enc ∧ OkS W x ∧ azS (cS x)
def InX {H : Type} (enc : TypeId × Value → H) (W : World) (fuel : Nat) : Prop := ∀ (cs : List Value) (y : DataW H × List MemPlace), cs.length = 7 → DataW.trod enc Tryz.prog W 0 (fun _ => true) true fuel 121 cs = some y → Rows.uptoBulk y.1 ≤ 1048576 → ∃ x : Xv, cs = x.enc ∧ OkX W x ∧ azX (cX x)
end Ak
set_option maxRecDepth 100000 in
theorem akRowXOf {H : Type} {enc : TypeId × Value → H} {W : World} {fuel : Nat} (ih : ∀ k, k < fuel → Ak.InX enc W k) {v : Value} {y : DataW H × List MemPlace} (h : DataW.trod enc Tryz.prog W 0 (fun _ => true) true fuel 59 [v] = some y) (hb : Rows.uptoBulk y.1 ≤ 1048576) :
    ∃ p c l, v = .slice p l.length c ∧ Ak.RowX W p c l ∧ Ak.azXs (Ak.cXs l) := by
  obtain ⟨p, len, cap, rfl, h1, h2, h3⟩ := Ak.sl_open Tryz.underlying59 (show Tryz.prog.cellsOf 121 = 7 by kernel_rfl) (by omega) hb h
  by_cases c : 0 < len
  · obtain ⟨b, off, n', rfl, hn, each⟩ := h3 c
    obtain ⟨l, hl, hp⟩ := Ak.list_of len (P := fun i (x : Ak.Xv) => (W.rangeAt b (off + i * 7) x.enc ∧ Ak.OkX W x) ∧ Ak.azX (Ak.cX x)) fun i hi => by
      obtain ⟨cs', y', e1, e2, e3, e4⟩ := each i hi
      obtain ⟨x, rfl, hx, hz⟩ := ih n' (by omega) cs' y' e1 e3 e4
      exact ⟨x, ⟨e2, hx⟩, hz⟩
    subst hl
    exact ⟨some ⟨b, off, none⟩, cap, l, rfl, ⟨h1, h2, fun _ => ⟨b, off, rfl, fun i x e => (hp i x e).1⟩⟩, Ak.azXs_all fun i x e => (hp i x e).2⟩
  · obtain rfl : len = 0 := by omega
    exact ⟨p, cap, [], rfl, ⟨h1, h2, fun h => absurd h (by simp)⟩, Ak.azXs_all fun i x e => by simp at e⟩
set_option maxRecDepth 100000 in
theorem akRowSOf {H : Type} {enc : TypeId × Value → H} {W : World} {fuel : Nat} (ih : ∀ k, k < fuel → Ak.InS enc W k) {v : Value} {y : DataW H × List MemPlace} (h : DataW.trod enc Tryz.prog W 0 (fun _ => true) true fuel 23 [v] = some y) (hb : Rows.uptoBulk y.1 ≤ 1048576) :
    ∃ p c l, v = .slice p l.length c ∧ Ak.RowS W p c l ∧ Ak.azSs (Ak.cSs l) := by
  obtain ⟨p, len, cap, rfl, h1, h2, h3⟩ := Ak.sl_open Tryz.underlying23 (show Tryz.prog.cellsOf 61 = 4 by kernel_rfl) (by omega) hb h
  by_cases c : 0 < len
  · obtain ⟨b, off, n', rfl, hn, each⟩ := h3 c
    obtain ⟨l, hl, hp⟩ := Ak.list_of len (P := fun i (x : Ak.Sv) => (W.rangeAt b (off + i * 4) x.enc ∧ Ak.OkS W x) ∧ Ak.azS (Ak.cS x)) fun i hi => by
      obtain ⟨cs', y', e1, e2, e3, e4⟩ := each i hi
      obtain ⟨x, rfl, hx, hz⟩ := ih n' (by omega) cs' y' e1 e3 e4
      exact ⟨x, ⟨e2, hx⟩, hz⟩
    subst hl
    exact ⟨some ⟨b, off, none⟩, cap, l, rfl, ⟨h1, h2, fun _ => ⟨b, off, rfl, fun i x e => (hp i x e).1⟩⟩, Ak.azSs_all fun i x e => (hp i x e).2⟩
  · obtain rfl : len = 0 := by omega
    exact ⟨p, cap, [], rfl, ⟨h1, h2, fun h => absurd h (by simp)⟩, Ak.azSs_all fun i x e => by simp at e⟩
set_option maxRecDepth 100000 in
theorem akPathOf {H : Type} {enc : TypeId × Value → H} {W : World} {fuel : Nat} (ih : ∀ k, k < fuel → Ak.InS enc W k) {v : Value} {y : DataW H × List MemPlace} (h : DataW.trod enc Tryz.prog W 0 (fun _ => true) true fuel 25 [v] = some y) (hb : Rows.uptoBulk y.1 ≤ 1048576) :
    ∃ p c l, v = .slice p l.length c ∧ Ak.RowS W p c l ∧ Ak.azSs (Ak.cSs l) := by
  obtain ⟨ys, k, hk, hyy, _, hxl, hfl⟩ := DataW.trod_struct Tryz.underlying25 h
  match ys, hxl with
  | [y0], _ =>
    have g0 := hfl 0 _ rfl
    have c0 : Tryz.prog.cellsOf 23 = 1 := by kernel_rfl
    simp [c0] at g0
    exact akRowSOf (fun j hj => ih j (by omega)) g0 (Ak.bulk_field hyy (by simp) hb)
set_option maxRecDepth 100000 in
set_option maxHeartbeats 1600000 in
theorem akInOf {H : Type} (enc : TypeId × Value → H) (W : World) (fuel : Nat) : Ak.InS enc W fuel ∧ Ak.InX enc W fuel := by
  induction fuel using Nat.strongRecOn with
  | _ fuel ih =>
    have c0 : Tryz.prog.cellsOf 3 = 1 := by kernel_rfl
    have c1 : Tryz.prog.cellsOf 9 = 1 := by kernel_rfl
    have c2 : Tryz.prog.cellsOf 59 = 1 := by kernel_rfl
    have c3 : Tryz.prog.cellsOf 25 = 1 := by kernel_rfl
    have c4 : Tryz.prog.cellsOf 57 = 1 := by kernel_rfl
    have c5 : Tryz.prog.cellsOf 58 = 1 := by kernel_rfl
    have c6 : Tryz.prog.cellsOf 118 = 1 := by kernel_rfl
    have c7 : Tryz.prog.cellsOf 119 = 1 := by kernel_rfl
    have cE : ∀ k t, (Tryz.prog.underlying t = some (.int .i64)) → ∀ v y, DataW.trod enc Tryz.prog W 0 (fun _ => true) true k t [v] = some y → ∃ x, v = .int .i64 x := fun k t ht v y hy => by
      obtain ⟨x, hx, _, _⟩ := DataW.trod_int ht hy
      exact ⟨x, by simpa using hx⟩
    have cT : ∀ k v y, DataW.trod enc Tryz.prog W 0 (fun _ => true) true k 9 [v] = some y → Rows.uptoBulk y.1 ≤ 1048576 → ∃ s : ByteArray, v = .string s ∧ s.size ≤ 140737488355328 := fun k v y hy hb => by
      obtain ⟨x, hx, h1, h2⟩ := DataW.trod_string Tryz.underlying9 hy
      refine ⟨x, by simpa using hx, ?_⟩
      rw [h1] at hb
      simp only [Rows.uptoBulk] at hb
      have : x.data.toList.length = x.size := rfl
      omega
    constructor
    · intro cs y hlen h hb
      obtain ⟨ys, k, hk, hyy, _, hxl, hfl⟩ := DataW.trod_struct Tryz.underlying61 h
      match ys, hxl, cs, hlen with
      | [y0, y1, y2, y3], _, [v0, v1, v2, v3], _ =>
        have g0 := hfl 0 _ rfl
        have g1 := hfl 1 _ rfl
        have g2 := hfl 2 _ rfl
        have g3 := hfl 3 _ rfl
        simp [c1, c2, c4, c5] at g0 g1 g2 g3
        obtain ⟨a, rfl⟩ := cE _ 57 Tryz.underlying57 _ y0 g0
        obtain ⟨b, rfl⟩ := cE _ 58 Tryz.underlying58 _ y1 g1
        obtain ⟨s, rfl, hs⟩ := cT _ _ _ g2 (Ak.bulk_field hyy (by simp) hb)
        obtain ⟨p, c, l, rfl, hR, hz⟩ := akRowXOf (fun j hj => (ih j (by omega)).2) g3 (Ak.bulk_field hyy (by simp) hb)
        exact ⟨.mk a b s p c l, rfl, Ak.OkS.of hR, by unfold Ak.cS Ak.azS; exact ⟨hs, hz⟩⟩
    · intro cs y hlen h hb
      obtain ⟨ys, k, hk, hyy, _, hxl, hfl⟩ := DataW.trod_struct Tryz.underlying121 h
      match ys, hxl, cs, hlen with
      | [y0, y1, y2, y3, y4, y5, y6], _, [v0, v1, v2, v3, v4, v5, v6], _ =>
        have g0 := hfl 0 _ rfl
        have g1 := hfl 1 _ rfl
        have g2 := hfl 2 _ rfl
        have g3 := hfl 3 _ rfl
        have g4 := hfl 4 _ rfl
        have g5 := hfl 5 _ rfl
        have g6 := hfl 6 _ rfl
        simp [c0, c1, c2, c3, c6, c7] at g0 g1 g2 g3 g4 g5 g6
        obtain ⟨a, rfl⟩ := cE _ 118 Tryz.underlying118 _ y0 g0
        obtain ⟨p, c, l, rfl, hR, hz⟩ := akRowXOf (fun j hj => (ih j (by omega)).2) g1 (Ak.bulk_field hyy (by simp) hb)
        obtain ⟨q, d, m, rfl, hR2, hz2⟩ := akPathOf (fun j hj => (ih j (by omega)).1) g2 (Ak.bulk_field hyy (by simp) hb)
        obtain ⟨s, rfl, hs⟩ := cT _ _ _ g3 (Ak.bulk_field hyy (by simp) hb)
        obtain ⟨b, rfl⟩ := cE _ 119 Tryz.underlying119 _ y4 g4
        obtain ⟨u, rfl, hu⟩ := cT _ _ _ g5 (Ak.bulk_field hyy (by simp) hb)
        obtain ⟨e, rfl⟩ := cE _ 3 Tryz.underlying3 _ y6 g6
        exact ⟨.mk a p c l q d m s b u e, rfl, Ak.OkX.of hR hR2, by unfold Ak.cX Ak.azX; exact ⟨hs, hu, hz, hz2⟩⟩
set_option maxRecDepth 100000 in
/-- a path that came in -/
theorem akPath_of {H : Type} {enc : TypeId × Value → H} {W : World} {cs : Array Value} {d : DataW H} {p : List MemPlace} (hcs : cs.size = Tryz.prog.cellsOf 25) (h : DataW.Trod enc Tryz.prog W 0 (fun _ => true) true 25 (Value.agg cs) d p) (hb : Rows.uptoBulk d ≤ 1048576) :
    ∃ q c l, cs = #[.slice q l.length c] ∧ Ak.RowS W q c l ∧ Ak.azSs (Ak.cSs l) := by
  rw [show Tryz.prog.cellsOf 25 = 1 from by kernel_rfl] at hcs
  obtain ⟨l⟩ := cs
  match l, hcs with
  | [v0], _ =>
    obtain ⟨fuel, hf⟩ := h
    change DataW.trod enc Tryz.prog W 0 (fun _ => true) true fuel 25 [v0] = some (d, p) at hf
    obtain ⟨q, c, l, rfl, h1, h2⟩ := akPathOf (fun k _ => (akInOf enc W k).1) hf hb
    exact ⟨q, c, l, rfl, h1, h2⟩
end Go.Proofs.YtcnagbkdckipnaaGreatDoor
