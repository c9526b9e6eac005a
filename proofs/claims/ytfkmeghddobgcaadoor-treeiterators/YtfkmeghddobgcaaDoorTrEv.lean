/-
  Events in memory.
-/
import Derived.Test.YtfkmeghddobgcaaDoorTrMath
import Derived.Test.YtfkmeghddobgcaaDoorChName
import Derived.Test.YtfkmeghddobgcaaDoorRnCat
import Derived.Laws.AppendOwn
import Derived.Laws.AppendOwnNone
import Derived.Maps.AppendAt
namespace Go.Proofs.YtfkmeghddobgcaaDoor
open Go.RowKit Go.Lib
namespace Tr
def Ev.cs (e : Ev Value) : Array Value := #[.int .i64 e.kind, .int .i64 e.num, .int .i64 e.dep, .string e.nm, e.av, .string e.tx, .int .i64 e.fr, .int .i64 e.be]
/-- attributes one behind the other -/
def AtRow (W : World) (v : Value) (l : List (ByteArray × ByteArray)) : Prop :=
  ∃ p cap, v = .slice p l.length cap ∧ l.length ≤ cap ∧ cap ≤ 9223372036854775807 ∧ (p = none → cap = 0) ∧
    (0 < l.length → ∃ b o, p = some ⟨b, o, none⟩ ∧ ∀ i x, l[i]? = some x → W.cell? ⟨b, o + i * 2, none⟩ = some (.string x.1) ∧ W.cell? ⟨b, o + i * 2 + 1, none⟩ = some (.string x.2))
/-- events one behind the other: their own cells -/
def EvRow (W : World) (v : Value) (n : Nat) (E : Nat → Ev Value) : Prop :=
  ∃ p cap, v = .slice p n cap ∧ n ≤ cap ∧ cap ≤ 9223372036854775807 ∧ (p = none → cap = 0) ∧
    (0 < n → ∃ b o, p = some ⟨b, o, none⟩ ∧ ∀ i j u, i < n → (E i).cs[j]? = some u → W.cell? ⟨b, o + i * 8 + j, none⟩ = some u)
/-- the whole of them, and how great they are -/
structure Evs (W : World) (v : Value) (n : Nat) (E : Nat → Ev Value) : Prop where
  row : EvRow W v n E
  att : ∀ i, i < n → AtRow W (E i).av (E i).ats
def Small (e : Ev Value) : Prop := e.nm.size ≤ 140737488351232 ∧ e.tx.size ≤ 140737488351232 ∧ e.ats.length ≤ 4398046510976 ∧ ∀ x ∈ e.ats, x.1.size ≤ 140737488351232 ∧ x.2.size ≤ 140737488351232
def Tiny (e : Ev Value) : Prop := e.nm.size ≤ 1048576 ∧ e.tx.size ≤ 1048576 ∧ e.ats.length ≤ 1048576 ∧ ∀ x ∈ e.ats, x.1.size ≤ 1048576 ∧ x.2.size ≤ 1048576
theorem Tiny.small {e : Ev Value} (h : Tiny e) : Small e :=
  ⟨Nat.le_trans h.1 (by omega), Nat.le_trans h.2.1 (by omega), Nat.le_trans h.2.2.1 (by omega), fun x hx => ⟨Nat.le_trans (h.2.2.2 x hx).1 (by omega), Nat.le_trans (h.2.2.2 x hx).2 (by omega)⟩⟩
theorem AtRow.keep {W W' : World} {v : Value} {l : List (ByteArray × ByteArray)} (h : AtRow W v l) (hk : ∀ a u, W.cell? a = some u → some a.block = v.ownBlock → W'.cell? a = some u) : AtRow W' v l := by
  obtain ⟨p, cap, e, c1, c2, c2', c3⟩ := h
  refine ⟨p, cap, e, c1, c2, c2', fun h0 => ?_⟩
  obtain ⟨b, o, e2, c4⟩ := c3 h0
  have hb : v.ownBlock = some b := by rw [e, e2]; rfl
  exact ⟨b, o, e2, fun i x hx => ⟨hk _ _ (c4 i x hx).1 hb.symm, hk _ _ (c4 i x hx).2 hb.symm⟩⟩
theorem AtRow.below {W W' : World} {v : Value} {l : List (ByteArray × ByteArray)} {B : Nat} (h : AtRow W v l) (hb : Below B W W') (hB : W.heap.size ≤ B) : AtRow W' v l :=
  h.keep fun a _ hu _ => (hb.cell (p := a) (Nat.lt_of_lt_of_le (block_lt_of_cell hu) hB)).trans hu
theorem EvRow.keep {W W' : World} {v : Value} {n : Nat} {E : Nat → Ev Value} (h : EvRow W v n E) (hk : ∀ a u, W.cell? a = some u → some a.block = v.ownBlock → W'.cell? a = some u) : EvRow W' v n E := by
  obtain ⟨p, cap, e, c1, c2, c2', c3⟩ := h
  refine ⟨p, cap, e, c1, c2, c2', fun h0 => ?_⟩
  obtain ⟨b, o, e2, c4⟩ := c3 h0
  have hb : v.ownBlock = some b := by rw [e, e2]; rfl
  exact ⟨b, o, e2, fun i j u h1 h2 => hk _ _ (c4 i j u h1 h2) hb.symm⟩
theorem EvRow.below {W W' : World} {v : Value} {n : Nat} {E : Nat → Ev Value} {B : Nat} (h : EvRow W v n E) (hb : Below B W W') (hB : W.heap.size ≤ B) : EvRow W' v n E :=
  h.keep fun a _ hu _ => (hb.cell (p := a) (Nat.lt_of_lt_of_le (block_lt_of_cell hu) hB)).trans hu
theorem Evs.below {W W' : World} {v : Value} {n : Nat} {E : Nat → Ev Value} {B : Nat} (h : Evs W v n E) (hb : Below B W W') (hB : W.heap.size ≤ B) : Evs W' v n E :=
  ⟨h.row.below hb hB, fun i hi => (h.att i hi).below hb hB⟩
/-- the slice that begins where events lie -/
theorem EvRow.at {W : World} {v : Value} {n : Nat} {E : Nat → Ev Value} (h : EvRow W v n E) (h0 : 0 < n) : ∃ b o cap, v = .slice (some ⟨b, o, none⟩) n cap ∧ n ≤ cap ∧ cap ≤ 9223372036854775807 ∧ ∀ i, i < n →
    W.cell? ⟨b, o + i * 8, none⟩ = some (.int .i64 (E i).kind) ∧ W.cell? ⟨b, o + i * 8 + 1, none⟩ = some (.int .i64 (E i).num) ∧ W.cell? ⟨b, o + i * 8 + 2, none⟩ = some (.int .i64 (E i).dep) ∧ W.cell? ⟨b, o + i * 8 + 3, none⟩ = some (.string (E i).nm) ∧
    W.cell? ⟨b, o + i * 8 + 4, none⟩ = some (E i).av ∧ W.cell? ⟨b, o + i * 8 + 5, none⟩ = some (.string (E i).tx) ∧ W.cell? ⟨b, o + i * 8 + 6, none⟩ = some (.int .i64 (E i).fr) ∧ W.cell? ⟨b, o + i * 8 + 7, none⟩ = some (.int .i64 (E i).be) := by
  obtain ⟨p, cap, e, c1, c2, c2', c3⟩ := h
  obtain ⟨b, o, e2, c4⟩ := c3 h0
  refine ⟨b, o, cap, by rw [e, e2], c1, c2, fun i hi => ⟨c4 i 0 _ hi rfl, c4 i 1 _ hi rfl, c4 i 2 _ hi rfl, c4 i 3 _ hi rfl, c4 i 4 _ hi rfl, c4 i 5 _ hi rfl, c4 i 6 _ hi rfl, c4 i 7 _ hi rfl⟩⟩
/-- the cells of events -/
def cells (E : Nat → Ev Value) (l : List Nat) : List Value := l.flatMap fun i => (E i).cs.toList
theorem cells_length (E : Nat → Ev Value) : ∀ l, (cells E l).length = l.length * 8
  | [] => rfl
  | i :: l => by
    show ((E i).cs.toList ++ cells E l).length = _
    rw [List.length_append, cells_length E l, List.length_cons]
    show 8 + _ = _
    omega
theorem cells_app (E : Nat → Ev Value) (l : List Nat) (i : Nat) : cells E (l ++ [i]) = cells E l ++ (E i).cs.toList := by simp [cells]
theorem cells_take (E : Nat → Ev Value) : ∀ (l : List Nat) (k : Nat), (cells E l).take (k * 8) = cells E (l.take k)
  | [], k => by simp [cells]
  | i :: l, 0 => by simp [cells]
  | i :: l, k + 1 => by
    have ih := cells_take E l k
    show ((E i).cs.toList ++ cells E l).take ((k + 1) * 8) = (E i).cs.toList ++ cells E (l.take k)
    rw [List.take_append, List.take_of_length_le (by show 8 ≤ _; omega)]
    congr 1
    rw [← ih]
    congr 1
    show (k + 1) * 8 - 8 = _
    omega
theorem cells_get (E : Nat → Ev Value) : ∀ (l : List Nat) (k i j : Nat), l[k]? = some i → j < 8 → (cells E l)[k * 8 + j]? = (E i).cs[j]?
  | [], k, i, j, h, _ => by simp at h
  | a :: l, 0, i, j, h, hj => by
    obtain rfl : a = i := by simpa using h
    show ((E a).cs.toList ++ cells E l)[0 * 8 + j]? = _
    rw [List.getElem?_append_left (by show _ < 8; omega), Nat.zero_mul, Nat.zero_add, Array.getElem?_toList]
  | a :: l, k + 1, i, j, h, hj => by
    show ((E a).cs.toList ++ cells E l)[(k + 1) * 8 + j]? = _
    rw [List.getElem?_append_right (by show 8 ≤ _; omega)]
    have := cells_get E l k i j (by simpa using h) hj
    rw [← this]
    congr 1
    show (k + 1) * 8 + j - 8 = _
    omega
def OneAv (e : Ev Value) : Prop := e.av.oneCell' = true
theorem AtRow.one {W : World} {v : Value} {l : List (ByteArray × ByteArray)} (h : AtRow W v l) : v.oneCell' = true := by
  obtain ⟨p, cap, rfl, _⟩ := h
  rfl
theorem cs_one {e : Ev Value} (h : e.av.oneCell' = true) : ∀ u ∈ e.cs.toList, u.oneCell' = true := by
  intro u hu
  simp [Ev.cs] at hu
  rcases hu with rfl | rfl | rfl | rfl | rfl | rfl | rfl | rfl
  · rfl
  · rfl
  · rfl
  · rfl
  · exact h
  · rfl
  · rfl
  · rfl
/-- a row that is cut shorter -/
theorem owns_shrink {w : World} {B : Nat} {t : TypeId} {size : Nat} {g n cap m : Nat} {xs : List Value} (h : w.ownsRow B t size (.slice (some ⟨g, 0, none⟩) n cap) n xs) (hm : m ≤ n) : w.ownsRow B t size (.slice (some ⟨g, 0, none⟩) m cap) m (xs.take (m * size)) := by
  have hmul : m * size ≤ n * size := Nat.mul_le_mul_right _ hm
  refine ⟨by rw [List.length_take, h.1]; omega, .inr ?_⟩
  rcases h.2 with ⟨e, _⟩ | ⟨g', cap', cur, e, h1, h2, h3, h4, h5, h6⟩
  · cases e
  · cases e
    refine ⟨g, cap, cur, rfl, h1, h2, by omega, h4, h5, ?_⟩
    rw [← h6, List.take_take, Nat.min_eq_left hmul]
theorem keepB {w w' : World} {B B' : Nat} {e : TypeId} {size : Nat} {v : Value} {n : Nat} {ys : List Value} (h : w.ownsRow B e size v n ys) (hb : Below B' w w') (hB : w.heap.size ≤ B') : w'.ownsRow B e size v n ys := by
  refine ⟨h.1, ?_⟩
  rcases h.2 with h1 | ⟨g, cap, cur, hv, hb1, hg, rest⟩
  · exact .inl h1
  · exact .inr ⟨g, cap, cur, hv, hb1, (hb.block g (Nat.lt_of_lt_of_le (Array.getElem?_eq_some_iff.1 hg).1 hB)).trans hg, rest⟩
/-- what chars.Name, Texts say of a text -/
def nameB (s : ByteArray) : Bool := Ch.allFrom (Rn.lf s.data.toList) s.size 3 s.size 0 2 && (decide (0 < s.size) && Ch.valid (Rn.lf s.data.toList) s.size)
def textB (s : ByteArray) : Bool := Ch.allFrom (Rn.lf s.data.toList) s.size 0 s.size 0 0 && Ch.valid (Rn.lf s.data.toList) s.size
theorem arr_self (s : ByteArray) : Rn.arr (Rn.lf s.data.toList) s.size = s := by
  have h := Rn.arr_lf s.data.toList
  have e : s.data.toList.length = s.size := rfl
  rw [e] at h
  rw [h]
theorem lf_lt (l : List UInt8) (j : Nat) : Rn.lf l j < 256 := UInt8.toNat_lt _
end Tr
theorem chName (s : ByteArray) (w : World) (hn : s.size ≤ 140737488351232) (hS : Spans w) (hT : Lib.Utf8Tabs 1 2 w) :
    Calls Tryd.prog 54 #[.string s] w fun e w' => e = .returned (.bool (Tr.nameB s)) ∧ Below w.heap.size w w' := by
  have h := name_any (Rn.lf s.data.toList) s.size w (Tr.lf_lt _) (by omega) hS hT
  rw [Tr.arr_self] at h
  exact h
theorem chTexts (s : ByteArray) (w : World) (hn : s.size ≤ 140737488351232) (hS : Spans w) (hT : Lib.Utf8Tabs 1 2 w) :
    Calls Tryd.prog 56 #[.string s] w fun e w' => e = .returned (.bool (Tr.textB s)) ∧ Below w.heap.size w w' := by
  have h := texts_any (Rn.lf s.data.toList) s.size w (Tr.lf_lt _) (by omega) hS hT
  rw [Tr.arr_self] at h
  exact h
end Go.Proofs.YtfkmeghddobgcaaDoor
