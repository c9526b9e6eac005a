import Derived.Test.YtcmjipgigkalcaaDoorTrMath
import Derived.Test.YtcmjipgigkalcaaDoorChName
import Derived.Test.YtcmjipgigkalcaaDoorRnCat
import Derived.Laws.AppendOwn
import Derived.Laws.AppendOwnNone
import Derived.Maps.AppendAt
import Derived.Deep.QuietTactic
import Derived.BigQuiet
/-
  Events in memory.
-/
namespace Go.Proofs.YtcmjipgigkalcaaDoor
open Go.RowKit Go.Lib
namespace Tr
def Ev.cs (e : Ev Value) : Array Value := #[.int .i64 e.kind, .int .i64 e.num, .int .i64 e.dep, .string e.nm, e.av, .string e.tx, .int .i64 e.fr, .int .i64 e.be]
/-- attributes one behind the other -/
def AtRow (W : World) (v : Value) (l : List (ByteArray × ByteArray)) : Prop :=
  ∃ p cap, v = .slice p l.length cap ∧ l.length ≤ cap ∧ cap ≤ 9223372036854775807 ∧ (p = none → cap = 0) ∧
    (0 < l.length → ∃ b o, p = some ⟨b, o, none⟩ ∧ ∀ i x, l[i]? = some x → W.cell? ⟨b, o + i * 2, none⟩ = some (.string x.1) ∧ W.cell? ⟨b, o + i * 2 + 1, none⟩ = some (.string x.2))
/-- events one behind the other: their own cells -/
def EvRow (W : World) (v : Value) (n : Nat) (E : Nat → Ev Value) : Prop :=
  ∃ p cap, v = .slice p n cap ∧ n ≤ cap ∧ cap ≤ 9223372036854775807 ∧ (p = none → cap = 0) ∧
    (0 < n → ∃ b o, p = some ⟨b, o, none⟩ ∧ ∀ i j u, i < n → (E i).cs[j]? = some u → W.cell? ⟨b, o + i * 8 + j, none⟩ = some u)
/-- the whole of them, and how great they are -/
structure Evs (W : World) (v : Value) (n : Nat) (E : Nat → Ev Value) : Prop where
  row : EvRow W v n E
  att : ∀ i, i < n → AtRow W (E i).av (E i).ats
def Small (e : Ev Value) : Prop := e.nm.size ≤ 140737488351232 ∧ e.tx.size ≤ 140737488351232 ∧ e.ats.length ≤ 4398046510976 ∧ ∀ x ∈ e.ats, x.1.size ≤ 140737488351232 ∧ x.2.size ≤ 140737488351232
def Tiny (e : Ev Value) : Prop := e.nm.size ≤ 1048576 ∧ e.tx.size ≤ 1048576 ∧ e.ats.length ≤ 1048576 ∧ ∀ x ∈ e.ats, x.1.size ≤ 1048576 ∧ x.2.size ≤ 1048576
theorem Tiny.small {e : Ev Value} (h : Tiny e) : Small e :=
  ⟨Nat.le_trans h.1 (by omega), Nat.le_trans h.2.1 (by omega), Nat.le_trans h.2.2.1 (by omega), fun x hx => ⟨Nat.le_trans (h.2.2.2 x hx).1 (by omega), Nat.le_trans (h.2.2.2 x hx).2 (by omega)⟩⟩
theorem AtRow.keep {W W' : World} {v : Value} {l : List (ByteArray × ByteArray)} (h : AtRow W v l) (hk : ∀ a u, W.cell? a = some u → some a.block = v.ownBlock → W'.cell? a = some u) : AtRow W' v l := by
  obtain ⟨p, cap, e, c1, c2, c2', c3⟩ := h
  refine ⟨p, cap, e, c1, c2, c2', fun h0 => ?_⟩
  obtain ⟨b, o, e2, c4⟩ := c3 h0
  have hb : v.ownBlock = some b := by rw [e, e2]; rfl
  exact ⟨b, o, e2, fun i x hx => ⟨hk _ _ (c4 i x hx).1 hb.symm, hk _ _ (c4 i x hx).2 hb.symm⟩⟩
theorem AtRow.below {W W' : World} {v : Value} {l : List (ByteArray × ByteArray)} {B : Nat} (h : AtRow W v l) (hb : Below B W W') (hB : W.heap.size ≤ B) : AtRow W' v l :=
  h.keep fun a _ hu _ => (hb.cell (p := a) (Nat.lt_of_lt_of_le (block_lt_of_cell hu) hB)).trans hu
theorem EvRow.keep {W W' : World} {v : Value} {n : Nat} {E : Nat → Ev Value} (h : EvRow W v n E) (hk : ∀ a u, W.cell? a = some u → some a.block = v.ownBlock → W'.cell? a = some u) : EvRow W' v n E := by
  obtain ⟨p, cap, e, c1, c2, c2', c3⟩ := h
  refine ⟨p, cap, e, c1, c2, c2', fun h0 => ?_⟩
  obtain ⟨b, o, e2, c4⟩ := c3 h0
  have hb : v.ownBlock = some b := by rw [e, e2]; rfl
  exact ⟨b, o, e2, fun i j u h1 h2 => hk _ _ (c4 i j u h1 h2) hb.symm⟩
theorem EvRow.below {W W' : World} {v : Value} {n : Nat} {E : Nat → Ev Value} {B : Nat} (h : EvRow W v n E) (hb : Below B W W') (hB : W.heap.size ≤ B) : EvRow W' v n E :=
  h.keep fun a _ hu _ => (hb.cell (p := a) (Nat.lt_of_lt_of_le (block_lt_of_cell hu) hB)).trans hu
theorem Evs.below {W W' : World} {v : Value} {n : Nat} {E : Nat → Ev Value} {B : Nat} (h : Evs W v n E) (hb : Below B W W') (hB : W.heap.size ≤ B) : Evs W' v n E :=
  ⟨h.row.below hb hB, fun i hi => (h.att i hi).below hb hB⟩
/-- the slice that begins where events lie -/
theorem EvRow.at {W : World} {v : Value} {n : Nat} {E : Nat → Ev Value} (h : EvRow W v n E) (h0 : 0 < n) : ∃ b o cap, v = .slice (some ⟨b, o, none⟩) n cap ∧ n ≤ cap ∧ cap ≤ 9223372036854775807 ∧ ∀ i, i < n →
    W.cell? ⟨b, o + i * 8, none⟩ = some (.int .i64 (E i).kind) ∧ W.cell? ⟨b, o + i * 8 + 1, none⟩ = some (.int .i64 (E i).num) ∧ W.cell? ⟨b, o + i * 8 + 2, none⟩ = some (.int .i64 (E i).dep) ∧ W.cell? ⟨b, o + i * 8 + 3, none⟩ = some (.string (E i).nm) ∧
    W.cell? ⟨b, o + i * 8 + 4, none⟩ = some (E i).av ∧ W.cell? ⟨b, o + i * 8 + 5, none⟩ = some (.string (E i).tx) ∧ W.cell? ⟨b, o + i * 8 + 6, none⟩ = some (.int .i64 (E i).fr) ∧ W.cell? ⟨b, o + i * 8 + 7, none⟩ = some (.int .i64 (E i).be) := by
  obtain ⟨p, cap, e, c1, c2, c2', c3⟩ := h
  obtain ⟨b, o, e2, c4⟩ := c3 h0
  refine ⟨b, o, cap, by rw [e, e2], c1, c2, fun i hi => ⟨c4 i 0 _ hi rfl, c4 i 1 _ hi rfl, c4 i 2 _ hi rfl, c4 i 3 _ hi rfl, c4 i 4 _ hi rfl, c4 i 5 _ hi rfl, c4 i 6 _ hi rfl, c4 i 7 _ hi rfl⟩⟩
/-- the cells of events -/
def cells (E : Nat → Ev Value) (l : List Nat) : List Value := l.flatMap fun i => (E i).cs.toList
theorem cells_length (E : Nat → Ev Value) : ∀ l, (cells E l).length = l.length * 8
  | [] => rfl
  | i :: l => by
    show ((E i).cs.toList ++ cells E l).length = _
    rw [List.length_append, cells_length E l, List.length_cons]
    show 8 + _ = _
    omega
theorem cells_app (E : Nat → Ev Value) (l : List Nat) (i : Nat) : cells E (l ++ [i]) = cells E l ++ (E i).cs.toList := by simp [cells]
theorem cells_take (E : Nat → Ev Value) : ∀ (l : List Nat) (k : Nat), (cells E l).take (k * 8) = cells E (l.take k)
  | [], k => by simp [cells]
  | i :: l, 0 => by simp [cells]
  | i :: l, k + 1 => by
    have ih := cells_take E l k
    show ((E i).cs.toList ++ cells E l).take ((k + 1) * 8) = (E i).cs.toList ++ cells E (l.take k)
    rw [List.take_append, List.take_of_length_le (by show 8 ≤ _; omega)]
    congr 1
    rw [← ih]
    congr 1
    show (k + 1) * 8 - 8 = _
    omega
theorem cells_get (E : Nat → Ev Value) : ∀ (l : List Nat) (k i j : Nat), l[k]? = some i → j < 8 → (cells E l)[k * 8 + j]? = (E i).cs[j]?
  | [], k, i, j, h, _ => by simp at h
  | a :: l, 0, i, j, h, hj => by
    obtain rfl : a = i := by simpa using h
    show ((E a).cs.toList ++ cells E l)[0 * 8 + j]? = _
    rw [List.getElem?_append_left (by show _ < 8; omega), Nat.zero_mul, Nat.zero_add, Array.getElem?_toList]
  | a :: l, k + 1, i, j, h, hj => by
    show ((E a).cs.toList ++ cells E l)[(k + 1) * 8 + j]? = _
    rw [List.getElem?_append_right (by show 8 ≤ _; omega)]
    have := cells_get E l k i j (by simpa using h) hj
    rw [← this]
    congr 1
    show (k + 1) * 8 + j - 8 = _
    omega
def OneAv (e : Ev Value) : Prop := e.av.oneCell' = true
theorem AtRow.one {W : World} {v : Value} {l : List (ByteArray × ByteArray)} (h : AtRow W v l) : v.oneCell' = true := by
  obtain ⟨p, cap, rfl, _⟩ := h
  rfl
theorem cs_one {e : Ev Value} (h : e.av.oneCell' = true) : ∀ u ∈ e.cs.toList, u.oneCell' = true := by
  intro u hu
  simp [Ev.cs] at hu
  rcases hu with rfl | rfl | rfl | rfl | rfl | rfl | rfl | rfl
  · rfl
  · rfl
  · rfl
  · rfl
  · exact h
  · rfl
  · rfl
  · rfl
/-- a row that is cut shorter -/
theorem owns_shrink {w : World} {B : Nat} {t : TypeId} {size : Nat} {g n cap m : Nat} {xs : List Value} (h : w.ownsRow B t size (.slice (some ⟨g, 0, none⟩) n cap) n xs) (hm : m ≤ n) : w.ownsRow B t size (.slice (some ⟨g, 0, none⟩) m cap) m (xs.take (m * size)) := by
  have hmul : m * size ≤ n * size := Nat.mul_le_mul_right _ hm
  refine ⟨by rw [List.length_take, h.1]; omega, .inr ?_⟩
  rcases h.2 with ⟨e, _⟩ | ⟨g', cap', cur, e, h1, h2, h3, h4, h5, h6⟩
  · cases e
  · cases e
    refine ⟨g, cap, cur, rfl, h1, h2, by omega, h4, h5, ?_⟩
    rw [← h6, List.take_take, Nat.min_eq_left hmul]
theorem keepB {w w' : World} {B B' : Nat} {e : TypeId} {size : Nat} {v : Value} {n : Nat} {ys : List Value} (h : w.ownsRow B e size v n ys) (hb : Below B' w w') (hB : w.heap.size ≤ B') : w'.ownsRow B e size v n ys := by
  refine ⟨h.1, ?_⟩
  rcases h.2 with h1 | ⟨g, cap, cur, hv, hb1, hg, rest⟩
  · exact .inl h1
  · exact .inr ⟨g, cap, cur, hv, hb1, (hb.block g (Nat.lt_of_lt_of_le (Array.getElem?_eq_some_iff.1 hg).1 hB)).trans hg, rest⟩
/-- what chars.Name, Texts say of a text -/
def nameB (s : ByteArray) : Bool := Ch.allFrom (Rn.lf s.data.toList) s.size 3 s.size 0 2 && (decide (0 < s.size) && Ch.valid (Rn.lf s.data.toList) s.size)
def textB (s : ByteArray) : Bool := Ch.allFrom (Rn.lf s.data.toList) s.size 0 s.size 0 0 && Ch.valid (Rn.lf s.data.toList) s.size
theorem arr_self (s : ByteArray) : Rn.arr (Rn.lf s.data.toList) s.size = s := by
  have h := Rn.arr_lf s.data.toList
  have e : s.data.toList.length = s.size := rfl
  rw [e] at h
  rw [h]
theorem lf_lt (l : List UInt8) (j : Nat) : Rn.lf l j < 256 := UInt8.toNat_lt _
end Tr
theorem chName (s : ByteArray) (w : World) (hn : s.size ≤ 140737488351232) (hS : Spans w) (hT : Lib.Utf8Tabs 1 2 w) :
    Calls Tryd.prog 48 #[.string s] w fun e w' => e = .returned (.bool (Tr.nameB s)) ∧ Below w.heap.size w w' := by
  have h := name_any (Rn.lf s.data.toList) s.size w (Tr.lf_lt _) (by omega) hS hT
  rw [Tr.arr_self] at h
  exact h
theorem chTexts (s : ByteArray) (w : World) (hn : s.size ≤ 140737488351232) (hS : Spans w) (hT : Lib.Utf8Tabs 1 2 w) :
    Calls Tryd.prog 50 #[.string s] w fun e w' => e = .returned (.bool (Tr.textB s)) ∧ Below w.heap.size w w' := by
  have h := texts_any (Rn.lf s.data.toList) s.size w (Tr.lf_lt _) (by omega) hS hT
  rw [Tr.arr_self] at h
  exact h
end Go.Proofs.YtcmjipgigkalcaaDoor
/-
  WALKS over tree.isNext, isText, closes, areAttrs, isOpen.
-/
namespace Go.Proofs.YtcmjipgigkalcaaDoor
open Go.RowKit Go.Lib
namespace Tr
/-- what isText says -/
def isTextB (e : Ev Value) : Bool := decide (e.nm.toList = []) && (decide (e.ats.length = 0) && (!decide (e.tx.toList = []) && textB e.tx))
/-- what areAttrs says -/
def atsB : List (ByteArray × ByteArray) → Option ByteArray → Bool
  | [], _ => true
  | x :: l, p => nameB x.1 && (textB x.2 && ((match p with | none => true | some q => !(Op.bytesLess x.1.toList q.toList || x.1.toList == q.toList)) && atsB l (some x.1)))
/-- what isOpen says -/
def isOpenB (e : Ev Value) : Bool := decide (e.tx.toList = []) && (nameB e.nm && atsB e.ats none)
def okB (e : Ev Value) : Bool := if e.kind = 0 then isOpenB e else isTextB e
end Tr
set_option maxHeartbeats 1000000 in
theorem trIsNext (e : Tr.Ev Value) (nd op : Int) (w : World) (h0 : 0 ≤ op) (h1 : op ≤ 4398046511104) :
    Calls Tryd.prog 36 #[.agg e.cs, .int .i64 nd, .int .i64 op] w fun r w' => r = .returned (.bool (e.num == nd && e.dep == op + 1)) ∧ Below w.heap.size w w' := by
  obtain ⟨kind, num, dep, nm, av, ats, tx, fr, be⟩ := e
  show Calls Tryd.prog 36 #[.agg #[.int .i64 kind, .int .i64 num, .int .i64 dep, .string nm, av, .string tx, .int .i64 fr, .int .i64 be], .int .i64 nd, .int .i64 op] w _
  have HB := hide' ((Below.refl w.heap.size w).alloc (Nat.le_refl _) (.cells #[.int .i64 kind, .int .i64 num, .int .i64 dep, .string nm, av, .string tx, .int .i64 fr, .int .i64 be] 39))
  dsimp only
  have hw : IntKind.i64.wrap (op + 1) = op + 1 := by rw [IntKind.wrap_i64]; omega
  clear h0 h1
  cases c1 : (num == nd)
  · go_enter Tryd.func36, Tryd.ntmps36
    go_wp2
    go_ret
    exact ⟨rfl, HB.out⟩
  · go_enter Tryd.func36, Tryd.ntmps36
    go_wp2
    go_ret
    exact ⟨rfl, HB.out⟩
set_option maxHeartbeats 1000000 in
theorem trIsText (e : Tr.Ev Value) (w : World) (hs : e.tx.size ≤ 140737488351232) (hA : Tr.AtRow w e.av e.ats) (hS : Spans w) (hT : Lib.Utf8Tabs 1 2 w) :
    Calls Tryd.prog 38 #[.agg e.cs] w fun r w' => r = .returned (.bool (Tr.isTextB e)) ∧ Below w.heap.size w w' := by
  obtain ⟨kind, num, dep, nm, av, ats, tx, fr, be⟩ := e
  dsimp only at hA
  obtain ⟨p, cap, rfl, _⟩ := hA
  unfold Tr.isTextB
  dsimp only at hs ⊢
  generalize ats.length = n
  show Calls Tryd.prog 38 #[.agg #[.int .i64 kind, .int .i64 num, .int .i64 dep, .string nm, .slice p n cap, .string tx, .int .i64 fr, .int .i64 be]] w _
  have hb := (Below.refl w.heap.size w).alloc (Nat.le_refl _) (.cells #[.int .i64 kind, .int .i64 num, .int .i64 dep, .string nm, .slice p n cap, .string tx, .int .i64 fr, .int .i64 be] 39)
  have c := chTexts tx _ (by omega) (hS.below hb (Nat.le_refl _)) (tabs_below hT hb (Nat.le_refl _))
  have HB := hide' hb
  have HC := hide' c
  clear hS hT hb c hs
  by_cases c1 : nm.toList = []
  · by_cases c2 : n = 0
    · by_cases c3 : tx.toList = []
      · subst c2
        go_enter Tryd.func38, Tryd.ntmps38
        go_wp2
        go_ret
        exact ⟨by simp [c1, c3], HB.out⟩
      · subst c2
        go_enter Tryd.func38, Tryd.ntmps38
        go_wp2_with fail
        refine HC.out.mono ?_
        rintro e w1 ⟨rfl, hb1⟩
        have HD := hide' hb1
        clear hb1 HC
        go_wp2
        go_ret
        exact ⟨by simp [c1, c3], HB.out.trans (HD.out.mono HB.out.size)⟩
    · go_enter Tryd.func38, Tryd.ntmps38
      go_wp2
      go_ret
      exact ⟨by simp [c1, c2], HB.out⟩
  · go_enter Tryd.func38, Tryd.ntmps38
    go_wp2
    go_ret
    exact ⟨by simp [c1], HB.out⟩
set_option maxHeartbeats 1000000 in
theorem trCloses (e o : Tr.Ev Value) (w : World) (hA : Tr.AtRow w e.av e.ats) :
    Calls Tryd.prog 39 #[.agg e.cs, .agg o.cs] w fun r w' => r = .returned (.bool (Tr.closes e o)) ∧ Below w.heap.size w w' := by
  obtain ⟨kind, num, dep, nm, av, ats, tx, fr, be⟩ := e
  obtain ⟨kind', num', dep', nm', av', ats', tx', fr', be'⟩ := o
  dsimp only at hA
  obtain ⟨p, cap, rfl, _⟩ := hA
  unfold Tr.closes
  dsimp only
  generalize ats.length = n
  show Calls Tryd.prog 39 #[.agg #[.int .i64 kind, .int .i64 num, .int .i64 dep, .string nm, .slice p n cap, .string tx, .int .i64 fr, .int .i64 be], .agg #[.int .i64 kind', .int .i64 num', .int .i64 dep', .string nm', av', .string tx', .int .i64 fr', .int .i64 be']] w _
  have HB := hide' (((Below.refl w.heap.size w).alloc (Nat.le_refl _) (.cells #[.int .i64 kind, .int .i64 num, .int .i64 dep, .string nm, .slice p n cap, .string tx, .int .i64 fr, .int .i64 be] 39)).alloc (by simp) (.cells #[.int .i64 kind', .int .i64 num', .int .i64 dep', .string nm', av', .string tx', .int .i64 fr', .int .i64 be'] 39))
  by_cases c0 : num = num'
  · by_cases c1 : dep = dep'
    · by_cases c2 : nm.toList = nm'.toList
      · by_cases c3 : n = 0
        · by_cases c4 : tx.toList = []
          · subst c0 c1 c3
            go_enter Tryd.func39, Tryd.ntmps39
            go_wp2
            go_ret
            exact ⟨by simp [c2, c4], HB.out⟩
          · subst c0 c1 c3
            go_enter Tryd.func39, Tryd.ntmps39
            go_wp2
            go_ret
            exact ⟨by simp [c2, c4], HB.out⟩
        · subst c0 c1
          go_enter Tryd.func39, Tryd.ntmps39
          go_wp2
          go_ret
          exact ⟨by simp [c2, c3], HB.out⟩
      · subst c0 c1
        go_enter Tryd.func39, Tryd.ntmps39
        go_wp2
        go_ret
        exact ⟨by simp [c2], HB.out⟩
    · subst c0
      go_enter Tryd.func39, Tryd.ntmps39
      go_wp2
      go_ret
      exact ⟨by simp [c1], HB.out⟩
  · go_enter Tryd.func39, Tryd.ntmps39
    go_wp2
    go_ret
    exact ⟨by simp [c0], HB.out⟩
end Go.Proofs.YtcmjipgigkalcaaDoor
/-
  WALKS over tree.areAttrs, isOpen.
-/
namespace Go.Proofs.YtcmjipgigkalcaaDoor
open Go.RowKit Go.Lib
namespace Tr
/-- the name ahead -/
def pre (l : List (ByteArray × ByteArray)) : Nat → Option ByteArray
  | 0 => none
  | i + 1 => l[i]?.map (·.1)
def gapB (x : ByteArray) : Option ByteArray → Bool
  | none => true
  | some q => !(Op.bytesLess x.toList q.toList || x.toList == q.toList)
theorem atsB_step (l : List (ByteArray × ByteArray)) (i : Nat) (x : ByteArray × ByteArray) (h : l[i]? = some x) : atsB (l.drop i) (pre l i) = (nameB x.1 && (textB x.2 && (gapB x.1 (pre l i) && atsB (l.drop (i + 1)) (pre l (i + 1))))) := by
  obtain ⟨hi, rfl⟩ := List.getElem?_eq_some_iff.1 h
  rw [List.drop_eq_getElem_cons hi]
  show (_ && (_ && (_ && atsB (l.drop (i + 1)) (some l[i].1)))) = _
  have e : pre l (i + 1) = some l[i].1 := by
    show l[i]?.map (·.1) = _
    rw [h]
    rfl
  rw [e]
  cases pre l i <;> rfl
theorem atsB_end (l : List (ByteArray × ByteArray)) (i : Nat) (h : ¬ i < l.length) : atsB (l.drop i) (pre l i) = true := by
  rw [List.drop_eq_nil_of_le (by omega)]
  rfl
end Tr
set_option maxRecDepth 100000 in
set_option maxHeartbeats 2000000 in
theorem trAreAttrs (v : Value) (l : List (ByteArray × ByteArray)) (w : World) (hA : Tr.AtRow w v l) (hs : ∀ x ∈ l, x.1.size ≤ 140737488351232 ∧ x.2.size ≤ 140737488351232) (hS : Spans w) (hT : Lib.Utf8Tabs 1 2 w) :
    Calls Tryd.prog 49 #[v] w fun r w' => r = .returned (.bool (Tr.atsB l none)) ∧ Below w.heap.size w w' := by
  obtain ⟨p, cap, rfl, a1, a2, a2', a3⟩ := hA
  obtain ⟨n, hn⟩ : ∃ n, l.length = n := ⟨_, rfl⟩
  rw [hn] at a1 a3 ⊢
  have HN := hide' hn
  have HA := hide' a3
  have cN : ∀ (s : ByteArray) w1, s.size ≤ 140737488351232 → Below w.heap.size w w1 → _ := fun s w1 h hb => chName s w1 (by omega) (hS.below hb (Nat.le_refl _)) (tabs_below hT hb (Nat.le_refl _))
  have cT : ∀ (s : ByteArray) w1, s.size ≤ 140737488351232 → Below w.heap.size w w1 → _ := fun s w1 h hb => chTexts s w1 (by omega) (hS.below hb (Nat.le_refl _)) (tabs_below hT hb (Nat.le_refl _))
  have CN := hide' cN
  have CT := hide' cT
  have HS := hide' hs
  clear hs hS hT cN cT a3 hn a2'
  go_enter Tryd.func49, Tryd.ntmps49
  go_wp2_with fail
  go_loopw [7] (fun v wr => ∃ i : Nat, v = .int .i64 i ∧ i ≤ n ∧ Hid (Tr.atsB (l.drop i) (Tr.pre l i) = Tr.atsB l none) ∧ Hid (Below w.heap.size w wr)) (fun v _ => n - (RowKit.intOf v).toNat)
  case atStart => exact ⟨0, rfl, Nat.zero_le _, rfl, Below.refl _ _⟩
  case round =>
    obtain ⟨i, rfl, hi, HE, HR⟩ := hrel
    by_cases hlt : i < n
    · have t1 : (i : Int) < (n : Int) := by omega
      obtain ⟨b, o, rfl, ka⟩ := HA.out (by omega)
      obtain ⟨x, hx⟩ : ∃ x, l[i]? = some x := ⟨_, List.getElem?_eq_getElem (by rw [HN.out]; exact hlt)⟩
      have hx1 := HS.out x (List.mem_of_getElem? hx)
      have he := HE.out
      rw [Tr.atsB_step l i x hx] at he
      have k0 := (ka i x hx).1
      have k1 := (ka i x hx).2
      have q0 : wr.cell? ⟨b, o + i * 2, none⟩ = some (.string x.1) := (HR.out.cell (p := ⟨b, o + i * 2, none⟩) (block_lt_of_cell k0)).trans k0
      have q1 : wr.cell? ⟨b, o + i * 2 + 1, none⟩ = some (.string x.2) := (HR.out.cell (p := ⟨b, o + i * 2 + 1, none⟩) (block_lt_of_cell k1)).trans k1
      have hbA := HR.out.alloc HR.out.size (.cells #[.string x.1, .string x.2] 67)
      have c := CN.out x.1 _ hx1.1 hbA
      have y0 : (wr.alloc (.cells #[.string x.1, .string x.2] 67)).cell? ⟨wr.heap.size, 0, none⟩ = some (.string x.1) := by simp
      have y1 : (wr.alloc (.cells #[.string x.1, .string x.2] 67)).cell? ⟨wr.heap.size, 1, none⟩ = some (.string x.2) := by simp
      have HP : Hid (∀ j y, j + 1 = i → l[j]? = some y → wr.cell? ⟨b, o + j * 2, none⟩ = some (.string y.1)) := fun j y _ hy => (HR.out.cell (p := ⟨b, o + j * 2, none⟩) (block_lt_of_cell (ka j y hy).1)).trans (ka j y hy).1
      have HBA := hide' hbA
      have HY0 := hide' y0
      have HY1 := hide' y1
      have HE2 := hide' he
      have HX := hide' hx
      have HX1 := hide' hx1
      have HC := hide' c
      clear ka k0 k1 hx hx1 he HE hbA y0 y1 c HA HS CN
      go_wp2_with fail
      refine HC.out.mono ?_
      rintro e w1 ⟨rfl, hb1⟩
      have HB1 := hide' (HBA.out.trans (hb1.mono HBA.out.size))
      have z0 : w1.cell? ⟨wr.heap.size, 0, none⟩ = some (.string x.1) := (hb1.cell (p := ⟨wr.heap.size, 0, none⟩) (block_lt_of_cell HY0.out)).trans HY0.out
      have z1 : w1.cell? ⟨wr.heap.size, 1, none⟩ = some (.string x.2) := (hb1.cell (p := ⟨wr.heap.size, 1, none⟩) (block_lt_of_cell HY1.out)).trans HY1.out
      have HK : Hid (∀ j y, j + 1 = i → l[j]? = some y → w1.cell? ⟨b, o + j * 2, none⟩ = some (.string y.1)) := fun j y h1 hy => ((((Below.refl wr.heap.size wr).alloc (Nat.le_refl _) _).trans (hb1.mono (by simp))).cell (p := ⟨b, o + j * 2, none⟩) (block_lt_of_cell (HP.out j y h1 hy))).trans (HP.out j y h1 hy)
      have HW : Hid (wr.heap.size < w1.heap.size) := by have := hb1.size; simp at this; show _ < _; omega
      clear HC HY0 HY1 hb1 HP q0 q1
      cases cn : Tr.nameB x.1
      · have he := HE2.out
        rw [cn, Bool.false_and] at he
        have HE3 := hide' he
        clear he HE2
        go_wp2_with fail
        go_ret
        exact ⟨by rw [← HE3.out]; rfl, HB1.out⟩
      have HCT := hide' (CT.out x.2 w1 HX1.out.2 HB1.out)
      go_wp2_with fail
      refine HCT.out.mono ?_
      rintro e w2 ⟨rfl, hb2⟩
      have HB2 := hide' (HB1.out.trans (hb2.mono HB1.out.size))
      have u0 : w2.cell? ⟨wr.heap.size, 0, none⟩ = some (.string x.1) := (hb2.cell (p := ⟨wr.heap.size, 0, none⟩) HW.out).trans z0
      have HK2 : Hid (∀ j y, j + 1 = i → l[j]? = some y → w2.cell? ⟨b, o + j * 2, none⟩ = some (.string y.1)) := fun j y h1 hy => (hb2.cell (p := ⟨b, o + j * 2, none⟩) (block_lt_of_cell (HK.out j y h1 hy))).trans (HK.out j y h1 hy)
      clear hb2 z0 z1 HK HCT HW
      cases ct : Tr.textB x.2
      · have he := HE2.out
        rw [ct, Bool.false_and, Bool.and_false] at he
        have HE3 := hide' he
        clear he HE2
        go_wp2_with fail
        go_ret
        exact ⟨by rw [← HE3.out]; rfl, HB2.out⟩
      have he := HE2.out
      rw [cn, ct, Bool.true_and, Bool.true_and] at he
      clear HE2
      by_cases h0 : i = 0
      · subst h0
        have HE3 := hide' he
        clear he
        clear CT HK2 HX HX1 hi
        go_wp2_with fail
        go_quiet (fail)
        go_wp2_with fail
        exact ⟨⟨1, rfl, hlt, hide' HE3.out, hide' (below_drewN HB2.out nq)⟩, by simp [RowKit.intOf]; omega⟩
      · obtain ⟨j, rfl⟩ : ∃ j, i = j + 1 := ⟨i - 1, by omega⟩
        obtain ⟨y, hy⟩ : ∃ y, l[j]? = some y := ⟨_, List.getElem?_eq_getElem (by rw [HN.out]; omega)⟩
        have u1 := HK2.out j y rfl hy
        have ep : Tr.pre l (j + 1) = some y.1 := by show l[j]?.map _ = _; rw [hy]; rfl
        have g1 : (0 : Int) < ((j + 1 : Nat) : Int) := by omega
        have g2 : IntKind.i64.wrap (((j + 1 : Nat) : Int) - 1) = (j : Int) := by rw [IntKind.wrap_i64]; omega
        have g3 : (j : Int) < (n : Int) := by omega
        have g4 : 0 ≤ (j : Int) := by omega
        rw [ep] at he
        unfold Tr.gapB at he
        dsimp only at he
        have HE3 := hide' he
        have HL := hide' hlt
        clear he CT HK2 HX HX1 hi hy ep h0 hlt
        go_wp2_with fail
        go_quiet (fail)
        go_wp2_with fail
        · rename_i hh
          have e : (Op.bytesLess x.1.toList y.1.toList || x.1.toList == y.1.toList) = true := by rw [Bool.or_eq_true]; exact hh
          go_ret
          exact ⟨by rw [← HE3.out, e]; rfl, below_drewN HB2.out nq⟩
        · rename_i hh
          have e : (Op.bytesLess x.1.toList y.1.toList || x.1.toList == y.1.toList) = false := by rw [hh.1, hh.2]; rfl
          have he := HE3.out
          rw [e] at he
          exact ⟨⟨j + 2, by congr 1, HL.out, hide' he, hide' (below_drewN HB2.out nq)⟩, by have := HL.out; simp [RowKit.intOf]; omega⟩
    · have t1 : ¬ (i : Int) < (n : Int) := by omega
      have he := HE.out
      rw [Tr.atsB_end l i (by rw [HN.out]; exact hlt)] at he
      have HE2 := hide' he
      clear he hlt hi HA HS CN CT HE
      go_wp2
      go_ret
      exact ⟨by rw [← HE2.out]; rfl, HR.out⟩
set_option maxHeartbeats 1000000 in
theorem trIsOpen (e : Tr.Ev Value) (w : World) (hs : Tr.Small e) (hA : Tr.AtRow w e.av e.ats) (hS : Spans w) (hT : Lib.Utf8Tabs 1 2 w) :
    Calls Tryd.prog 37 #[.agg e.cs] w fun r w' => r = .returned (.bool (Tr.isOpenB e)) ∧ Below w.heap.size w w' := by
  obtain ⟨kind, num, dep, nm, av, ats, tx, fr, be⟩ := e
  obtain ⟨s1, s2, s3, s4⟩ := hs
  unfold Tr.isOpenB
  dsimp only at hA s1 s2 s3 s4 ⊢
  show Calls Tryd.prog 37 #[.agg #[.int .i64 kind, .int .i64 num, .int .i64 dep, .string nm, av, .string tx, .int .i64 fr, .int .i64 be]] w _
  have hb := (Below.refl w.heap.size w).alloc (Nat.le_refl _) (.cells #[.int .i64 kind, .int .i64 num, .int .i64 dep, .string nm, av, .string tx, .int .i64 fr, .int .i64 be] 39)
  have c := chName nm _ (by omega) (hS.below hb (Nat.le_refl _)) (tabs_below hT hb (Nat.le_refl _))
  have y1 : (w.alloc (.cells #[.int .i64 kind, .int .i64 num, .int .i64 dep, .string nm, av, .string tx, .int .i64 fr, .int .i64 be] 39)).cell? ⟨w.heap.size, 4, none⟩ = some av := by simp
  have cA : ∀ w1, Below w.heap.size w w1 → _ := fun w1 h => trAreAttrs av ats w1 (hA.below h (Nat.le_refl _)) s4 (hS.below h (Nat.le_refl _)) (tabs_below hT h (Nat.le_refl _))
  have HB := hide' hb
  have HC := hide' c
  have HY := hide' y1
  have CA := hide' cA
  clear hS hT hb c s1 s2 s3 s4 hA y1 cA
  by_cases c1 : tx.toList = []
  · cases cn : Tr.nameB nm
    · rw [cn] at HC
      go_enter Tryd.func37, Tryd.ntmps37
      go_wp2_with fail
      refine HC.out.mono ?_
      rintro e w1 ⟨rfl, hb1⟩
      have HD := hide' (HB.out.trans (hb1.mono HB.out.size))
      clear hb1 HC
      go_wp2
      go_ret
      exact ⟨by simp [c1], HD.out⟩
    · rw [cn] at HC
      go_enter Tryd.func37, Tryd.ntmps37
      go_wp2_with fail
      refine HC.out.mono ?_
      rintro e w1 ⟨rfl, hb1⟩
      have HD := hide' (HB.out.trans (hb1.mono HB.out.size))
      have z1 : w1.cell? ⟨w.heap.size, 4, none⟩ = some av := (hb1.cell (p := ⟨w.heap.size, 4, none⟩) (block_lt_of_cell HY.out)).trans HY.out
      clear hb1 HC
      go_wp2_with fail
      refine (CA.out w1 HD.out).mono ?_
      rintro e w2 ⟨rfl, hb2⟩
      have HD2 := hide' (HD.out.trans (hb2.mono HD.out.size))
      clear hb2 z1 CA
      go_wp2
      go_ret
      exact ⟨by simp [c1], HD2.out⟩
  · go_enter Tryd.func37, Tryd.ntmps37
    go_wp2
    go_ret
    exact ⟨by simp [c1], HB.out⟩
end Go.Proofs.YtcmjipgigkalcaaDoor
