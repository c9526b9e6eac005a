/-
  WALKS over the document's Runes, text, Length, Stands.
-/
import Derived.Test.YtgbldbohadacmaaWdFind
import Derived.Test.YtgbldbohadacmaaRnJoin
import Derived.Laws.AppendOwnNone
import Derived.Deep.QuietTactic
import Derived.BigQuiet
import Derived.WalkSmall
import Derived.Lib.SmallJoins
namespace Go.Proofs.Ytgbldbohadacmaa
open Go.RowKit Go.Lib

def rc (L : List Nat) : List Value := L.map fun (r : Nat) => .int .i32 (r : Int)
theorem rc_length (L : List Nat) : (rc L).length = L.length := by simp [rc]
theorem rc_snoc (L : List Nat) (r : Nat) : rc (L ++ [r]) = rc L ++ [.int .i32 (r : Int)] := by simp [rc]
theorem infoRune : (Try.prog.info? 21).map (fun i => (i.zero, i.size, i.bytes)) = some (some (.int .i32 0), 1, 4) := by kernel_rfl
theorem rc_news (W : World) (r : Nat) : ∀ j u, ([.int .i32 (r : Int)] : List Value)[j]? = some u → (W.alloc (.cells #[.int .i32 (r : Int)] 21)).cell? (Addr.add ⟨W.heap.size, 0, none⟩ j) = some u := by
  intro j u hj
  match j, hj with
  | 0, hj => simp at hj; subst hj; simp [Addr.add]
  | (j + 1), hj => simp at hj
theorem rc_one (r : Nat) : ∀ u ∈ ([.int .i32 (r : Int)] : List Value), u.oneCell' = true := by
  intro u hu
  simp at hu
  subst hu
  rfl

/-- a slice of these runes -/
def RS (w : World) (L : List Nat) (v : Value) : Prop := ∃ pa cap, v = .slice pa L.length cap ∧ L.length ≤ cap ∧ cap ≤ maxLen ∧ (L.length = 0 ∨ ∃ g o, pa = some ⟨g, o, none⟩ ∧ Row .i32 w g o L.length (Wd.lg L))
theorem RS.below {w w' : World} {L : List Nat} {v : Value} (h : RS w L v) {B : Nat} (hb : Below B w w') (hB : w.heap.size ≤ B) : RS w' L v := by
  obtain ⟨pa, cap, h1, h2, h3, h4⟩ := h
  refine ⟨pa, cap, h1, h2, h3, ?_⟩
  rcases h4 with h4 | ⟨g, o, h4, h5⟩
  · exact .inl h4
  · exact .inr ⟨g, o, h4, h5.below hb hB⟩
theorem rs_of_owns {w : World} {B : Nat} {v : Value} {L : List Nat} (h : w.ownsRow B 21 1 v L.length (rc L)) : RS w L v := by
  rcases h.2 with ⟨h1, h2⟩ | ⟨g, cap, cur, h1, h2, h3, h4, h5, h6, h7⟩
  · exact ⟨none, 0, by rw [h1, h2], by omega, by unfold maxLen; omega, .inl h2⟩
  · refine ⟨_, cap, h1, h4, h5, .inr ⟨g, 0, rfl, fun j hj => ?_⟩⟩
    rw [Lib.cell_of_heap h3, Nat.zero_add]
    have e : cur.toList[j]? = (rc L)[j]? := by
      rw [← h7, List.getElem?_take]
      rw [if_pos (by omega)]
    rw [← Array.getElem?_toList, e]
    simp [rc, Wd.lg, hj]

end Go.Proofs.Ytgbldbohadacmaa
