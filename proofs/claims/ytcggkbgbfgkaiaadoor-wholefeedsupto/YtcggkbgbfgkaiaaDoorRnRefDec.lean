/-
  THE WALK over (*gimletref01.Decoder).Take.
-/
import Derived.Test.YtcggkbgbfgkaiaaDoorRnVal
import Derived.Test.YtcggkbgbfgkaiaaDoorRnDec
import Derived.Test.YtcggkbgbfgkaiaaDoorRnEnc
import Derived.Laws.AppendOwnNone
namespace Go.Proofs.YtcggkbgbfgkaiaaDoor
open Go.RowKit Go.Lib

/-- the first n bytes, as cells -/
def xs (x : Nat → Nat) (n : Nat) : List Value := (List.range n).map fun j => .int .u8 (x j)
theorem xs_length (x : Nat → Nat) (n : Nat) : (xs x n).length = n := by simp [xs]
theorem xs_get (x : Nat → Nat) (n j : Nat) (u : Value) (h : (xs x n)[j]? = some u) : j < n ∧ u = .int .u8 (x j) := by
  unfold xs at h
  rw [List.getElem?_map] at h
  rcases Nat.lt_or_ge j n with hj | hj
  · rw [List.getElem?_range hj] at h
    simp at h
    exact ⟨hj, h.symm⟩
  · rw [List.getElem?_eq_none (by simpa using hj)] at h
    cases h
theorem xs_at (x : Nat → Nat) (n j : Nat) (h : j < n) : (xs x n)[j]? = some (.int .u8 (x j)) := by
  unfold xs
  rw [List.getElem?_map, List.getElem?_range h]
  rfl
theorem xs_upd (x : Nat → Nat) (n v : Nat) : xs x n ++ [.int .u8 v] = xs (Rn.upd x n v) (n + 1) := by
  apply List.ext_getElem?
  intro j
  rcases Nat.lt_trichotomy j n with h | h | h
  · rw [List.getElem?_append_left (by rw [xs_length]; exact h), xs_at _ _ _ h, xs_at _ _ _ (by omega)]
    simp [Rn.upd, Nat.ne_of_lt h]
  · subst h
    rw [List.getElem?_append_right (by rw [xs_length]; omega), xs_length, xs_at _ _ _ (by omega)]
    simp [Rn.upd]
  · rw [List.getElem?_eq_none (by simp [xs_length]; omega), List.getElem?_eq_none (by rw [xs_length]; omega)]
theorem bytes_of_owns {w : World} {B g n cap : Nat} {x : Nat → Nat} (h : w.ownsRow B 5 1 (.slice (some ⟨g, 0, none⟩) n cap) n (xs x n)) : Bytes w g 0 n x := by
  intro j hj
  have := h.cells (g := g) rfl j _ (xs_at x n j hj)
  rw [show (Addr.add ⟨g, 0, none⟩ j) = ⟨g, 0 + j, none⟩ by simp [Addr.add]; omega] at this
  exact this

theorem infoByte' : (Tryd.prog.info? 5).map (fun i => (i.zero, i.size, i.bytes)) = some (some (.int .u8 0), 1, 1) := by kernel_rfl

theorem owns_empty (w : World) : (w.alloc (.cells #[] 5)).ownsRow w.heap.size 5 1 (.slice (some ⟨w.heap.size, 0, none⟩) 0 0) 0 [] :=
  ⟨rfl, .inr ⟨w.heap.size, 0, #[], rfl, Nat.le_refl _, (by show (w.heap.push _)[w.heap.size]? = _; simp), Nat.le_refl _, by decide, rfl, rfl⟩⟩
theorem one_news (W : World) (v : Nat) : ∀ j u, ([.int .u8 v] : List Value)[j]? = some u → (W.alloc (.cells #[.int .u8 v] 5)).cell? (Addr.add ⟨W.heap.size, 0, none⟩ j) = some u := by
  intro j u hj
  match j, hj with
  | 0, hj => simp at hj; subst hj; simp [Addr.add]
  | (j + 1), hj => simp at hj
theorem one_cell (x : Nat → Nat) (n : Nat) : ∀ u ∈ xs x n, u.oneCell' = true := by
  intro u hu
  unfold xs at hu
  obtain ⟨j, _, rfl⟩ := List.mem_map.1 hu
  rfl
theorem one_cell' (v : Nat) : ∀ u ∈ ([.int .u8 v] : List Value), u.oneCell' = true := by
  intro u hu
  simp at hu
  subst hu
  rfl

theorem kept_grown {w w' : World} {B : Nat} {e : TypeId} {size : Nat} {v : Value} {n : Nat} {ys : List Value} (h : w.ownsRow B e size v n ys) (hk : ∀ g, v.ownBlock = some g → w'.heap[g]? = w.heap[g]?) : w'.ownsRow B e size v n ys := by
  refine ⟨h.1, ?_⟩
  rcases h.2 with h1 | ⟨g, cap, cur, hv, hb, hg, rest⟩
  · exact .inl h1
  · exact .inr ⟨g, cap, cur, hv, hb, (hk g (by rw [hv]; rfl)).trans hg, rest⟩
theorem _root_.Go.World.ownsRow.kept_below {w w' : World} {B : Nat} {e : TypeId} {size : Nat} {v : Value} {n : Nat} {ys : List Value} (h : w.ownsRow B e size v n ys) (hb : Below w.heap.size w w') : w'.ownsRow B e size v n ys :=
  kept_grown h fun g hg => hb.block g (h.lt g hg).2
theorem _root_.Go.World.ownsRow.setOther {w : World} {B : Nat} {e : TypeId} {size : Nat} {v : Value} {n : Nat} {ys : List Value} (h : w.ownsRow B e size v n ys) {k i : Nat} (hk : v.ownBlock ≠ some k) (u : Value) : (w.setCell ⟨k, i, none⟩ u).ownsRow B e size v n ys :=
  kept_grown h fun g hg => Below.heap_setCell w ⟨k, i, none⟩ u g (fun e => hk (by rw [hg]; exact congrArg some e))
theorem _root_.Go.World.ownsRow.base {w : World} {B B' : Nat} {e : TypeId} {size : Nat} {v : Value} {n : Nat} {ys : List Value} (h : w.ownsRow B e size v n ys) (hB : B' ≤ B) : w.ownsRow B' e size v n ys := by
  refine ⟨h.1, ?_⟩
  rcases h.2 with h1 | ⟨g, cap, cur, hv, hb, rest⟩
  · exact .inl h1
  · exact .inr ⟨g, cap, cur, hv, by omega, rest⟩
theorem Bytes.setOther {w : World} {b off n : Nat} {f : Nat → Nat} (h : Bytes w b off n f) {k i : Nat} (hk : b ≠ k) (u : Value) : Bytes (w.setCell ⟨k, i, none⟩ u) b off n f := by
  intro j hj
  have := h j hj
  rw [← this]
  exact World.cell?_of_block (Below.heap_setCell w ⟨k, i, none⟩ u b hk)
namespace Rn
/-- one byte behind bytes that wait: a character of just so many bytes, a beginning of one, or none -/
theorem next_three {f : Nat → Nat} {n : Nat} (h : n = 0 ∨ waits f n = true) :
    (whole f (n + 1) = true ∧ waits f (n + 1) = false ∧ fk f (n + 1) = n + 1 ∧ fs f (n + 1) = n + 1) ∨
    (waits f (n + 1) = true ∧ whole f (n + 1) = false ∧ fk f (n + 1) = n + 1 ∧ n + 1 < fs f (n + 1)) ∨
    (whole f (n + 1) = false ∧ waits f (n + 1) = false ∧ (fs f (n + 1) = 0 ∨ fk f (n + 1) < n + 1)) := by
  have a1 := fk_le f (n + 1)
  have a2 := fk_le_fs f (n + 1)
  have e1 : fs f (n + 1) = size (f 0) := by unfold fs; rw [if_neg (by omega)]
  have hlt : n = 0 ∨ n < size (f 0) := by
    rcases h with h | h
    · exact .inl h
    · simp only [waits, decide_eq_true_eq] at h
      by_cases h0 : n = 0
      · exact .inl h0
      · have e2 : fs f n = size (f 0) := by unfold fs; rw [if_neg h0]
        omega
  by_cases c1 : fs f (n + 1) = 0
  · refine .inr (.inr ⟨?_, ?_, .inl c1⟩)
    · simp [whole, c1]
    · simp [waits, c1]
  · by_cases c2 : fk f (n + 1) < n + 1
    · refine .inr (.inr ⟨?_, ?_, .inr c2⟩)
      · simp only [whole, decide_eq_false_iff_not]; omega
      · simp only [waits, decide_eq_false_iff_not]; omega
    · by_cases c3 : fs f (n + 1) = n + 1
      · refine .inl ⟨?_, ?_, by omega, c3⟩
        · simp only [whole, decide_eq_true_eq]; omega
        · simp only [waits, decide_eq_false_iff_not]; omega
      · refine .inr (.inl ⟨?_, ?_, by omega, by omega⟩)
        · simp only [waits, decide_eq_true_eq]; omega
        · simp only [whole, decide_eq_false_iff_not]; omega
theorem waits_upd {x : Nat → Nat} {n v : Nat} (h : waits x n = true) : waits (upd x n v) n = true := by
  rw [← h]
  exact waits_congr fun j hj => by simp [upd, Nat.ne_of_lt hj]
end Rn

end Go.Proofs.YtcggkbgbfgkaiaaDoor
