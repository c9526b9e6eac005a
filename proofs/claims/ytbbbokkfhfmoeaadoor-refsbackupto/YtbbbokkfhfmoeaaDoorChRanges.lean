/-
  THE WALK over the document's Ranges.
-/
import Derived.Test.YtbbbokkfhfmoeaaDoorChFix
namespace Go.Proofs.YtbbbokkfhfmoeaaDoor
open Go.RowKit Go.Lib

/-- a slice of ranges, in memory -/
def RgAt (w : World) (v : Value) (l : List (Nat × Nat)) : Prop := ∃ pa cap, v = .slice pa l.length cap ∧ (l = [] ∨ ∃ b o, pa = some ⟨b, o, none⟩ ∧
  ∀ i p, l[i]? = some p → w.cell? ⟨b, o + i * 2, none⟩ = some (.int .i64 (p.1 : Nat)) ∧ w.cell? ⟨b, o + i * 2 + 1, none⟩ = some (.int .i64 (p.2 : Nat)))

theorem RgAt.below {w w' : World} {v : Value} {l : List (Nat × Nat)} {B : Nat} (h : RgAt w v l) (hb : Below B w w') (hB : w.heap.size ≤ B) : RgAt w' v l := by
  obtain ⟨pa, cap, rfl, h⟩ := h
  refine ⟨pa, cap, rfl, ?_⟩
  rcases h with h | ⟨b, o, rfl, hc⟩
  · exact .inl h
  · have k : ∀ {p : Addr} {v}, w.cell? p = some v → w'.cell? p = some v := fun {p v} e => (hb.cell (p := p) (Nat.lt_of_lt_of_le (block_lt_of_cell e) hB)).trans e
    exact .inr ⟨b, o, rfl, fun i p hp => ⟨k (hc i p hp).1, k (hc i p hp).2⟩⟩
def rgCells (l : List (Nat × Nat)) : List Value := l.flatMap fun p => [.int .i64 (p.1 : Nat), .int .i64 (p.2 : Nat)]
theorem rgCells_get : ∀ (l : List (Nat × Nat)) (i : Nat) (p : Nat × Nat), l[i]? = some p → (rgCells l)[i * 2]? = some (.int .i64 (p.1 : Nat)) ∧ (rgCells l)[i * 2 + 1]? = some (.int .i64 (p.2 : Nat))
  | [], i, p, h => by simp at h
  | x :: l, 0, p, h => by
    simp at h
    subst h
    exact ⟨rfl, rfl⟩
  | x :: l, i + 1, p, h => by
    have := rgCells_get l i p (by simpa using h)
    have e : rgCells (x :: l) = .int .i64 (x.1 : Nat) :: .int .i64 (x.2 : Nat) :: rgCells l := rfl
    rw [e, show (i + 1) * 2 = i * 2 + 1 + 1 from by omega]
    exact this
theorem rgAt_alloc (w : World) (l : List (Nat × Nat)) (t : TypeId) (n cap : Nat) (xs : Array Value) (hx : xs = (rgCells l).toArray) (hn : l.length = n) : RgAt (w.alloc (.cells xs t)) (.slice (some ⟨w.heap.size, 0, none⟩) n cap) l := by
  subst hx hn
  refine ⟨_, _, rfl, .inr ⟨_, _, rfl, fun i p hp => ?_⟩⟩
  obtain ⟨h1, h2⟩ := rgCells_get l i p hp
  have e : ∀ j, (w.alloc (.cells (rgCells l).toArray t)).cell? ⟨w.heap.size, j, none⟩ = (rgCells l)[j]? := by
    intro j
    simp
  rw [e, e, Nat.zero_add]
  exact ⟨h1, h2⟩

set_option maxHeartbeats 4000000 in
theorem ranges_any (c : Int) (w : World) :
    Calls Tryd.prog 56 #[.int .i64 c] w fun e w' => ∃ v, e = .returned v ∧ RgAt w' v (Ch.rg c) ∧ Below w.heap.size w w' := by
  rcases Ch.rg_cases c with ⟨rfl, h⟩ | ⟨rfl, h⟩ | ⟨rfl, h⟩ | ⟨rfl, h⟩ | ⟨rfl, h⟩ | ⟨rfl, h⟩ | ⟨hc, h⟩
  · rw [h]
    clear h
    go_enter Tryd.func56, Tryd.ntmps56
    go_wp2
    go_ret
    exact ⟨_, rfl, rgAt_alloc w Ch.rg0 _ _ _ _ rfl rfl, (Below.refl _ _).alloc (Nat.le_refl _) _⟩
  · rw [h]
    clear h
    go_enter Tryd.func56, Tryd.ntmps56
    go_wp2
    go_ret
    exact ⟨_, rfl, rgAt_alloc w Ch.rg1 _ _ _ _ rfl rfl, (Below.refl _ _).alloc (Nat.le_refl _) _⟩
  · rw [h]
    clear h
    go_enter Tryd.func56, Tryd.ntmps56
    go_wp2
    go_ret
    exact ⟨_, rfl, rgAt_alloc w Ch.rg2 _ _ _ _ rfl rfl, (Below.refl _ _).alloc (Nat.le_refl _) _⟩
  · rw [h]
    clear h
    go_enter Tryd.func56, Tryd.ntmps56
    go_wp2
    go_ret
    exact ⟨_, rfl, rgAt_alloc w Ch.rg3 _ _ _ _ rfl rfl, (Below.refl _ _).alloc (Nat.le_refl _) _⟩
  · rw [h]
    clear h
    go_enter Tryd.func56, Tryd.ntmps56
    go_wp2
    go_ret
    exact ⟨_, rfl, rgAt_alloc w Ch.rg4 _ _ _ _ rfl rfl, (Below.refl _ _).alloc (Nat.le_refl _) _⟩
  · rw [h]
    clear h
    go_enter Tryd.func56, Tryd.ntmps56
    go_wp2
    go_ret
    exact ⟨_, rfl, rgAt_alloc w Ch.rg5 _ _ _ _ rfl rfl, (Below.refl _ _).alloc (Nat.le_refl _) _⟩
  · rw [h]
    clear h
    have n0 : (c == 0) = false := by simp; omega
    have n1 : (c == 1) = false := by simp; omega
    have n2 : (c == 2) = false := by simp; omega
    have n3 : (c == 3) = false := by simp; omega
    have n4 : (c == 4) = false := by simp; omega
    have n5 : (c == 5) = false := by simp; omega
    go_enter Tryd.func56, Tryd.ntmps56
    go_wp2
    go_ret
    exact ⟨_, rfl, ⟨none, 0, rfl, .inl rfl⟩, Below.refl _ _⟩

end Go.Proofs.YtbbbokkfhfmoeaaDoor
