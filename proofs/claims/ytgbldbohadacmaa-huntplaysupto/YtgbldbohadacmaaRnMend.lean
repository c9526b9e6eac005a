/-
  WALKS over runes.MendParts and runes.Mend: what is written into the Builder, character by character.
-/
import Derived.Test.YtgbldbohadacmaaRnAll
import Derived.Lib.SmallJoins
namespace Go.Proofs.Ytgbldbohadacmaa
open Go.RowKit Go.Shelf
attribute [local go_sem] Oper.semAt_some

namespace Rn
/-- one character more: the bytes that are written, and the place behind the last piece of wrong bytes -/
def mpStep (f : Nat → Nat) (n : Nat) (st : List UInt8 × Nat) (x : Chr n) : List UInt8 × Nat :=
  if x.1.1 < st.2 then st else (st.1 ++ Lib.encodeRune x.1.2, if x.1.2 = 65533 then x.1.1 + pw (off f x.1.1) (n - x.1.1) else st.2)
def mp (f : Nat → Nat) (n : Nat) (xs : List (Chr n)) : List UInt8 × Nat := xs.foldl (mpStep f n) ([], 0)
theorem mp_snoc (f : Nat → Nat) (n : Nat) (xs : List (Chr n)) (x : Chr n) : mp f n (xs ++ [x]) = mpStep f n (mp f n xs) x := by
  simp [mp, List.foldl_append]
theorem pw_le (f : Nat → Nat) (n : Nat) (hn : 0 < n) : pw f n ≤ n ∧ 0 < pw f n := by
  have a1 := fk_le f n
  unfold pw
  split
  · next h =>
    simp only [whole, decide_eq_true_eq] at h
    omega
  · omega
end Rn

theorem kept_cells {W W' : World} {row : Option Nat} (hg : W.grownBy W' row) (hr : ∀ r, row = some r → ∃ o : Obj, W.heap[r]? = some o ∧ o.isCells = false) {k : Nat} {o : Obj} (hk : W.heap[k]? = some o) (ho : o.isCells = true) : W'.heap[k]? = some o := by
  have hlt : k < W.heap.size := (Array.getElem?_eq_some_iff.1 hk).1
  rw [hg.block k hlt (fun e => by
    obtain ⟨o', h1, h2⟩ := hr k e.symm
    rw [hk] at h1
    cases h1
    rw [ho] at h2
    cases h2)]
  exact hk
theorem builder_kept {T e : TypeId} {B b : Nat} {bs : List Value} {W W' : World} (h : Lib.IsBuilderF T e B b bs W) (hk : ∀ (k : Nat) (o : Obj), W.heap[k]? = some o → o.isCells = true → W'.heap[k]? = some o) : Lib.IsBuilderF T e B b bs W' := by
  have go : ∀ {p : Value}, Lib.BuilderAtF T e B b p bs W → Lib.BuilderAtF T e B b p bs W' := by
    rintro p ⟨hB, v, hb, hown, hne⟩
    refine ⟨hB, v, hk _ _ hb rfl, ⟨hown.1, ?_⟩, hne⟩
    rcases hown.2 with hn | ⟨g, cap, cur, fz, hv, hbg, hg, rest⟩
    · exact .inl hn
    · exact .inr ⟨g, cap, cur, fz, hv, hbg, hk _ _ hg rfl, rest⟩
  exact h.elim (fun x => .inl (go x)) (fun x => .inr (go x))

theorem builder_set {T e : TypeId} {B b : Nat} {bs : List Value} {W : World} (h : Lib.IsBuilderF T e B b bs W) {k i : Nat} {c : Array Value} {t : TypeId} {fz : Nat × Nat} (hk : W.heap[k]? = some (.cells c t fz)) (ht : t ≠ e) (hb' : k ≠ b) (u : Value) :
    Lib.IsBuilderF T e B b bs (W.setCell ⟨k, i, none⟩ u) := by
  have go : ∀ {p : Value}, Lib.BuilderAtF T e B b p bs W → Lib.BuilderAtF T e B b p bs (W.setCell ⟨k, i, none⟩ u) := by
    rintro p ⟨hB, v, hb, hown, hne⟩
    refine ⟨hB, v, (Below.heap_setCell W ⟨k, i, none⟩ u b (Ne.symm hb')).trans hb, ⟨hown.1, ?_⟩, hne⟩
    rcases hown.2 with hn | ⟨g, cap, cur, fz, hv, hbg, hg, rest⟩
    · exact .inl hn
    · refine .inr ⟨g, cap, cur, fz, hv, hbg, (Below.heap_setCell W ⟨k, i, none⟩ u g ?_).trans hg, rest⟩
      rintro rfl
      rw [hk] at hg
      cases hg
      exact ht rfl
  exact h.elim (fun x => .inl (go x)) (fun x => .inr (go x))

theorem keepsOthers_of {e : TypeId} {b : Nat} {B : Nat} {W W' : World} (hk : Lib.OthersKept e (some b) W W') (hb : Below B W W') {c : Array Value} {t : TypeId} {fz : Nat × Nat} (hc : W.heap[b]? = some (.cells c t fz)) : KeepsOthers W W' :=
  ⟨hb.size, fun k o ho hn => hk k o ho (fun e1 => by cases e1; rw [hc] at ho; cases ho; cases hn) (fun c' fz' e1 => by rw [e1] at hn; cases hn)⟩
theorem keepsOthers_below {W W' : World} (hb : Below W.heap.size W W') : KeepsOthers W W' :=
  ⟨hb.size, fun k _ ho _ => (hb.block k (Array.getElem?_eq_some_iff.1 ho).1).trans ho⟩
theorem keepsWalks_of {W W' : World} (h : KeepsOthers W W') : KeepsWalks W W' :=
  ⟨h.size, fun k o ho hw => h.same k o ho (Obj.not_cells_of_walk hw)⟩
theorem isB_block {T e : TypeId} {B b : Nat} {bs : List Value} {W : World} (h : Lib.IsBuilderF T e B b bs W) : ∃ c, W.heap[b]? = some (.cells c T (0, 0)) := by
  rcases h with ⟨_, v, hb, _⟩ | ⟨_, v, hb, _⟩
  · exact ⟨_, hb⟩
  · exact ⟨_, hb⟩

end Go.Proofs.Ytgbldbohadacmaa
