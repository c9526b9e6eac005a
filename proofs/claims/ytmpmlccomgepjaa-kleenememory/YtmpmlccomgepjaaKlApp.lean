/-
  append of formulas to a row of one's own, or to none.
-/
import Derived.Test.YtmpmlccomgepjaaKlOrd
import Derived.Maps.AppendAt
import Derived.Laws.AppendOwnNone
namespace Go.Proofs.Ytmpmlccomgepjaa
open Go.RowKit Go.Lib Go.Sort
namespace Kl
/-- a row of one's own, or none -/
def OR (w : World) (v : Value) (l : List Fv) : Prop := (v = .slice none 0 0 ∧ l = []) ∨ ∃ g cap, v = .slice (some ⟨g, 0, none⟩) l.length cap ∧ Rw w g cap l.length (nth l)
/-- formulas to be read -/
def Src (w : World) (u : Value) (l : List Fv) : Prop := (u = .slice none 0 0 ∧ l = []) ∨ ∃ b o c, u = .slice (some ⟨b, o, none⟩) l.length c ∧ ∀ i x, l[i]? = some x → w.rangeAt b (o + i * 4) x.enc
def flatL (l : List Fv) : List Value := l.flatMap Fv.enc
theorem flatL_len (l : List Fv) : (flatL l).length = l.length * 4 := by
  induction l with
  | nil => rfl
  | cons x l ih => rw [flatL, List.flatMap_cons, List.length_append, Fv.len, List.length_cons]; rw [flatL] at ih; omega
theorem flat_map (R : Nat → Fv) : ∀ n, flat R n = flatL ((List.range n).map R)
  | 0 => rfl
  | n + 1 => by rw [flat, flat_map R n, List.range_succ, List.map_append]; simp [flatL]
theorem flat_nth (l : List Fv) : flat (nth l) l.length = flatL l := by rw [flat_map, nth_range]
theorem flatL_one (l : List Fv) : ∀ u ∈ flatL l, u.oneCell' = true := fun u hu => by
  obtain ⟨x, _, hx⟩ := List.mem_flatMap.1 hu
  obtain ⟨o, v, n, p, c, m⟩ := x
  simp [Fv.enc] at hx
  rcases hx with rfl | rfl | rfl | rfl <;> rfl
theorem flatL_get {l : List Fv} {j : Nat} {u : Value} (h : (flatL l)[j]? = some u) : ∃ x, l[j / 4]? = some x ∧ x.enc[j % 4]? = some u := by
  have hj : j < l.length * 4 := by have := (List.getElem?_eq_some_iff.1 h).1; rw [flatL_len] at this; exact this
  obtain ⟨x, hx⟩ := some_of (l := l) (i := j / 4) (by omega)
  have e := flat_get (nth l) l.length (j / 4) (j % 4) (by omega) (by omega)
  rw [flat_nth, show j / 4 * 4 + j % 4 = j by omega, h, nth_some hx] at e
  exact ⟨x, hx, e.symm⟩
theorem OR.owns {w : World} {v : Value} {l : List Fv} (h : OR w v l) : w.ownsRow 0 26 4 v l.length (flatL l) := by
  rcases h with ⟨rfl, rfl⟩ | ⟨g, cap, rfl, hr⟩
  · exact World.ownsRow_nil w 0 _ 4
  · rw [← flat_nth]
    exact hr.owns (Nat.zero_le _)
theorem OR.of_owns {w : World} {v : Value} {l : List Fv} (h : w.ownsRow 0 26 4 v l.length (flatL l)) : OR w v l := by
  by_cases c : l = []
  · subst c
    rcases h.2 with ⟨e, _⟩ | ⟨g, cap, cur, e, _, h1, h2, h3, h4, _⟩
    · exact .inl ⟨e, rfl⟩
    · exact .inr ⟨g, cap, e, ⟨cur, h1, h4⟩, h2, h3, fun k hk => by simp at hk⟩
  · rw [← flat_nth] at h
    obtain ⟨g, cap, e, _, hr⟩ := Rw.of_owns h (by cases l with | nil => exact absurd rfl c | cons _ _ => simp)
    exact .inr ⟨g, cap, e, hr⟩
theorem fparts : ∃ i0 : TypeInfo, Try.prog.info? 26 = some i0 ∧ i0.zero = some zf ∧ i0.size = 4 ∧ i0.bytes = 48 := info_parts (by kernel_rfl)
theorem run_app (w : World) (ty : TypeId) (v u : Value) (l m : List Fv) (hv : OR w v l) (hu : Src w u m) (hb : l.length + m.length ≤ 2097152) :
    ∃ v' w', (Builtin.append_ #[24, 24] ty #[v, u]).run Try.prog w = .ok v' w' ∧ OR w' v' (l ++ m) ∧ w.grownBy w' v.ownBlock ∧ (v'.ownBlock = v.ownBlock ∨ v'.ownBlock = some w.heap.size) := by
  obtain ⟨i0, hi0, hz0, hz1, hz2⟩ := fparts
  rcases hu with ⟨rfl, rfl⟩ | ⟨b, o, c, rfl, hc⟩
  · exact ⟨v, w, run_append_owned_none w 0 24 ty 26 i0 4 Try.underlying24 hi0 v l.length (flatL l) hv.owns, by rw [List.append_nil]; exact hv, ⟨rfl, rfl, rfl, Nat.le_refl _, fun _ _ _ => rfl⟩, .inl rfl⟩
  · obtain ⟨v', w', h1, h2, h3, _, h5⟩ := run_append_own_at (P := Try.prog) w 0 24 ty 26 i0 zf 4 48 Try.underlying24 hi0 hz0 hz1 hz2 rfl (by decide) v l.length (flatL l) hv.owns ⟨b, o, none⟩ m.length c (flatL m) (flatL_len m)
      (fun j x hj => by
        obtain ⟨y, hy, hx⟩ := flatL_get hj
        have := hc _ _ hy _ _ hx
        rw [show o + j / 4 * 4 + j % 4 = o + j by omega] at this
        unfold Addr.add
        split
        · rename_i e; subst e; exact this
        · exact this) (flatL_one m) (by unfold maxLen; omega) (by omega) (Nat.zero_le _)
    refine ⟨v', w', h1, OR.of_owns ?_, h3, h5⟩
    rw [List.length_append, show flatL (l ++ m) = flatL l ++ flatL m by simp [flatL]]
    exact h2
theorem wpList_app {w : World} {ops : Array Oper} {rest : List Oper} {o : Oper} {a : Act} {Q : Exit → Act → World → Prop} (hgd : o.guard = none) (s x : Operand)
    (ho : o.op = .call { callee := .builtin .append, args := #[s, x], argTypes := #[24, 24] }) (v u : Value) (l m : List Fv) (hs : a.eval s = v) (hx : a.eval x = u) (hv : OR w v l) (hu : Src w u m) (hb : l.length + m.length ≤ 2097152)
    (h : ∀ v' w', OR w' v' (l ++ m) → w.grownBy w' v.ownBlock → (v'.ownBlock = v.ownBlock ∨ v'.ownBlock = some w.heap.size) → wpList Try.prog ops Q rest (a.put o.dst v') w') : wpList Try.prog ops Q (o :: rest) a w := by
  refine wpList_plain hgd fun K hK => ?_
  obtain ⟨v', w', hr, h2, h3, h4⟩ := run_app w o.type v u l m hv hu hb
  unfold Oper.wp execOp
  simp only [ho, resolve, invoke, builtin, Sem.run_bind, Sem.run_pure, Result.andThen_ok, List.map_toArray, List.map_cons, List.map_nil, hs, hx, hr]
  exact hK _ _ (h v' w' h2 h3 h4)
theorem OR.form {w : World} {v : Value} {l : List Fv} (h : OR w v l) : ∃ p c, v = .slice p l.length c ∧ l.length ≤ c ∧ c ≤ 9223372036854775807 := by
  rcases h with ⟨rfl, rfl⟩ | ⟨g, cap, rfl, hr⟩
  · exact ⟨none, 0, rfl, Nat.le_refl _, by omega⟩
  · exact ⟨_, cap, rfl, hr.len, by have := hr.max; unfold maxLen at this; exact this⟩
theorem OR.keep {w w' : World} {v : Value} {l : List Fv} (h : OR w v l) (hk : ∀ b, v.ownBlock = some b → b < w.heap.size → w'.heap[b]? = w.heap[b]?) : OR w' v l := by
  rcases h with h | ⟨g, cap, rfl, hr⟩
  · exact .inl h
  · exact .inr ⟨g, cap, rfl, hr.keep (hk g rfl hr.lt)⟩
theorem OR.src {w : World} {v : Value} {l : List Fv} (h : OR w v l) : Src w v l := by
  rcases h with h | ⟨g, cap, rfl, hr⟩
  · exact .inl h
  · refine .inr ⟨g, 0, cap, rfl, fun i x hx => ?_⟩
    have := hr.rng i (List.getElem?_eq_some_iff.1 hx).1
    rw [nth_some hx] at this
    rw [Nat.zero_add]
    exact this
end Kl
end Go.Proofs.Ytmpmlccomgepjaa
