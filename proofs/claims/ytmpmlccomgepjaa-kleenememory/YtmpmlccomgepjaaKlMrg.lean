/-
  WALKS over gimletlaw14.truths (a row of its own) and merged.
-/
import Derived.Test.YtmpmlccomgepjaaKlEvM
import Derived.Test.YtmpmlccomgepjaaKlGat
namespace Go.Proofs.Ytmpmlccomgepjaa
open Go.RowKit Go.Lib Go.Sort
namespace Kl
def at1 (l : List Int) (i : Nat) : Int := (l[i]?).getD 1
/-- v's value where v knows it, w's else -/
def mrg (vs us : List Int) : List Int := (List.range (max vs.length us.length)).map fun i => if at1 vs i ≠ 1 then at1 vs i else at1 us i
theorem mrg_len (vs us : List Int) : (mrg vs us).length = max vs.length us.length := by simp [mrg]
theorem at1_mrg (vs us : List Int) (i : Nat) : at1 (mrg vs us) i = if at1 vs i ≠ 1 then at1 vs i else at1 us i := by
  by_cases h : i < max vs.length us.length
  · have : (mrg vs us)[i]? = some (if at1 vs i ≠ 1 then at1 vs i else at1 us i) := by unfold mrg; rw [List.getElem?_map, List.getElem?_range h]; rfl
    conv => lhs; unfold at1
    rw [this]
    rfl
  · have e0 : (mrg vs us)[i]? = none := List.getElem?_eq_none (by rw [mrg_len]; omega)
    have e1 : vs[i]? = none := List.getElem?_eq_none (by omega)
    have e2 : us[i]? = none := List.getElem?_eq_none (by omega)
    unfold at1
    rw [e0, e1, e2]
    simp
theorem valL_at {vs : List Int} {n : Int} (h : 0 ≤ n) : valL vs n = at1 vs n.toNat := by
  unfold valL at1
  by_cases c : n < vs.length
  · rw [if_pos c]
  · rw [if_neg c, List.getElem?_eq_none (by omega)]
    rfl
theorem list_at {L M : List Int} (hl : L.length = M.length) (h : ∀ j, j < L.length → at1 L j = at1 M j) : L = M := by
  apply List.ext_getElem hl
  intro i h1 h2
  have := h i h1
  unfold at1 at this
  rw [List.getElem?_eq_getElem h1, List.getElem?_eq_getElem h2] at this
  exact this
theorem at1_set {L : List Int} {i : Nat} (hi : i < L.length) (x : Int) (j : Nat) : at1 (L.set i x) j = if j = i then x else at1 L j := by
  unfold at1
  rw [List.getElem?_set]
  by_cases e : i = j
  · subst e; simp [hi]
  · rw [if_neg e, if_neg (Ne.symm e)]
theorem ic_set (L : List Int) (i : Nat) (x : Int) : ic (L.set i x) = (ic L).set i (.int .i64 x) := by simp [ic, List.map_set]
theorem ic_at {L : List Int} {i : Nat} (hi : i < L.length) : (ic L)[i]? = some (.int .i64 (at1 L i)) := by
  unfold ic at1
  rw [List.getElem?_map, List.getElem?_eq_getElem hi]
  rfl
/-- the form of a row of one's own -/
theorem owns_sl {w : World} {base : Nat} {e : TypeId} {v : Value} {n : Nat} {xs : List Value} (h : w.ownsRow base e 1 v n xs) : ∃ p c, v = .slice p n c ∧ n ≤ c ∧ c ≤ 9223372036854775807 := by
  rcases h.2 with ⟨rfl, rfl⟩ | ⟨g, cap, cur, h1, h2, h3, h4, h5, _⟩
  · exact ⟨none, 0, rfl, Nat.le_refl _, by omega⟩
  · exact ⟨_, cap, h1, h4, by unfold maxLen at h5; exact h5⟩
theorem owns_form {w : World} {base : Nat} {e : TypeId} {v : Value} {n : Nat} {xs : List Value} (h : w.ownsRow base e 1 v n xs) : (v = .slice none 0 0 ∧ n = 0) ∨ ∃ g cap, v = .slice (some ⟨g, 0, none⟩) n cap ∧ base ≤ g ∧ g < w.heap.size ∧ n ≤ cap ∧ cap ≤ 9223372036854775807 := by
  rcases h.2 with h0 | ⟨g, cap, cur, h1, h2, h3, h4, h5, _⟩
  · exact .inl h0
  · exact .inr ⟨g, cap, h1, h2, (Array.getElem?_eq_some_iff.1 h3).1, h4, by unfold maxLen at h5; exact h5⟩
def slen : Value → Nat
  | .slice _ n _ => n
  | _ => 0
end Kl
set_option maxRecDepth 100000 in
set_option maxHeartbeats 1000000 in
theorem lawTruthsO (v : Value) (l : List Int) (w : World) (h : Kl.TsN w v l) (hn : l.length ≤ 17592186044416) : Calls Try.prog 7 #[v] w fun r w' => ∃ v', r = .returned v' ∧ Hid (w'.ownsRow w.heap.size 23 1 v' l.length (Kl.ic l)) ∧ Hid (Below w.heap.size w w') := by
  obtain ⟨i0, hi, hz0, hz1, hz2⟩ := info_parts Kl.trInfo
  obtain ⟨⟨p, cap, rfl, h1, h2, h3⟩, h4⟩ := h
  obtain ⟨n, hnn⟩ : ∃ n, l.length = n := ⟨_, rfl⟩
  have HN := hide' hnn
  rw [hnn] at h1 h3 hn h4 ⊢
  clear hnn
  cases p with
  | none =>
    obtain rfl : cap = 0 := h4 n cap rfl
    obtain rfl : n = 0 := by omega
    obtain rfl : l = [] := List.eq_nil_of_length_eq_zero HN.out
    clear h3 h4
    go_enter Try.func7, Try.ntmps7
    go_wp2_with (at_builtin; refine wpList_append_own_none rfl _ _ 27 rfl w.heap.size 23 i0 1 Try.underlying27 hi _ 0 [] rfl (Kl.owns_none w _) rfl ?_)
    go_ret
    exact ⟨_, rfl, Kl.owns_none w _, (Below.refl _ _).alloc (Nat.le_refl _) _⟩
  | some ad =>
    have hcell : ∀ j u, (Kl.ic l)[j]? = some u → (w.alloc (.cells #[] 23)).cell? (ad.add j) = some u := fun j u hj => by
      have hjl : j < l.length := by have := (List.getElem?_eq_some_iff.1 hj).1; simpa [Kl.ic] using this
      obtain ⟨b, o, e, k⟩ := h3 (by rw [HN.out] at hjl; omega)
      cases e
      obtain ⟨x, hx⟩ := Kl.some_of hjl
      have hu : u = .int .i64 x := by unfold Kl.ic at hj; rw [List.getElem?_map, hx] at hj; simpa using hj.symm
      subst hu
      have q := k j x hx
      rw [Kl.addr_add]
      exact ((Below.refl _ _).alloc (Nat.le_refl _) _).cell (p := ⟨b, o + j, none⟩) (block_lt_of_cell q) |>.trans q
    have HC := hide' hcell
    have HL : Hid ((Kl.ic l).length = n * 1) := by show (Kl.ic l).length = _; unfold Kl.ic; rw [List.length_map, HN.out]; omega
    clear h3 h4 hcell
    go_enter Try.func7, Try.ntmps7
    go_wp2_with (at_builtin; refine wpList_append_own _ rfl _ _ 27 rfl w.heap.size 23 i0 (.int .i64 0) 1 8 Try.underlying27 hi hz0 hz1 hz2 rfl (by decide) _ 0 [] rfl (Kl.owns_none w _) ad n cap (Kl.ic l) rfl HL.out HC.out (Kl.ic_one l) ?c1 ?c2 ?c3 ?_)
    case c1 => unfold maxLen; omega
    case c2 => omega
    case c3 => simp
    intro v' w1 hown hgb _
    have HO : Hid (w1.ownsRow w.heap.size 23 1 v' n (Kl.ic l)) := by show w1.ownsRow _ _ _ _ _ _; simpa using hown
    have HB : Hid (Below w.heap.size w w1) := ((Below.refl w.heap.size w).alloc (Nat.le_refl _) _).grown hgb (by simp) (fun k hk => by cases hk; exact Nat.le_refl _)
    clear hown hgb
    go_wp2_with fail
    go_ret
    exact ⟨_, rfl, HO, HB⟩
end Go.Proofs.Ytmpmlccomgepjaa
