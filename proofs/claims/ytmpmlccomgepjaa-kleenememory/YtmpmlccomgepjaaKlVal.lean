/-
  WALKS over gimletref14's Of, All, Any, Turned, gimletlaw14's truths, plain, equal, and over KleeneValues.
-/
import Derived.Test.YtmpmlccomgepjaaKlFix
import Derived.Laws.AppendOwnNone
namespace Go.Proofs.Ytmpmlccomgepjaa
open Go.RowKit Go.Lib Go.Sort
namespace Kl
theorem of3_eq (x : Int) : of3 x = if x = 0 ∨ x = 2 then x else 1 := by
  unfold of3
  split <;> split <;> omega
theorem turn_eq (x : Int) : 2 - of3 x = notT x := by
  unfold of3 notT
  split
  · split
    · omega
    · split <;> omega
  · split
    · omega
    · split <;> omega
theorem of3_b (x : Int) : 0 ≤ of3 x ∧ of3 x ≤ 2 := by unfold of3; split <;> omega
def ic (l : List Int) : List Value := l.map (.int .i64)
theorem ic_one (l : List Int) : ∀ u ∈ ic l, u.oneCell' = true := fun u hu => by
  obtain ⟨x, _, rfl⟩ := List.mem_map.1 hu
  rfl
/-- a row of numbers of one's own may be read -/
theorem owns_Ts {w : World} {base : Nat} {e : TypeId} {v : Value} {l : List Int} (h : w.ownsRow base e 1 v l.length (ic l)) : Ts w v l := by
  rcases h.2 with ⟨rfl, h0⟩ | ⟨g, cap, cur, rfl, _, h1, h2, h3, h4, h5⟩
  · have : l = [] := List.eq_nil_of_length_eq_zero h0
    subst this
    exact Ts.none w
  · refine ⟨_, cap, rfl, h2, by unfold maxLen at h3; exact h3, fun _ => ⟨g, 0, rfl, fun i x hx => ?_⟩⟩
    have hi := (List.getElem?_eq_some_iff.1 hx).1
    rw [Nat.zero_add, Lib.cell_of_heap h1]
    have e1 : (ic l)[i]? = some (.int .i64 x) := by unfold ic; rw [List.getElem?_map, hx]; rfl
    rw [← h5, List.getElem?_take_of_lt (by omega), Array.getElem?_toList] at e1
    exact e1
theorem addr_add (b o j : Nat) : Addr.add ⟨b, o, none⟩ j = ⟨b, o + j, none⟩ := by
  unfold Addr.add
  split
  · rename_i e
    subst e
    rfl
  · rfl
/-- numbers that came in -/
def TsN (w : World) (v : Value) (l : List Int) : Prop := Ts w v l ∧ (∀ n c, v = .slice none n c → c = 0)
theorem trInfo : (Try.prog.info? 23).map (fun i => (i.zero, i.size, i.bytes)) = some (some (.int .i64 0), 1, 8) := by kernel_rfl
theorem inInfo : (Try.prog.info? 3).map (fun i => (i.zero, i.size, i.bytes)) = some (some (.int .i64 0), 1, 8) := by kernel_rfl
theorem owns_none (w : World) (e : TypeId) : (w.alloc (.cells #[] e)).ownsRow w.heap.size e 1 (.slice (some ⟨w.heap.size, 0, none⟩) 0 0) 0 [] :=
  ⟨rfl, .inr ⟨w.heap.size, 0, #[], rfl, Nat.le_refl _, heap_alloc_new w _, Nat.le_refl _, by decide, rfl, rfl⟩⟩
theorem new_one (W : World) (x : Int) (e : TypeId) : ∀ j u, ([.int .i64 x] : List Value)[j]? = some u → (W.alloc (.cells #[.int .i64 x] e)).cell? (Addr.add ⟨W.heap.size, 0, none⟩ j) = some u := by
  intro j u hj
  match j, hj with
  | 0, hj => simp at hj; subst hj; simp [Addr.add]
  | j + 1, hj => simp at hj
end Kl
set_option maxRecDepth 100000 in
set_option maxHeartbeats 1000000 in
theorem lawTruths14 (v : Value) (l : List Int) (w : World) (h : Kl.TsN w v l) (hn : l.length ≤ 17592186044416) : Calls Try.prog 7 #[v] w fun r w' => ∃ v', r = .returned v' ∧ Hid (Kl.Ts w' v' l) ∧ Below w.heap.size w w' := by
  obtain ⟨i0, hi, hz0, hz1, hz2⟩ := info_parts Kl.trInfo
  obtain ⟨⟨p, cap, rfl, h1, h2, h3⟩, h4⟩ := h
  obtain ⟨n, hnn⟩ : ∃ n, l.length = n := ⟨_, rfl⟩
  have HN := hide' hnn
  rw [hnn] at h1 h3 hn h4 ⊢
  clear hnn
  have HR : Hid (∀ v' w', w'.ownsRow w.heap.size 23 1 v' n (Kl.ic l) → Kl.Ts w' v' l) := fun v' w' h => Kl.owns_Ts (by rw [HN.out]; exact h)
  cases p with
  | none =>
    obtain rfl : cap = 0 := h4 n cap rfl
    obtain rfl : n = 0 := by omega
    obtain rfl : l = [] := List.eq_nil_of_length_eq_zero HN.out
    clear h3 h4
    go_enter Try.func7, Try.ntmps7
    go_wp2_with (at_builtin; refine wpList_append_own_none rfl _ _ 27 rfl w.heap.size 23 i0 1 Try.underlying27 hi _ 0 [] rfl (Kl.owns_none w _) rfl ?_)
    go_ret
    exact ⟨_, rfl, HR.out _ _ (Kl.owns_none w _), (Below.refl _ _).alloc (Nat.le_refl _) _⟩
  | some ad =>
    have hcell : ∀ j u, (Kl.ic l)[j]? = some u → (w.alloc (.cells #[] 23)).cell? (ad.add j) = some u := fun j u hj => by
      have hjl : j < l.length := by have := (List.getElem?_eq_some_iff.1 hj).1; simpa [Kl.ic] using this
      obtain ⟨b, o, e, k⟩ := h3 (by rw [HN.out] at hjl; omega)
      cases e
      obtain ⟨x, hx⟩ := Kl.some_of hjl
      have hu : u = .int .i64 x := by unfold Kl.ic at hj; rw [List.getElem?_map, hx] at hj; simpa using hj.symm
      subst hu
      have q := k j x hx
      rw [Kl.addr_add]
      exact ((Below.refl _ _).alloc (Nat.le_refl _) _).cell (p := ⟨b, o + j, none⟩) (block_lt_of_cell q) |>.trans q
    have HC := hide' hcell
    have HL : Hid ((Kl.ic l).length = n * 1) := by show (Kl.ic l).length = _; unfold Kl.ic; rw [List.length_map, HN.out]; omega
    clear h3 h4 hcell
    go_enter Try.func7, Try.ntmps7
    go_wp2_with (at_builtin; refine wpList_append_own _ rfl _ _ 27 rfl w.heap.size 23 i0 (.int .i64 0) 1 8 Try.underlying27 hi hz0 hz1 hz2 rfl (by decide) _ 0 [] rfl (Kl.owns_none w _) ad n cap (Kl.ic l) rfl HL.out HC.out (Kl.ic_one l) ?c1 ?c2 ?c3 ?_)
    case c1 => unfold maxLen; omega
    case c2 => omega
    case c3 => simp
    intro v' w1 hown hgb _
    have HO : Hid (Kl.Ts w1 v' l) := HR.out _ _ (by simpa using hown)
    have HB : Hid (Below w.heap.size w w1) := ((Below.refl w.heap.size w).alloc (Nat.le_refl _) _).grown hgb (by simp) (fun k hk => by cases hk; exact Nat.le_refl _)
    clear hown hgb
    go_wp2_with fail
    go_ret
    exact ⟨_, rfl, HO, HB.out⟩
set_option maxRecDepth 100000 in
set_option maxHeartbeats 2000000 in
theorem lawEqual14 (va vb : Value) (l : List Int) (w : World) (ha : Kl.Ts w va l) (hb : Kl.Ts w vb l) : Calls Try.prog 11 #[va, vb] w fun r w' => r = .returned (.bool true) ∧ Below w.heap.size w w' := by
  have mixed : Try.prog.follows Departure.mixedOrders = true := by kernel_rfl
  obtain ⟨p, cap, rfl, h1, h2, h3⟩ := ha
  obtain ⟨p', cap', rfl, g1, g2, g3⟩ := hb
  obtain ⟨n, hnn⟩ : ∃ n, l.length = n := ⟨_, rfl⟩
  have HN := hide' hnn
  rw [hnn] at h1 h3 g1 g3 ⊢
  have H3 := hide' h3
  have G3 := hide' g3
  clear hnn h3 g3
  go_enter Try.func11, Try.ntmps11
  go_wp2_with fail
  go_loopw [13] (fun z wr => ∃ i : Nat, z = .int .i64 i ∧ i ≤ n ∧ Hid (Kl.Gr w wr)) (fun z _ => n - (RowKit.intOf z).toNat)
  case atStart => exact ⟨0, rfl, Nat.zero_le _, Kl.Gr.refl _⟩
  case round =>
    obtain ⟨i, rfl, hi1, HG⟩ := hrel
    by_cases hlt : i < n
    · have t1 : (i : Int) < (n : Int) := by omega
      obtain ⟨b, o, rfl, k⟩ := H3.out (by omega)
      obtain ⟨b', o', rfl, k'⟩ := G3.out (by omega)
      obtain ⟨x, hx⟩ := Kl.some_of (l := l) (i := i) (by rw [HN.out]; exact hlt)
      have c0 := fun q os => cell_grown (block_lt_of_cell (HG.out.cell (k i x hx))) (HG.out.cell (k i x hx)) q os
      have c1 := fun q os => cell_grown (block_lt_of_cell (HG.out.cell (k' i x hx))) (HG.out.cell (k' i x hx)) q os
      clear k k' hx
      go_wp2_with fail
      go_quiet_grown (fail)
      have HG2 : Hid (Kl.Gr w (grow (wr.drewN nq) osq)) := HG.out.trans ⟨nq, osq, rfl⟩
      clear c0 c1
      go_wp2_with fail
      go_roundw
      case rel => exact ⟨i + 1, by go_num, by omega, HG2⟩
      case measure => simp [RowKit.intOf]; omega
    · have t1 : ¬ (i : Int) < (n : Int) := by omega
      go_wp2_with fail
      go_ret
      exact ⟨rfl, HG.out.below⟩
end Go.Proofs.Ytmpmlccomgepjaa
