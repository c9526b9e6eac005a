/-
  WALKS over slices.Clone (of bytes) and feed's Rest.
-/
import Derived.Test.YtbfabpjhdhhpfaaDoorFdDrop
import Derived.Deep.AppendLies
namespace Go.Proofs.YtbfabpjhdhhpfaaDoor
open Go.RowKit Go.Lib

set_option maxRecDepth 100000 in
set_option maxHeartbeats 400000 in
/-- Clone of nil -/
theorem clone_nil (w : World) : Calls Tryd.prog 36 #[.slice none 0 0] w fun e w' => e = .returned (.slice none 0 0) ∧ w' = w := by
  have hnil := fun (W : World) (a : Option Addr) (x y : Nat) => run_eql_nil_slice (P := Tryd.prog) W 27 5 a x y 0 0 Tryd.underlying27
  go_enter Tryd.func36, Tryd.ntmps36
  go_wp2
  go_ret
  exact ⟨rfl, rfl⟩

set_option maxRecDepth 100000 in
set_option maxHeartbeats 1000000 in
/-- Clone: new memory -/
theorem clone_some (f : Nat → Nat) (n cap : Nat) (ad : Addr) (w : World) (hn : n ≤ 140737488355328) (hc : ∀ j u, (xs f n)[j]? = some u → w.cell? (ad.add j) = some u) :
    Calls Tryd.prog 36 #[.slice (some ad) n cap] w fun e w' => ∃ v, e = .returned v ∧ w'.ownsRow w.heap.size 5 1 v n (xs f n) ∧ Below w.heap.size w w' := by
  obtain ⟨i0, hi, hz0, hz1, hz2⟩ := info_parts infoByte'
  have hnews : ∀ j u, (xs f n)[j]? = some u → (w.alloc (.cells #[] 5)).cell? (ad.add j) = some u := fun j u hu =>
    (((Below.refl w.heap.size w).alloc (Nat.le_refl _) _).cell (p := ad.add j) (block_lt_of_cell (hc j u hu))).trans (hc j u hu)
  have hnil := fun (W : World) (a : Option Addr) (x y : Nat) => Lib.run_eql_slice_nil (P := Tryd.prog) W 27 5 a x y 0 0 Tryd.underlying27
  go_enter Tryd.func36, Tryd.ntmps36
  go_wp2_with (at_builtin; refine wpList_append_own _ rfl _ _ 27 rfl w.heap.size 5 i0 (.int .u8 0) 1 1 Tryd.underlying27 hi hz0 hz1 hz2 rfl (by decide) _ 0 [] rfl (owns_empty w) ad n cap (xs f n) rfl ?b0 hnews (one_cell f n) ?b1 ?b2 ?b3 ?_)
  case b0 => first | exact xs_length f n | (rw [xs_length]; omega)
  case b1 => unfold maxLen; omega
  case b2 => omega
  case b3 => simp
  intro v1 w1 hown1 hgrow1 hnn1
  have hB1 : Below w.heap.size w w1 := ((Below.refl w.heap.size w).alloc (Nat.le_refl _) _).grown hgrow1 (by simp) (fun k hk => by simp [Value.ownBlock] at hk; omega)
  have hown1' : w1.ownsRow w.heap.size 5 1 v1 n (xs f n) := by simpa using hown1
  have HO := hide' hown1'
  have HB := hide' hB1
  clear hown1 hown1' hB1 hgrow1 hnn1 hnews hc
  go_wp2
  go_ret
  exact ⟨_, rfl, HO.out, HB.out⟩

section
variable {D B : Nat} {v : Value} {g : Nat → Nat} {n k wh pb pr pl pc : Nat} {bad ended : Bool} {w : World}

set_option maxHeartbeats 1000000 in
/-- behind the end, or a byte of no character: no rest -/
theorem feedRest_none (h : FeedAt w D B v g n k wh pb pr pl pc bad ended) (hb : ended = true ∨ bad = true) :
    Calls Tryd.prog 14 #[.pointer (some ⟨D, 0, none⟩)] w fun e w' => e = .returned (.slice none 0 0) ∧ w' = w := by
  obtain ⟨c0, -, c2, -, -, -, -, c7, c8⟩ := h.cell
  clear h
  cases ended
  · cases bad
    · rcases hb with e | e <;> cases e
    · go_enter Tryd.func14, Tryd.ntmps14
      go_wp2
      go_ret
      exact ⟨rfl, rfl⟩
  · go_enter Tryd.func14, Tryd.ntmps14
    go_wp2
    go_ret
    exact ⟨rfl, rfl⟩

set_option maxHeartbeats 2000000 in
/-- the rest, in new memory -/
theorem feedRest_some (h : FeedAt w D B v g n k wh pb pr pl pc false false) (hwh : wh ≤ n) (hn : n ≤ 140737488355328) :
    Calls Tryd.prog 14 #[.pointer (some ⟨D, 0, none⟩)] w fun e w' => ∃ u, e = .returned u ∧ w'.ownsRow w.heap.size 5 1 u (n - Fd.rst g n wh) (xs (Rn.off g (Fd.rst g n wh)) (n - Fd.rst g n wh)) ∧ Below w.heap.size w w' := by
  rcases owns_row h.2 with ⟨rfl, rfl⟩ | ⟨q, cap, rfl, hq1, hq2, hc, hm, hby⟩
  · obtain rfl : wh = 0 := by omega
    have e : Fd.rst g 0 0 = 0 := by simp [Fd.rst]
    rw [e]
    obtain ⟨c0, -, c2, -, -, -, -, c7, c8⟩ := h.cell
    have cC := clone_nil w
    clear h
    go_enter Tryd.func14, Tryd.ntmps14
    go_wp2_with fail
    refine cC.mono ?_
    rintro e w1 ⟨rfl, rfl⟩
    go_wp2_with fail
    go_ret
    exact ⟨_, rfl, World.ownsRow_nil _ _ _ _, Below.refl _ _⟩
  have hm' : cap ≤ 9223372036854775807 := by unfold maxLen at hm; omega
  obtain ⟨c0, -, c2, -, -, -, -, c7, c8⟩ := h.cell
  have cC : ∀ (x : Nat), x ≤ n → ∀ ad : Addr, (x < n → ad = ⟨q, x, none⟩) → ∀ cp, _ := fun x hx ad had cp => clone_some (Rn.off g x) (n - x) cp ad w (by omega) (fun j u hu => by
    obtain ⟨hj, rfl⟩ := xs_get _ _ _ _ hu
    rw [had (by omega), show Addr.add ⟨q, x, none⟩ j = ⟨q, x + j, none⟩ by simp [Addr.add]]
    have := hby (x + j) (by omega)
    rw [Nat.zero_add] at this
    exact this)
  have b1 : 0 < wh → w.cell? ⟨q, wh - 1, none⟩ = some (.int .u8 (g (wh - 1))) := fun h0 => by
    have := hby (wh - 1) (by omega)
    rw [Nat.zero_add] at this
    exact this
  clear h hby
  have i1 : (0 : Int) ≤ (wh : Int) := by omega
  have i2 : (wh : Int) ≤ n := by omega
  by_cases hwn : wh = n
  · subst hwn
    by_cases h0 : 0 < wh
    · have b := b1 h0
      clear b1
      obtain ⟨m, rfl⟩ : ∃ m, wh = m + 1 := ⟨wh - 1, by omega⟩
      rw [Nat.add_sub_cancel] at b
      by_cases h13 : g m = 13
      · have e : Fd.rst g (m + 1) (m + 1) = m := by unfold Fd.rst; rw [if_pos ⟨rfl, by omega, h13⟩]; rfl
        rw [e]
        rw [h13] at b
        have cX := cC m (by omega) ⟨q, m, none⟩ (fun _ => rfl) (cap - m)
        rw [show m + 1 - m = 1 by omega] at cX ⊢
        have j1 : (0 : Int) ≤ (m : Int) := by omega
        have j2 : (m : Int) ≤ (m : Int) + 1 := by omega
        have j3 : ¬ cap - m = 0 := by omega
        have j4 : ¬ cap = m := by omega
        clear cC e h13 i1 i2
        go_enter Tryd.func14, Tryd.ntmps14
        go_wp2_with fail
        refine cX.mono ?_
        rintro e w1 ⟨u, rfl, ho, hb⟩
        go_wp2_with fail
        go_ret
        exact ⟨_, rfl, ho, hb⟩
      · have e : Fd.rst g (m + 1) (m + 1) = m + 1 := by unfold Fd.rst; rw [if_neg (fun h => h13 h.2.2)]
        rw [e]
        have h13' : ((g m : Int) == 13) = false := by simp; omega
        generalize g m = gm at *
        clear h13 e
        by_cases hcap : cap = m + 1
        · subst hcap
          have cX := cC (m + 1) (Nat.le_refl _) ⟨q, 0, none⟩ (fun h => absurd h (by omega)) 0
          rw [Nat.sub_self] at cX ⊢
          clear cC
          go_enter Tryd.func14, Tryd.ntmps14
          go_wp2_with fail
          refine cX.mono ?_
          rintro e w1 ⟨u, rfl, ho, hb⟩
          go_wp2_with fail
          go_ret
          exact ⟨_, rfl, ho, hb⟩
        · have cX := cC (m + 1) (Nat.le_refl _) ⟨q, m + 1, none⟩ (fun h => absurd h (by omega)) (cap - (m + 1))
          rw [Nat.sub_self] at cX ⊢
          have j3 : ¬ cap - (m + 1) = 0 := by omega
          clear cC
          go_enter Tryd.func14, Tryd.ntmps14
          go_wp2_with fail
          refine cX.mono ?_
          rintro e w1 ⟨u, rfl, ho, hb⟩
          go_wp2_with fail
          go_ret
          exact ⟨_, rfl, ho, hb⟩
    · obtain rfl : wh = 0 := by omega
      have e : Fd.rst g 0 0 = 0 := by simp [Fd.rst]
      rw [e]
      clear b1 e
      by_cases hcap : cap = 0
      · subst hcap
        have cX := cC 0 (Nat.le_refl _) ⟨q, 0, none⟩ (fun h => absurd h (by omega)) 0
        clear cC
        go_enter Tryd.func14, Tryd.ntmps14
        go_wp2_with fail
        refine cX.mono ?_
        rintro e w1 ⟨u, rfl, ho, hb⟩
        go_wp2_with fail
        go_ret
        exact ⟨_, rfl, ho, hb⟩
      · have cX := cC 0 (Nat.le_refl _) ⟨q, 0, none⟩ (fun h => absurd h (by omega)) cap
        clear cC
        go_enter Tryd.func14, Tryd.ntmps14
        go_wp2_with fail
        refine cX.mono ?_
        rintro e w1 ⟨u, rfl, ho, hb⟩
        go_wp2_with fail
        go_ret
        exact ⟨_, rfl, ho, hb⟩
  · have e : Fd.rst g n wh = wh := by unfold Fd.rst; rw [if_neg (fun h => hwn h.1)]
    rw [e]
    have cX := cC wh hwh ⟨q, wh, none⟩ (fun _ => rfl) (cap - wh)
    have j1 : ((wh : Int) == (n : Int)) = false := by simp; omega
    have j3 : ¬ cap - wh = 0 := by omega
    have j4 : ¬ cap = wh := by omega
    clear cC b1 e hwn
    go_enter Tryd.func14, Tryd.ntmps14
    go_wp2_with fail
    refine cX.mono ?_
    rintro e w1 ⟨u, rfl, ho, hb⟩
    go_wp2_with fail
    go_ret
    exact ⟨_, rfl, ho, hb⟩
end
end Go.Proofs.YtbfabpjhdhhpfaaDoor
