/-
  THE WALK over gimletlaw01.takes: one byte, by both Decoders.
-/
import Derived.Test.YtacmenmneilamaaDoorRnRefDec
import Derived.Test.YtacmenmneilamaaDoorRnTk
import Derived.Deep.QuietTactic
import Derived.BigQuiet
namespace Go.Proofs.YtacmenmneilamaaDoor
open Go.RowKit Go.Lib

set_option maxHeartbeats 1000000 in
theorem refTake_bad (M : Nat) (v0 : Value) (x : Nat → Nat) (n : Nat) (v : Int) (w : World) (h : RefAt w M v0 x n true) :
    Calls Tryd.prog 49 #[.pointer (some ⟨M, 0, none⟩), .int .u8 v] w fun e w' => e = .returned (.tuple #[.int .i64 0, .int .i64 2]) ∧ w' = w := by
  have c1 : w.cell? ⟨M, 1, none⟩ = some (.bool true) := by rw [Lib.cell_of_heap h.1]; rfl
  go_enter Tryd.func49, Tryd.ntmps49
  go_wp2
  go_ret2
  exact ⟨rfl, rfl⟩
theorem refTake_any (M : Nat) (v0 : Value) (x : Nat → Nat) (n v : Nat) (w : World) (hv : v < 256) (hx : ∀ j, x j < 256) (hn4 : n < 4) (hw : n = 0 ∨ Rn.waits x n = true) (hnil : n = 0 → v0 = .slice none 0 0) (h : RefAt w M v0 x n false) :
    Calls Tryd.prog 49 #[.pointer (some ⟨M, 0, none⟩), .int .u8 v] w fun e w' => RefEnd M v0 x n v w e w' := by
  by_cases h0 : n = 0
  · obtain rfl := hnil h0
    subst h0
    exact refTake_nil M x v w hv hx h
  · rcases h.2.2 with ⟨_, h1⟩ | ⟨g, cap, cur, rfl, _⟩
    · exact absurd h1 h0
    · exact refTake_some M x n v g cap w hv hx (by omega) hn4 (by rcases hw with h1 | h1
                                                                  · exact absurd h1 h0
                                                                  · exact h1) h

/-- the two Decoders know the same -/
def Pair (w : World) (D M : Nat) : Prop :=
  ∃ x n bad v, DecAt w D x n bad ∧ RefAt w M v x n bad ∧ n < 4 ∧ (∀ j, x j < 256) ∧ (bad = false → n = 0 ∨ Rn.waits x n = true) ∧ (n = 0 → v = .slice none 0 0)
/-- what two calls may turn: the blocks D and M, and what they make themselves -/
structure But2 (D M : Nat) (w w' : World) : Prop where
  os : w'.os = w.os
  tape : w'.tape = w.tape
  output : w'.output = w.output
  size : w.heap.size ≤ w'.heap.size
  block : ∀ k, k < w.heap.size → k ≠ D → k ≠ M → w'.heap[k]? = w.heap[k]?
theorem But2.of {D M : Nat} {a b c : World} (h : But D a b) (k : But M b c) : But2 D M a c :=
  ⟨k.os.trans h.os, k.tape.trans h.tape, k.output.trans h.output, Nat.le_trans h.size k.size, fun i hi h1 h2 => (k.block i (Nat.lt_of_lt_of_le hi h.size) h2).trans (h.block i hi h1)⟩
theorem But2.refl (D M : Nat) (w : World) : But2 D M w w := ⟨rfl, rfl, rfl, Nat.le_refl _, fun _ _ _ _ => rfl⟩
theorem But2.drewN {D M : Nat} {w w' : World} (h : But2 D M w w') (n : Nat) : But2 D M w (w'.drewN n) := ⟨h.os, h.tape, h.output, h.size, h.block⟩
theorem But2.below {D M B : Nat} {w w' : World} (h : But2 D M w w') (hD : B ≤ D) (hM : B ≤ M) (hw : B ≤ w.heap.size) : Below B w w' :=
  ⟨h.os, h.tape, h.output, h.size, fun k hk => h.block k (by omega) (by omega) (by omega)⟩
theorem lt_of_heap {w : World} {k : Nat} {o : Obj} (h : w.heap[k]? = some o) : k < w.heap.size := (Array.getElem?_eq_some_iff.1 h).1
theorem row_ne {w : World} {B k : Nat} {v : Value} {n : Nat} {ys : List Value} {c : Array Value} {t : TypeId} {fz : Nat × Nat} (h : w.ownsRow B 5 1 v n ys) (hk : w.heap[k]? = some (.cells c t fz)) (ht : t ≠ 5) : ∀ g, v.ownBlock = some g → g ≠ k := by
  rintro g hg rfl
  rcases h.2 with ⟨h1, _⟩ | ⟨g', cap, cur, hv, hb, hgg, rest⟩
  · rw [h1] at hg; cases hg
  · rw [hv] at hg
    have : g' = g := Option.some.inj hg
    subst this
    rw [hk] at hgg
    cases hgg
    exact ht rfl
/-- a pair is kept by what turns other Decoders -/
theorem Pair.kept {w w' : World} {D M D2 M2 : Nat} (h : Pair w D M) (hb : But2 D2 M2 w w') (h1 : D ≠ D2) (h2 : D ≠ M2) (h3 : M ≠ D2) (h4 : M ≠ M2) {c : Array Value} {c' : Array Value} {fz fz' : Nat × Nat}
    (hD : w.heap[D2]? = some (.cells c 92 fz)) (hM : w.heap[M2]? = some (.cells c' 54 fz')) : Pair w' D M := by
  obtain ⟨x, n, bad, v, hd, ⟨hr, ho⟩, rest⟩ := h
  refine ⟨x, n, bad, v, (hb.block D (lt_of_heap hd) h1 h2).trans hd, ⟨(hb.block M (lt_of_heap hr) h3 h4).trans hr, kept_grown ho fun g hg => hb.block g (ho.lt g hg).2 ?_ ?_⟩, rest⟩
  · exact row_ne ho hD (by decide) g hg
  · exact row_ne ho hM (by decide) g hg
theorem RefAt.kept {w w' : World} {D M : Nat} {v : Value} {x : Nat → Nat} {n : Nat} {bad : Bool} (h : RefAt w M v x n bad) (hb : But D w w') (hne : M ≠ D) {c : Array Value} {fz : Nat × Nat} (hD : w.heap[D]? = some (.cells c 92 fz)) : RefAt w' M v x n bad :=
  ⟨(hb.block M (lt_of_heap h.1) hne).trans h.1, kept_grown h.2 fun g hg => hb.block g (h.2.lt g hg).2 (row_ne h.2 hD (by decide) g hg)⟩
theorem DecAt.kept {w w' : World} {D M : Nat} {x : Nat → Nat} {n : Nat} {bad : Bool} (h : DecAt w D x n bad) (hb : But M w w') (hne : D ≠ M) : DecAt w' D x n bad :=
  (hb.block D (lt_of_heap h) hne).trans h

/-- takes, once both answers are there -/
theorem upd_zero_lt : ∀ j : Nat, (fun _ : Nat => 0) j < 256 := fun _ => by show 0 < 256; omega

set_option maxRecDepth 100000 in
set_option maxHeartbeats 2000000 in
theorem takes_of (D M : Nat) (b : Nat) (r how : Int) (w : World) (hr : -2147483648 ≤ r ∧ r ≤ 2147483647) (x' : Nat → Nat) (n' : Nat) (bad' : Bool)
    (c1 : Calls Tryd.prog 30 #[.pointer (some ⟨D, 0, none⟩), .int .u8 b] w fun e w' => e = .returned (.tuple #[.int .i32 r, .int .i64 how]) ∧ DecAt w' D x' n' bad' ∧ But D w w')
    (c2 : ∀ w1, But D w w1 → DecAt w1 D x' n' bad' → Calls Tryd.prog 49 #[.pointer (some ⟨M, 0, none⟩), .int .u8 b] w1 fun e w' => e = .returned (.tuple #[.int .i64 r, .int .i64 how]) ∧ (∃ v', RefAt w' M v' x' n' bad' ∧ (n' = 0 → v' = .slice none 0 0)) ∧ But M w1 w')
    (hne : D ≠ M) (h4 : n' < 4) (hx : ∀ j, x' j < 256) (hinv : bad' = false → n' = 0 ∨ Rn.waits x' n' = true) :
    Calls Tryd.prog 29 #[.pointer (some ⟨D, 0, none⟩), .pointer (some ⟨M, 0, none⟩), .int .u8 b] w fun e w' => e = .returned (.bool true) ∧ Pair w' D M ∧ But2 D M w w' := by
  have hr1 := hr.1
  have hr2 := hr.2
  have HI := hide' hinv
  clear hinv hr
  go_enter Tryd.func29, Tryd.ntmps29
  go_wp2_with fail
  refine c1.mono ?_
  rintro e w1 ⟨rfl, hd1, hb1⟩
  go_wp2_with fail
  refine (c2 w1 hb1 hd1).mono ?_
  rintro e w2 ⟨rfl, ⟨v, hr2', hnil⟩, hb2⟩
  have hd2 := hd1.kept hb2 hne
  have k0 : w2.cell? ⟨M, 0, none⟩ = some v := by rw [Lib.cell_of_heap hr2'.1]; rfl
  obtain ⟨ao, cap, rfl⟩ : ∃ ao cap, v = .slice ao n' cap := by
    rcases hr2'.2.2 with ⟨hv, h0⟩ | ⟨g, cap, cur, hv, _⟩
    · exact ⟨none, 0, by rw [hv, h0]⟩
    · exact ⟨_, _, hv⟩
  have HP : Hid (Pair w2 D M) := ⟨x', n', bad', _, hd2, hr2', h4, hx, HI.out, hnil⟩
  have HB : Hid (But2 D M w w2) := But2.of hb1 hb2
  have HD := hide' hd2
  clear hd1 hd2 hr2' hnil hb1 hb2 c1 c2
  go_wp2_with fail
  go_quiet ((go_at_call 31; exact Calls.quiet_of_same (pending_any D x' n' bad' _ HD.out)))
  go_wp2
  go_ret
  exact ⟨rfl, HP.out, HB.out.drewN _⟩

theorem But.refl (D : Nat) (w : World) : But D w w := ⟨rfl, rfl, rfl, Nat.le_refl _, fun _ _ _ => rfl⟩
theorem fv_bound (f : Nat → Nat) (hf : ∀ j, f j < 256) : -2147483648 ≤ ((Rn.fv f : Nat) : Int) ∧ ((Rn.fv f : Nat) : Int) ≤ 2147483647 := by
  have := Rn.fv_le f hf
  omega

/-- takes AT EVERY BYTE: both Decoders answer alike, and know the same behind it -/
theorem takes_any (D M b : Nat) (w : World) (hb : b < 256) (hT : Lib.Utf8Tabs 0 1 w) (hne : D ≠ M) (h : Pair w D M) :
    Calls Tryd.prog 29 #[.pointer (some ⟨D, 0, none⟩), .pointer (some ⟨M, 0, none⟩), .int .u8 b] w fun e w' => e = .returned (.bool true) ∧ Pair w' D M ∧ But2 D M w w' := by
  obtain ⟨x, n, bad, v, hd, hr, h4, hx, hinv, hnil⟩ := h
  cases bad
  · have hi := hinv rfl
    have hi2 : n = 0 ∨ Rn.waits (Rn.upd x n b) n = true := hi.imp id fun h => Rn.waits_upd h
    have hux := Rn.upd_lt (n := n) hx hb
    have cT := take_any D x n b w h4 hb hx hT hd
    have cR : ∀ w1, But D w w1 → _ := fun w1 hb1 => refTake_any M v x n b w1 hb hx h4 hi hnil (hr.kept hb1 (Ne.symm hne) hd)
    have hz : Rn.fs (Rn.upd x n b) (n + 1) ≤ 4 := Rn.fs_le _ _
    rcases Rn.next_three hi2 with ⟨k1, k2, k3, k4⟩ | ⟨k1, k2, k3, k4⟩ | ⟨k1, k2, k3⟩
    · refine takes_of D M b (Rn.fv (Rn.upd x n b)) 0 w (fv_bound _ hux) (fun _ => 0) 0 false (cT.mono ?_) (fun w1 hb1 _ => (cR w1 hb1).mono ?_) hne (by omega) upd_zero_lt (fun _ => .inl rfl)
      · rintro e w' (⟨_, he, hd', hb'⟩ | ⟨h1, _⟩ | ⟨h1, _⟩)
        · exact ⟨he, hd', hb'⟩
        · rw [k2] at h1; cases h1
        · rw [k1] at h1; cases h1
      · rintro e w' (⟨_, he, hd', hb'⟩ | ⟨h1, _⟩ | ⟨h1, _⟩)
        · exact ⟨he, ⟨_, hd', fun _ => rfl⟩, hb'⟩
        · rw [k2] at h1; cases h1
        · rw [k1] at h1; cases h1
    · refine takes_of D M b 0 1 w (by omega) (Rn.upd x n b) (n + 1) false (cT.mono ?_) (fun w1 hb1 _ => (cR w1 hb1).mono ?_) hne (by omega) hux (fun _ => .inr k1)
      · rintro e w' (⟨h1, _⟩ | ⟨_, he, hd', hb'⟩ | ⟨_, h1, _⟩)
        · rw [k2] at h1; cases h1
        · exact ⟨he, hd', hb'⟩
        · rw [k1] at h1; cases h1
      · rintro e w' (⟨h1, _⟩ | ⟨_, he, ⟨v1, hd'⟩, hb'⟩ | ⟨_, h1, _⟩)
        · rw [k2] at h1; cases h1
        · exact ⟨he, ⟨v1, hd', fun h0 => by omega⟩, hb'⟩
        · rw [k1] at h1; cases h1
    · refine takes_of D M b 0 2 w (by omega) x n true (cT.mono ?_) (fun w1 hb1 _ => (cR w1 hb1).mono ?_) hne h4 hx (fun h0 => by cases h0)
      · rintro e w' (⟨h1, _⟩ | ⟨h1, _⟩ | ⟨_, _, he, hd', hb'⟩)
        · rw [k1] at h1; cases h1
        · rw [k2] at h1; cases h1
        · exact ⟨he, hd', hb'⟩
      · rintro e w' (⟨h1, _⟩ | ⟨h1, _⟩ | ⟨_, _, he, hd', hb'⟩)
        · rw [k1] at h1; cases h1
        · rw [k2] at h1; cases h1
        · exact ⟨he, ⟨v, hd', hnil⟩, hb'⟩
  · refine takes_of D M b 0 2 w (by omega) x n true ((take_bad D x n b w hd).mono ?_) (fun w1 hb1 _ => (refTake_bad M v x n b w1 (hr.kept hb1 (Ne.symm hne) hd)).mono ?_) hne h4 hx (fun h0 => by cases h0)
    · rintro e w' ⟨rfl, rfl⟩
      exact ⟨rfl, hd, But.refl _ _⟩
    · rintro e w' ⟨rfl, rfl⟩
      exact ⟨rfl, ⟨v, hr.kept hb1 (Ne.symm hne) hd, hnil⟩, But.refl _ _⟩
end Go.Proofs.YtacmenmneilamaaDoor
