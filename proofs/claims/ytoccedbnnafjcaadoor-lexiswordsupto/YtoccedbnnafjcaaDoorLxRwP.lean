/-
  THE WALK over gimletref10.At; the document's Good, Chars and At of a slice that came in.
-/
import Derived.Test.YtoccedbnnafjcaaDoorLxRwZ
import Derived.Test.YtoccedbnnafjcaaDoorChArg
import Derived.Test.YtoccedbnnafjcaaDoorLxPrM
import Derived.Test.YtoccedbnnafjcaaDoorLxPrM
namespace Go.Proofs.YtoccedbnnafjcaaDoor
open Go.RowKit Go.Lib
theorem arg_parts {w : World} {f : Nat → Nat} {n : Nat} {v : Value} (h : ArgS w f n v) : ∃ pa cap, v = .slice pa n cap ∧ n ≤ cap ∧ cap ≤ maxLen ∧ (pa = none → cap = 0) ∧ (n = 0 ∨ ∃ b o, pa = some ⟨b, o, none⟩ ∧ Bytes w b o n f) := by
  cases h with
  | nil hn => exact ⟨none, 0, by rw [hn], by omega, by decide, fun _ => rfl, .inl hn⟩
  | some ad cap h1 h2 hc hp =>
    refine ⟨some ad, cap, rfl, h1, h2, (fun e => nomatch e), ?_⟩
    by_cases h0 : n = 0
    · exact .inl h0
    · obtain ⟨b, o, rfl⟩ := hp (by omega)
      exact .inr ⟨b, o, rfl, fun j hj => by have := hc j hj; rwa [show (Addr.add ⟨b, o, none⟩ j) = ⟨b, o + j, none⟩ from by simp [Addr.add]] at this⟩
theorem refGood_arg {w : World} {f : Nat → Nat} {n : Nat} {v : Value} (h : ArgS w f n v) (hn : n ≤ 1099511627776) :
    Calls Tryd.prog 23 #[v] w fun e w' => e = .returned (.int .i64 (Rn.good f n)) ∧ w' = w := by
  obtain ⟨pa, cap, rfl, c1, c2, c3, c4⟩ := arg_parts h
  exact refGood_any f pa n cap w (by omega) c4
theorem refChars_arg {w : World} {f : Nat → Nat} {n : Nat} {v : Value} (hf : ∀ j, f j < 256) (h : ArgS w f n v) (hn : n ≤ 1099511627776) :
    Calls Tryd.prog 26 #[v] w fun e w' => ∃ v', e = .returned v' ∧ Lx.CRow w' v' f n ∧ Below w.heap.size w w' := by
  obtain ⟨pa, cap, rfl, c1, c2, c3, c4⟩ := arg_parts h
  refine (chars_any f pa n cap w hf c1 c2 hn c4).mono ?_
  rintro e w' ⟨v', rfl, hown, hl, hb⟩
  refine ⟨v', rfl, ?_, hb⟩
  rcases hown.2 with ⟨e1, e2⟩ | ⟨g, cp, cur, e1, h2, h3, h4, h5, h6⟩
  · exact ⟨none, 0, by rw [e1, e2], by omega, by omega, fun h => by omega⟩
  · subst e1
    refine ⟨_, cp, rfl, h4, by unfold maxLen at h5; omega, fun h0 => ⟨g, rfl, fun i x hx => ?_⟩⟩
    have hi := (List.getElem?_eq_some_iff.1 hx).1
    obtain ⟨a, b, _⟩ := chCells_get (Rn.chl f n) i hi
    have ex := (List.getElem?_eq_some_iff.1 hx).2
    rw [ex] at a b
    have q1 := hown.cells (g := g) rfl _ _ a
    have q2 := hown.cells (g := g) rfl _ _ b
    rw [show ((⟨g, 0, none⟩ : Addr).add (3 * i)) = ⟨g, i * 3, none⟩ from by rw [Nat.mul_comm]; simp [Addr.add]; intro h; omega] at q1
    rw [show ((⟨g, 0, none⟩ : Addr).add (3 * i + 1)) = ⟨g, i * 3 + 1, none⟩ from by rw [Nat.mul_comm]; simp [Addr.add]] at q2
    exact ⟨q1, q2⟩
set_option maxRecDepth 100000 in
set_option maxHeartbeats 1000000 in
theorem refAt10 (f : Nat → Nat) (n a : Nat) (v : Value) (w : World) (hf : ∀ j, f j < 256) (ha : a ≤ n) (hn : n ≤ 1099511627776) (h : ArgS w f n v) :
    Calls Tryd.prog 25 #[v, .int .i64 a] w fun e w' => e = .returned (.agg (Lx.plA (a, Rn.plc f n a))) ∧ Below w.heap.size w w' := by
  have h1 := h.below ((Below.refl w.heap.size w).alloc (Nat.le_refl _) (.cells #[.int .i64 0, .int .i64 0, .int .i64 0, .int .i64 0] 30)) (Nat.le_refl _)
  obtain ⟨pa, cap, rfl, c1, c2, c3, c4⟩ := arg_parts h1
  have cA := refAt_in f pa n cap a _ hf ha c1 c2 hn c3 c4
  obtain ⟨P, hP⟩ : ∃ P, P = Rn.plc f n a := ⟨_, rfl⟩
  rw [← hP] at cA ⊢
  obtain ⟨x, y, z⟩ := P
  have hb0 := (Below.refl w.heap.size w).alloc (Nat.le_refl _) (.cells #[.int .i64 0, .int .i64 0, .int .i64 0, .int .i64 0] 30)
  have H0 := hide' hb0
  have hc0 := Lx.heap_new w (.cells #[.int .i64 0, .int .i64 0, .int .i64 0, .int .i64 0] 30)
  have HC := hide' hc0
  clear h h1 c3 c4 hP hb0 hc0
  go_enter Tryd.func25, Tryd.ntmps25
  go_wp2_with fail
  refine cA.mono ?_
  rintro e w1 ⟨rfl, hb1⟩
  have hc1 : w1.heap[w.heap.size]? = some (.cells #[.int .i64 0, .int .i64 0, .int .i64 0, .int .i64 0] 30 (0, 0)) := (hb1.block _ (by simp)).trans HC.out
  have HB1 := hide' (H0.out.trans (hb1.mono H0.out.size))
  have hc2 : (w1.alloc (.cells #[.int .i64 (a : Nat), .int .i64 (x : Nat), .int .i64 (y : Nat), .int .i64 (z : Nat)] 106)).there w.heap.size 0 4 :=
    Lx.there_of (((Below.refl w1.heap.size w1).alloc (Nat.le_refl _) _).block _ (Array.getElem?_eq_some_iff.1 hc1).1 |>.trans hc1) 0 4 (by decide)
  have HT := hide' hc2
  have HB2 := hide' (HB1.out.alloc HB1.out.size (.cells #[.int .i64 (a : Nat), .int .i64 (x : Nat), .int .i64 (y : Nat), .int .i64 (z : Nat)] 106))
  clear cA hb1 hc1 hc2 H0 HC HB1
  go_wp2_with (refine wpList_store_mid rfl 30 (.tmp 4) (.tmp 21) rfl w.heap.size 0 (Lx.plA (a, x, y, z)) rfl rfl HT.out Lx.plA_info (Lx.plA_one _) ?_)
  exact bodyPost_ret (v := .agg (Lx.plA (a, x, y, z))) (Lx.results_cell Tryd.results25 _ ⟨w.heap.size, 0, none⟩ rfl _ _ (run_loadVar_mid _ w.heap.size 0 30 (Lx.plA (a, x, y, z)).toList _ (World.rangeAt_setCells_same _ _ _ _ HT.out) Tryd.underlying30 rfl Lx.plA_info)) rfl ⟨rfl, Lx.below_cells (Nat.le_refl _) _ _ _ HB2.out⟩
end Go.Proofs.YtoccedbnnafjcaaDoor
