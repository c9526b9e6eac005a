import Derived.Test.YtoccedbnnafjcaaDoorLxPrL
import Derived.Test.YtoccedbnnafjcaaDoorLxRwQ
import Derived.Test.YtoccedbnnafjcaaDoorErAsC
import Derived.Deep.QuietTactic
/-
  THE WALK over gimletlaw10.alike, where the words are the same: it only reads.
-/
namespace Go.Proofs.YtoccedbnnafjcaaDoor
open Go.RowKit Go.Lib
namespace Lx
theorem drewN_add (w : World) (a b : Nat) : (w.drewN a).drewN b = w.drewN (a + b) := by
  first | exact World.drewN_drewN w a b | (induction b with | zero => rfl | succ b ih => simp [World.drewN, ih, Nat.add_succ])
end Lx
set_option maxRecDepth 100000 in
set_option maxHeartbeats 4000000 in
theorem lxAlikeQ (va vb : Value) (n : Nat) (X : Nat → Lx.Wx) (w : World) (hA : Lx.WRow w va n X) (hB : Lx.WRow w vb n X) :
    Calls Tryd.prog 10 #[va, vb, .bool true] w fun e w' => e = .returned (.bool true) ∧ ∃ q, w' = w.drewN q := by
  obtain ⟨pa, ca, rfl, a1, a2, a3⟩ := hA
  obtain ⟨pb, cb, rfl, b1, b2, b3⟩ := hB
  have HA := hide' a3
  have HB := hide' b3
  clear a3 b3
  go_enter Tryd.func10, Tryd.ntmps10
  go_wp2_with fail
  go_loopw [7] (fun v wr => ∃ i : Nat, v = .int .i64 i ∧ i ≤ n ∧ ∃ z, wr = w.drewN z) (fun v _ => n - (RowKit.intOf v).toNat)
  case atStart => exact ⟨0, rfl, Nat.zero_le _, 0, rfl⟩
  case round =>
    obtain ⟨i, rfl, hi, z, hz⟩ := hrel
    have HR := hide' (show Below w.heap.size w wr by rw [hz]; exact below_drewN (Below.refl _ _) z)
    have HZ := hide' hz
    clear hz
    by_cases hlt : i < n
    · have t1 : (i : Int) < (n : Int) := by omega
      obtain ⟨g, o, rfl, ka⟩ := HA.out (by omega)
      obtain ⟨h, q, rfl, kb⟩ := HB.out (by omega)
      have ja : ∀ j u, (X i).cs[j]? = some u → wr.cell? ⟨g, o + i * 7 + j, none⟩ = some u := fun j u h2 => (HR.out.cell (p := ⟨g, o + i * 7 + j, none⟩) (block_lt_of_cell (ka i j u hlt h2))).trans (ka i j u hlt h2)
      have jb : ∀ j u, (X i).cs[j]? = some u → wr.cell? ⟨h, q + i * 7 + j, none⟩ = some u := fun j u h2 => (HR.out.cell (p := ⟨h, q + i * 7 + j, none⟩) (block_lt_of_cell (kb i j u hlt h2))).trans (kb i j u hlt h2)
      obtain ⟨x, hx⟩ : ∃ x, X i = x := ⟨_, rfl⟩
      rw [hx] at ja jb
      clear hx ka kb HA HB
      · obtain ⟨k, tx, nm, q0, q1, q2, q3⟩ := x
        have p0 : wr.cell? ⟨g, o + i * 7, none⟩ = some (.int .i64 k) := ja 0 _ rfl
        have p1 : wr.cell? ⟨g, o + i * 7 + 1, none⟩ = some (.string tx) := ja 1 _ rfl
        have p2 : wr.cell? ⟨g, o + i * 7 + 2, none⟩ = some (.int .i64 nm) := ja 2 _ rfl
        have p3 : wr.cell? ⟨g, o + i * 7 + 3, none⟩ = some (.int .i64 q0) := ja 3 _ rfl
        have p4 : wr.cell? ⟨g, o + i * 7 + 4, none⟩ = some (.int .i64 q1) := ja 4 _ rfl
        have p5 : wr.cell? ⟨g, o + i * 7 + 5, none⟩ = some (.int .i64 q2) := ja 5 _ rfl
        have p6 : wr.cell? ⟨g, o + i * 7 + 6, none⟩ = some (.int .i64 q3) := ja 6 _ rfl
        have r0 : wr.cell? ⟨h, q + i * 7, none⟩ = some (.int .i64 k) := jb 0 _ rfl
        have r1 : wr.cell? ⟨h, q + i * 7 + 1, none⟩ = some (.string tx) := jb 1 _ rfl
        have r2 : wr.cell? ⟨h, q + i * 7 + 2, none⟩ = some (.int .i64 nm) := jb 2 _ rfl
        have r3 : wr.cell? ⟨h, q + i * 7 + 3, none⟩ = some (.int .i64 q0) := jb 3 _ rfl
        have r4 : wr.cell? ⟨h, q + i * 7 + 4, none⟩ = some (.int .i64 q1) := jb 4 _ rfl
        have r5 : wr.cell? ⟨h, q + i * 7 + 5, none⟩ = some (.int .i64 q2) := jb 5 _ rfl
        have r6 : wr.cell? ⟨h, q + i * 7 + 6, none⟩ = some (.int .i64 q3) := jb 6 _ rfl
        clear ja jb
        go_wp2_with fail
        go_quiet (fail)
        go_wp2_with fail
        exact ⟨⟨i + 1, rfl, hlt, z + nq, by rw [HZ.out]; exact Lx.drewN_add w z nq⟩, by simp [RowKit.intOf]; omega⟩
    · have t1 : ¬ (i : Int) < (n : Int) := by omega
      clear hlt hi HA HB
      go_wp2
      go_ret
      exact ⟨rfl, z, HZ.out⟩
end Go.Proofs.YtoccedbnnafjcaaDoor
/-
  What the statement LexisWords needs ahead of its walk.
-/
namespace Go.Proofs.YtoccedbnnafjcaaDoor
open Go.RowKit Go.Lib
namespace Lx
/-- the bytes of a query, and one behind them -/
def qx (f : Nat → Nat) (n : Nat) : Nat → Nat := fun j => if j < n then f j else 71
theorem bs_qx (f : Nat → Nat) (n : Nat) : bs f n ++ bs (fun _ => 71) 1 = bs (qx f n) (n + 1) := by
  apply List.ext_getElem?
  intro j
  by_cases h : j < n
  · rw [List.getElem?_append_left (by rw [bs_length]; exact h)]
    simp [bs, h, show j < n + 1 by omega, qx]
  · rw [List.getElem?_append_right (by rw [bs_length]; omega), bs_length]
    by_cases h2 : j < n + 1
    · simp [bs, h2, show j - n < 1 by omega, qx, h]
    · simp [bs, h2, show ¬ j - n < 1 by omega]
theorem arg_one (W : World) : ArgS (W.alloc (.cells #[.int .u8 71] 5)) (fun _ => 71) 1 (.slice (some ⟨W.heap.size, 0, none⟩) 1 1) := by
  refine .some _ _ (Nat.le_refl _) (by unfold maxLen; omega) (fun j hj => ?_) (fun _ => ⟨_, _, rfl⟩)
  obtain rfl : j = 0 := by omega
  rw [show (Addr.add ⟨W.heap.size, 0, none⟩ 0) = ⟨W.heap.size, 0, none⟩ from by simp [Addr.add], Lib.cell_of_heap (Er.heap_new W _)]
  rfl
/-- the bytes that lie there, as the statement keeps them -/
structure Bq (f : Nat → Nat) (n B g cap : Nat) (W : World) : Prop where
  lo : B ≤ g
  own : W.ownsRow B 5 1 (.slice (some ⟨g, 0, none⟩) (n + 1) cap) (n + 1) (bs (qx f n) (n + 1))
  le : n + 1 ≤ cap
  mx : cap ≤ maxLen
theorem Bq.cell {f : Nat → Nat} {n B g cap : Nat} {W : World} (h : Bq f n B g cap W) (j : Nat) (hj : j < n + 1) : W.cell? ⟨g, j, none⟩ = some (.int .u8 (qx f n j : Nat)) := by
  have h3 := h.own.cells (g := g) rfl j (.int .u8 (qx f n j : Nat)) (by simp [bs, hj])
  rwa [show (Addr.add ⟨g, 0, none⟩ j) = ⟨g, j, none⟩ from by simp [Addr.add]; omega] at h3
theorem Bq.arg {f : Nat → Nat} {n B g cap : Nat} {W : World} (h : Bq f n B g cap W) : ArgS W f n (.slice (some ⟨g, 0, none⟩) n cap) := by
  refine .some _ _ (by have := h.le; omega) h.mx (fun j hj => ?_) (fun _ => ⟨_, _, rfl⟩)
  have := h.cell j (by omega)
  rw [show (Addr.add ⟨g, 0, none⟩ j) = ⟨g, j, none⟩ from by simp [Addr.add]; omega, this]
  simp [qx, hj]
theorem Bq.last {f : Nat → Nat} {n B g cap : Nat} {W : World} (h : Bq f n B g cap W) : W.cell? ⟨g, n, none⟩ = some (.int .u8 71) := by
  rw [h.cell n (by omega)]
  simp [qx]
theorem Bq.lt {f : Nat → Nat} {n B g cap : Nat} {W : World} (h : Bq f n B g cap W) : g < W.heap.size := block_lt_of_cell h.last
theorem Bq.below {f : Nat → Nat} {n B g cap : Nat} {W W' : World} {C : Nat} (h : Bq f n B g cap W) (hb : Below C W W') (hC : W.heap.size ≤ C) : Bq f n B g cap W' :=
  ⟨h.lo, row_at h.own (fun k hk => hb.block k (by have := (h.own.lt k hk).2; omega)), h.le, h.mx⟩
theorem Bq.of {f : Nat → Nat} {n B : Nat} {v : Value} {W : World} (h : W.ownsRow B 5 1 v (n + 1) (bs (qx f n) (n + 1))) : ∃ g cap, v = .slice (some ⟨g, 0, none⟩) (n + 1) cap ∧ Bq f n B g cap W := by
  rcases h.2 with ⟨h1, h2⟩ | ⟨g, cap, cur, rfl, hg, hgg, hc1, hc2, hz, ht⟩
  · omega
  · exact ⟨g, cap, rfl, hg, h, hc1, hc2⟩
theorem wrow_nil (W : World) (X : Nat → Wx) : WRow W (.slice none 0 0) 0 X := ⟨none, 0, rfl, Nat.le_refl _, by omega, fun h => absurd h (by omega)⟩
theorem words_bad {f : Nat → Nat} {n : Nat} {w w' : World} {e : Ending} {a : Nat} {why : Int} (hx : flt f n = some (a, why)) (h : WordsE f n w e w') : ∃ d, e = .returned (.tuple #[.slice none 0 0, .iface 34 (.pointer (some ⟨d, 0, none⟩))]) ∧ w.heap.size ≤ d ∧ FaultAt w' d a f n why ∧ Below w.heap.size w w' := by
  cases h with
  | bad a' why' d _ h hd hF hb =>
    rw [hx] at h
    cases h
    exact ⟨d, rfl, hd, hF, hb⟩
  | ok v _ h => rw [hx] at h; cases h
theorem words_ok {f : Nat → Nat} {n : Nat} {w w' : World} {e : Ending} (hx : flt f n = none) (h : WordsE f n w e w') : ∃ v, e = .returned (.tuple #[v, .nilIface]) ∧ w'.ownsRow w.heap.size 43 7 v (words f n).1.length (wxs (wxL f n (words f n).1) (words f n).1.length) ∧ Below w.heap.size w w' := by
  cases h with
  | bad a' why' d _ h hd hF hb => rw [hx] at h; cases h
  | ok v _ h hv hr hb => exact ⟨v, rfl, by rwa [wdls_wxs] at hr, hb⟩
theorem ref_bad {f : Nat → Nat} {n : Nat} {w w' : World} {e : Ending} {a : Nat} {why : Int} (hx : flt f n = some (a, why)) (h : RWE f n w e w') : e = .returned (.tuple #[.slice none 0 0, .agg (plA (a, Rn.plc f n a)), .int .i64 why]) ∧ Below w.heap.size w w' := by
  cases h with
  | bad a' why' _ h hb =>
    rw [hx] at h
    cases h
    exact ⟨rfl, hb⟩
  | ok v _ h => rw [hx] at h; cases h
theorem ref_ok {f : Nat → Nat} {n : Nat} {w w' : World} {e : Ending} (hx : flt f n = none) (h : RWE f n w e w') : ∃ v, e = .returned (.tuple #[v, .agg #[.int .i64 0, .int .i64 0, .int .i64 0, .int .i64 0], .int .i64 0]) ∧ w'.ownsRow w.heap.size 43 7 v (words f n).1.length (wxs (wxL f n (words f n).1) (words f n).1.length) ∧ Below w.heap.size w w' := by
  cases h with
  | bad a' why' _ h hb => rw [hx] at h; cases h
  | ok v _ h hr hb => exact ⟨v, rfl, by rwa [wdls_wxs] at hr, hb⟩
theorem flt_why {f : Nat → Nat} {n a : Nat} {why : Int} (h : flt f n = some (a, why)) : why = 103 ∨ why = 104 := by
  unfold flt at h
  split at h
  · cases hw : (words f n).2 with
    | none => rw [hw] at h; cases h
    | some b => rw [hw] at h; cases h; exact .inr rfl
  · cases h; exact .inl rfl
theorem wpAnyH_over {P : Program} {md : Region.Mode} {ops : Array Oper} {Q : Exit → Act → World → Prop} {S S' : World → Prop} (hS : ∀ w, S' w → S w) : ∀ (fuel : Nat) (listed : Array Bool) (a : Act) (w : World), wpAnyH P md ops Q S' fuel listed a w → wpAnyH P md ops Q S fuel listed a w
  | 0, _, _, _, h => h
  | fuel + 1, _, _, _, h => ⟨h.1, fun i hi => wpOp_mono (fun a' w' h' => ⟨hS w' h'.1, wpAnyH_over hS fuel _ a' w' h'.2⟩) (h.2 i hi)⟩
end Lx
end Go.Proofs.YtoccedbnnafjcaaDoor
