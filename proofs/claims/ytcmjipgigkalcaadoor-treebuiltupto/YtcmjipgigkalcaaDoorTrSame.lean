/-
  THE WALK over gimletlaw09.same and gimletlaw09.all, of events that are alike.
-/
import Derived.Test.YtcmjipgigkalcaaDoorTrNode
namespace Go.Proofs.YtcmjipgigkalcaaDoor
open Go.RowKit Go.Lib
namespace Tr
/-- an event's eight cells -/
def AtCells (W : World) (b o : Nat) (e : Ev Value) : Prop :=
  W.cell? ⟨b, o, none⟩ = some (.int .i64 e.kind) ∧ W.cell? ⟨b, o + 1, none⟩ = some (.int .i64 e.num) ∧ W.cell? ⟨b, o + 2, none⟩ = some (.int .i64 e.dep) ∧ W.cell? ⟨b, o + 3, none⟩ = some (.string e.nm) ∧
    W.cell? ⟨b, o + 4, none⟩ = some e.av ∧ W.cell? ⟨b, o + 5, none⟩ = some (.string e.tx) ∧ W.cell? ⟨b, o + 6, none⟩ = some (.int .i64 e.fr) ∧ W.cell? ⟨b, o + 7, none⟩ = some (.int .i64 e.be)
theorem AtCells.below {W W' : World} {b o : Nat} {e : Ev Value} (h : AtCells W b o e) (hb : Below W.heap.size W W') : AtCells W' b o e := by
  have kk : ∀ {a : Addr} {u}, W.cell? a = some u → W'.cell? a = some u := fun {a u} hu => (hb.cell (p := a) (block_lt_of_cell hu)).trans hu
  obtain ⟨k0, k1, k2, k3, k4, k5, k6, k7⟩ := h
  exact ⟨kk k0, kk k1, kk k2, kk k3, kk k4, kk k5, kk k6, kk k7⟩
theorem AtCells.range {W : World} {b o : Nat} {e : Ev Value} (h : AtCells W b o e) : W.rangeAt b o e.cs.toList := by
  obtain ⟨k0, k1, k2, k3, k4, k5, k6, k7⟩ := h
  intro k u hk
  match k, hk with
  | 0, hk => simp [Ev.cs] at hk; subst hk; exact k0
  | 1, hk => simp [Ev.cs] at hk; subst hk; exact k1
  | 2, hk => simp [Ev.cs] at hk; subst hk; exact k2
  | 3, hk => simp [Ev.cs] at hk; subst hk; exact k3
  | 4, hk => simp [Ev.cs] at hk; subst hk; exact k4
  | 5, hk => simp [Ev.cs] at hk; subst hk; exact k5
  | 6, hk => simp [Ev.cs] at hk; subst hk; exact k6
  | 7, hk => simp [Ev.cs] at hk; subst hk; exact k7
  | k + 8, hk => simp [Ev.cs] at hk
end Tr
set_option maxRecDepth 100000 in
set_option maxHeartbeats 2000000 in
theorem trSame (e : Tr.Ev Value) (bv : Value) (w : World) (hA : Tr.AtRow w e.av e.ats) (hB : Tr.AtRow w bv e.ats) :
    Calls Tryd.prog 14 #[.agg e.cs, .agg (Tr.Ev.cs { e with av := bv })] w fun r w' => r = .returned (.bool true) ∧ Below w.heap.size w w' := by
  obtain ⟨kind, num, dep, nm, av, ats, tx, fr, be⟩ := e
  dsimp only at hA hB
  obtain ⟨p, cap, rfl, l1, l2, _, a3⟩ := hA
  obtain ⟨p', cap', rfl, _, _, _, b3⟩ := hB
  obtain ⟨n, hn⟩ : ∃ n, ats.length = n := ⟨_, rfl⟩
  rw [hn] at a3 b3 l1 ⊢
  show Calls Tryd.prog 14 #[.agg #[.int .i64 kind, .int .i64 num, .int .i64 dep, .string nm, .slice p n cap, .string tx, .int .i64 fr, .int .i64 be], .agg #[.int .i64 kind, .int .i64 num, .int .i64 dep, .string nm, .slice p' n cap', .string tx, .int .i64 fr, .int .i64 be]] w _
  have hb0 := ((Below.refl w.heap.size w).alloc (Nat.le_refl _) (.cells #[.int .i64 kind, .int .i64 num, .int .i64 dep, .string nm, .slice p n cap, .string tx, .int .i64 fr, .int .i64 be] 39)).alloc (by simp) (.cells #[.int .i64 kind, .int .i64 num, .int .i64 dep, .string nm, .slice p' n cap', .string tx, .int .i64 fr, .int .i64 be] 39)
  have HA := hide' a3
  have HB := hide' b3
  have HN := hide' hn
  have HB0 := hide' hb0
  clear a3 b3 hn hb0
  go_enter Tryd.func14, Tryd.ntmps14
  go_wp2_with fail
  go_loopw [5] (fun v wr => ∃ i : Nat, v = .int .i64 i ∧ i ≤ n ∧ Hid (Below w.heap.size w wr) ∧ wr.cell? ⟨w.heap.size, 4, none⟩ = some (.slice p n cap) ∧ wr.cell? ⟨w.heap.size + 1, 4, none⟩ = some (.slice p' n cap')) (fun v _ => n - (RowKit.intOf v).toNat)
  case atStart => exact ⟨0, rfl, Nat.zero_le _, HB0, by simp, by simp⟩
  case round =>
    obtain ⟨i, rfl, hi, HR, m1, m2⟩ := hrel
    by_cases hlt : i < n
    · have t1 : (i : Int) < (n : Int) := by omega
      obtain ⟨b, o, rfl, ka⟩ := HA.out (by omega)
      obtain ⟨b', o', rfl, kb⟩ := HB.out (by omega)
      obtain ⟨x, hx⟩ : ∃ x, ats[i]? = some x := ⟨_, List.getElem?_eq_getElem (by rw [HN.out]; exact hlt)⟩
      have k0 := (ka i x hx).1
      have k1 := (ka i x hx).2
      have j0 := (kb i x hx).1
      have j1 := (kb i x hx).2
      have q0 : wr.cell? ⟨b, o + i * 2, none⟩ = some (.string x.1) := (HR.out.cell (p := ⟨b, o + i * 2, none⟩) (block_lt_of_cell k0)).trans k0
      have q1 : wr.cell? ⟨b, o + i * 2 + 1, none⟩ = some (.string x.2) := (HR.out.cell (p := ⟨b, o + i * 2 + 1, none⟩) (block_lt_of_cell k1)).trans k1
      have q2 : wr.cell? ⟨b', o' + i * 2, none⟩ = some (.string x.1) := (HR.out.cell (p := ⟨b', o' + i * 2, none⟩) (block_lt_of_cell j0)).trans j0
      have q3 : wr.cell? ⟨b', o' + i * 2 + 1, none⟩ = some (.string x.2) := (HR.out.cell (p := ⟨b', o' + i * 2 + 1, none⟩) (block_lt_of_cell j1)).trans j1
      have HBD := hide' HR.out.drew
      clear ka kb k0 k1 j0 j1 hx HA HB
      go_wp2_with fail
      obtain ⟨S, hSd⟩ : ∃ S : World → Prop, S = fun W' => W'.cell? ⟨w.heap.size, 4, none⟩ = some (.slice (some ⟨b, o, none⟩) n cap) ∧ W'.cell? ⟨w.heap.size + 1, 4, none⟩ = some (.slice (some ⟨b', o', none⟩) n cap') ∧ W'.cell? ⟨b, o + i * 2, none⟩ = some (.string x.1) ∧ W'.cell? ⟨b, o + i * 2 + 1, none⟩ = some (.string x.2) ∧ W'.cell? ⟨b', o' + i * 2, none⟩ = some (.string x.1) ∧ W'.cell? ⟨b', o' + i * 2 + 1, none⟩ = some (.string x.2) := ⟨_, rfl⟩
      have hS0 : S wr.drew := by rw [hSd]; exact ⟨m1, m2, q0, q1, q2, q3⟩
      have HS := hide' hSd
      clear hSd
      refine wp_region_held_drew (S := S) (by kernel_rfl) hS0 (fun hHeld => ?_)
      simp only [List.size_toArray, List.length_cons, List.length_nil, Nat.reduceAdd]
      refine wpAnyH_take (i := 0) (v := .pointer (some ⟨w.heap.size, 4, none⟩)) rfl (by kernel_rfl) (by kernel_rfl) (by kernel_rfl) (fun _ _ _ h => h) (Or.inl ⟨by rfl, ?y0⟩) (by assumption) ?_
      case y0 => (intro w' hSw; rw [HS.out] at hSw; obtain ⟨z0, z1, z2, z3, z4, z5⟩ := hSw; go_simp)
      simp only [List.getElem_toArray, List.getElem_cons_zero, Act.put, List.setIfInBounds_toArray, List.set_cons_zero, List.set_cons_succ]
      refine wpAnyH_take (i := 1) (v := .slice (some ⟨b, o, none⟩) n cap) rfl (by kernel_rfl) (by kernel_rfl) (by kernel_rfl) (fun _ _ _ h => h) (Or.inl ⟨by rfl, ?y1⟩) (by assumption) ?_
      case y1 => (intro w' hSw; rw [HS.out] at hSw; obtain ⟨z0, z1, z2, z3, z4, z5⟩ := hSw; go_simp)
      simp only [List.getElem_toArray, List.getElem_cons_zero, List.getElem_cons_succ, Act.put, List.setIfInBounds_toArray, List.set_cons_zero, List.set_cons_succ]
      refine wpAnyH_take (i := 2) (v := .int .i64 (i : Nat)) rfl (by kernel_rfl) (by kernel_rfl) (by kernel_rfl) (fun _ _ _ h => h) (Or.inl ⟨by rfl, ?y2⟩) (by assumption) ?_
      case y2 => (intro w' hSw; rw [HS.out] at hSw; obtain ⟨z0, z1, z2, z3, z4, z5⟩ := hSw; go_simp)
      simp only [List.getElem_toArray, List.getElem_cons_zero, List.getElem_cons_succ, Act.put, List.setIfInBounds_toArray, List.set_cons_zero, List.set_cons_succ]
      refine wpAnyH_take (i := 3) (v := .pointer (some ⟨b, o + i * 2, none⟩)) rfl (by kernel_rfl) (by kernel_rfl) (by kernel_rfl) (fun _ _ _ h => h) (Or.inl ⟨by rfl, ?y3⟩) (by assumption) ?_
      case y3 => (intro w' hSw; rw [HS.out] at hSw; obtain ⟨z0, z1, z2, z3, z4, z5⟩ := hSw; go_simp)
      simp only [List.getElem_toArray, List.getElem_cons_zero, List.getElem_cons_succ, Act.put, List.setIfInBounds_toArray, List.set_cons_zero, List.set_cons_succ]
      refine wpAnyH_take (i := 4) (v := .agg #[.string x.1, .string x.2]) rfl (by kernel_rfl) (by kernel_rfl) (by kernel_rfl) (fun _ _ _ h => h) (Or.inl ⟨by rfl, ?y4⟩) (by assumption) ?_
      case y4 => (intro w' hSw; rw [HS.out] at hSw; obtain ⟨z0, z1, z2, z3, z4, z5⟩ := hSw; go_simp)
      simp only [List.getElem_toArray, List.getElem_cons_zero, List.getElem_cons_succ, Act.put, List.setIfInBounds_toArray, List.set_cons_zero, List.set_cons_succ]
      refine wpAnyH_take (i := 5) (v := .pointer (some ⟨w.heap.size + 1, 4, none⟩)) rfl (by kernel_rfl) (by kernel_rfl) (by kernel_rfl) (fun _ _ _ h => h) (Or.inl ⟨by rfl, ?y5⟩) (by assumption) ?_
      case y5 => (intro w' hSw; rw [HS.out] at hSw; obtain ⟨z0, z1, z2, z3, z4, z5⟩ := hSw; go_simp)
      simp only [List.getElem_toArray, List.getElem_cons_zero, List.getElem_cons_succ, Act.put, List.setIfInBounds_toArray, List.set_cons_zero, List.set_cons_succ]
      refine wpAnyH_take (i := 6) (v := .slice (some ⟨b', o', none⟩) n cap') rfl (by kernel_rfl) (by kernel_rfl) (by kernel_rfl) (fun _ _ _ h => h) (Or.inl ⟨by rfl, ?y6⟩) (by assumption) ?_
      case y6 => (intro w' hSw; rw [HS.out] at hSw; obtain ⟨z0, z1, z2, z3, z4, z5⟩ := hSw; go_simp)
      simp only [List.getElem_toArray, List.getElem_cons_zero, List.getElem_cons_succ, Act.put, List.setIfInBounds_toArray, List.set_cons_zero, List.set_cons_succ]
      refine wpAnyH_take (i := 7) (v := .int .i64 (i : Nat)) rfl (by kernel_rfl) (by kernel_rfl) (by kernel_rfl) (fun _ _ _ h => h) (Or.inl ⟨by rfl, ?y7⟩) (by assumption) ?_
      case y7 => (intro w' hSw; rw [HS.out] at hSw; obtain ⟨z0, z1, z2, z3, z4, z5⟩ := hSw; go_simp)
      simp only [List.getElem_toArray, List.getElem_cons_zero, List.getElem_cons_succ, Act.put, List.setIfInBounds_toArray, List.set_cons_zero, List.set_cons_succ]
      refine wpAnyH_take (i := 8) (v := .pointer (some ⟨b', o' + i * 2, none⟩)) rfl (by kernel_rfl) (by kernel_rfl) (by kernel_rfl) (fun _ _ _ h => h) (Or.inl ⟨by rfl, ?y8⟩) (by assumption) ?_
      case y8 => (intro w' hSw; rw [HS.out] at hSw; obtain ⟨z0, z1, z2, z3, z4, z5⟩ := hSw; go_simp)
      simp only [List.getElem_toArray, List.getElem_cons_zero, List.getElem_cons_succ, Act.put, List.setIfInBounds_toArray, List.set_cons_zero, List.set_cons_succ]
      refine wpAnyH_take (i := 9) (v := .agg #[.string x.1, .string x.2]) rfl (by kernel_rfl) (by kernel_rfl) (by kernel_rfl) (fun _ _ _ h => h) (Or.inl ⟨by rfl, ?y9⟩) (by assumption) ?_
      case y9 => (intro w' hSw; rw [HS.out] at hSw; obtain ⟨z0, z1, z2, z3, z4, z5⟩ := hSw; go_simp)
      simp only [List.getElem_toArray, List.getElem_cons_zero, List.getElem_cons_succ, Act.put, List.setIfInBounds_toArray, List.set_cons_zero, List.set_cons_succ]
      refine wpAnyH_take (i := 10) (v := .bool false) rfl (by kernel_rfl) (by kernel_rfl) (by kernel_rfl) (fun _ _ _ h => h) (Or.inl ⟨by rfl, ?y10⟩) (by assumption) ?_
      case y10 => (intro w' hSw; rw [HS.out] at hSw; obtain ⟨z0, z1, z2, z3, z4, z5⟩ := hSw; go_simp)
      simp only [List.getElem_toArray, List.getElem_cons_zero, List.getElem_cons_succ, Act.put, List.setIfInBounds_toArray, List.set_cons_zero, List.set_cons_succ]
      refine wpAnyH_done (by kernel_rfl) ?_ _
      go_wp2_with fail
      exact ⟨⟨i + 1, rfl, by omega, HBD, m1, m2⟩, by simp [RowKit.intOf]; omega⟩
    · have t1 : ¬ (i : Int) < (n : Int) := by omega
      clear HA HB
      go_wp2_with fail
      go_ret
      exact ⟨rfl, HR.out⟩
set_option maxRecDepth 100000 in
set_option maxHeartbeats 2000000 in
theorem trAll (va vb : Value) (n : Nat) (E E' : Nat → Tr.Ev Value) (w : World) (hA : Tr.Evs w va n E) (hB : Tr.Evs w vb n E') (hk : Tr.Alike n E E') :
    Calls Tryd.prog 8 #[va, vb] w fun r w' => r = .returned (.bool true) ∧ Below w.heap.size w w' := by
  have cS : ∀ i w1, i < n → Below w.heap.size w w1 → Calls Tryd.prog 14 #[.agg (E i).cs.toList.toArray, .agg (E' i).cs.toList.toArray] w1 (fun r w' => r = .returned (.bool true) ∧ Below w1.heap.size w1 w') := fun i w1 hi hb => by
    have e1 := hk i hi
    have h2 := hB.att i hi
    rw [(hk.fields i hi).2.2.2.2.1] at h2
    rw [e1]
    exact trSame (E i) (E' i).av w1 ((hA.att i hi).below hb (Nat.le_refl _)) (h2.below hb (Nat.le_refl _))
  have rA := hA.row.at
  have rB := hB.row.at
  obtain ⟨p, cap, rfl, r1, r2, _⟩ := hA.row
  obtain ⟨p', cap', rfl, r1', r2', _⟩ := hB.row
  have CS := hide' cS
  have RA := hide' rA
  have RB := hide' rB
  clear cS rA rB hA hB hk
  go_enter Tryd.func8, Tryd.ntmps8
  go_wp2_with fail
  go_loopw [5] (fun v wr => ∃ i : Nat, v = .int .i64 i ∧ i ≤ n ∧ Hid (Below w.heap.size w wr)) (fun v _ => n - (RowKit.intOf v).toNat)
  case atStart => exact ⟨0, rfl, Nat.zero_le _, Below.refl _ _⟩
  case round =>
    obtain ⟨i, rfl, hi, HR⟩ := hrel
    by_cases hlt : i < n
    · have t1 : (i : Int) < (n : Int) := by omega
      obtain ⟨b, o, cap1, e1, _, _, ka⟩ := RA.out (by omega)
      obtain ⟨b', o', cap1', e1', _, _, kb⟩ := RB.out (by omega)
      cases e1
      cases e1'
      have c1 := ka i hlt
      have c2 := kb i hlt
      have g1 : Tr.AtCells wr b (o + i * 8) (E i) := Tr.AtCells.below c1 HR.out
      have g2 : Tr.AtCells wr b' (o' + i * 8) (E' i) := Tr.AtCells.below c2 HR.out
      have r1 := g1.range
      have r2 := g2.range
      have cc := CS.out i wr.drew hlt HR.out.drew
      have i1 : (Tryd.prog.info? 39).map (·.size) = some (E i).cs.toList.length := Tr.evSize
      have i2 : (Tryd.prog.info? 39).map (·.size) = some (E' i).cs.toList.length := Tr.evSize
      generalize (E i).cs.toList = CE at r1 cc i1
      generalize (E' i).cs.toList = CF at r2 cc i2
      have hb1 : b < wr.heap.size := block_lt_of_cell g1.1
      have hb2 : b' < wr.heap.size := block_lt_of_cell g2.1
      obtain ⟨S, hSd⟩ : ∃ S : World → Prop, S = fun W' => W'.rangeAt b (o + i * 8) CE ∧ W'.rangeAt b' (o' + i * 8) CF := ⟨_, rfl⟩
      have hS0 : S wr.drew := by rw [hSd]; exact ⟨r1, r2⟩
      have hSR : ∀ W', S W' → W'.rangeAt b (o + i * 8) CE := fun W' h => by rw [hSd] at h; exact h.1
      have hSR2 : ∀ W', S W' → W'.rangeAt b' (o' + i * 8) CF := fun W' h => by rw [hSd] at h; exact h.2
      have hSB : ∀ W', Below wr.drew.heap.size wr.drew W' → S W' := fun W' hb => by rw [hSd]; exact ⟨Tr.rangeAt_below (w := wr.drew) r1 hb hb1, Tr.rangeAt_below (w := wr.drew) r2 hb hb2⟩
      have t3 : (0 : Int) ≤ i := by omega
      have CC := hide' cc
      have HSR := hide' hSR
      have HSR2 := hide' hSR2
      have HSB := hide' hSB
      have HI1 := hide' i1
      have HI2 := hide' i2
      have HRD := hide' HR.out.drew
      clear r1 r2 g1 g2 cc i1 i2 hb1 hb2 hSd hSR hSR2 hSB c1 c2 ka kb CS RA RB
      go_wp2_with fail
      refine wp_region_held_drew (S := S) (by kernel_rfl) hS0 (fun hHeld => ?_)
      simp only [List.size_toArray, List.length_cons, List.length_nil, Nat.reduceAdd]
      refine wpAnyH_take (i := 0) (v := .slice (some ⟨b, o, none⟩) n cap) rfl (by kernel_rfl) (by kernel_rfl) (by kernel_rfl) (fun _ _ _ h => h) (Or.inl ⟨by rfl, ?y0⟩) (by assumption) ?_
      case y0 => (intro w' hSw; go_simp)
      simp only [List.getElem_toArray, List.getElem_cons_zero, Act.put, List.setIfInBounds_toArray, List.set_cons_zero, List.set_cons_succ]
      refine wpAnyH_take (i := 1) (v := .int .i64 (i : Nat)) rfl (by kernel_rfl) (by kernel_rfl) (by kernel_rfl) (fun _ _ _ h => h) (Or.inl ⟨by rfl, ?y1⟩) (by assumption) ?_
      case y1 => (intro w' hSw; go_simp)
      simp only [List.getElem_toArray, List.getElem_cons_zero, List.getElem_cons_succ, Act.put, List.setIfInBounds_toArray, List.set_cons_zero, List.set_cons_succ]
      refine wpAnyH_take (i := 2) (v := .pointer (some ⟨b, o + i * 8, none⟩)) rfl (by kernel_rfl) (by kernel_rfl) (by kernel_rfl) (fun _ _ _ h => h) (Or.inl ⟨by rfl, ?y2⟩) (by assumption) ?_
      case y2 => (intro w' hSw; go_simp)
      simp only [List.getElem_toArray, List.getElem_cons_zero, List.getElem_cons_succ, Act.put, List.setIfInBounds_toArray, List.set_cons_zero, List.set_cons_succ]
      refine wpAnyH_take (i := 3) (v := .agg CE.toArray) rfl (by kernel_rfl) (by kernel_rfl) (by kernel_rfl) (fun _ _ _ h => h) (yieldsIf_load_mid (by rfl) 39 (.tmp 19) rfl b (o + i * 8) rfl CE _ HSR.out Tryd.underlying39 rfl HI1.out) (by assumption) ?_
      simp only [List.getElem_toArray, List.getElem_cons_zero, List.getElem_cons_succ, Act.put, List.setIfInBounds_toArray, List.set_cons_zero, List.set_cons_succ]
      refine wpAnyH_take (i := 4) (v := .slice (some ⟨b', o', none⟩) n cap') rfl (by kernel_rfl) (by kernel_rfl) (by kernel_rfl) (fun _ _ _ h => h) (Or.inl ⟨by rfl, ?y4⟩) (by assumption) ?_
      case y4 => (intro w' hSw; go_simp)
      simp only [List.getElem_toArray, List.getElem_cons_zero, List.getElem_cons_succ, Act.put, List.setIfInBounds_toArray, List.set_cons_zero, List.set_cons_succ]
      refine wpAnyH_take (i := 5) (v := .int .i64 (i : Nat)) rfl (by kernel_rfl) (by kernel_rfl) (by kernel_rfl) (fun _ _ _ h => h) (Or.inl ⟨by rfl, ?y5⟩) (by assumption) ?_
      case y5 => (intro w' hSw; go_simp)
      simp only [List.getElem_toArray, List.getElem_cons_zero, List.getElem_cons_succ, Act.put, List.setIfInBounds_toArray, List.set_cons_zero, List.set_cons_succ]
      refine wpAnyH_take (i := 6) (v := .pointer (some ⟨b', o' + i * 8, none⟩)) rfl (by kernel_rfl) (by kernel_rfl) (by kernel_rfl) (fun _ _ _ h => h) (Or.inl ⟨by rfl, ?y6⟩) (by assumption) ?_
      case y6 => (intro w' hSw; go_simp)
      simp only [List.getElem_toArray, List.getElem_cons_zero, List.getElem_cons_succ, Act.put, List.setIfInBounds_toArray, List.set_cons_zero, List.set_cons_succ]
      refine wpAnyH_take (i := 7) (v := .agg CF.toArray) rfl (by kernel_rfl) (by kernel_rfl) (by kernel_rfl) (fun _ _ _ h => h) (yieldsIf_load_mid (by rfl) 39 (.tmp 23) rfl b' (o' + i * 8) rfl CF _ HSR2.out Tryd.underlying39 rfl HI2.out) (by assumption) ?_
      simp only [List.getElem_toArray, List.getElem_cons_zero, List.getElem_cons_succ, Act.put, List.setIfInBounds_toArray, List.set_cons_zero, List.set_cons_succ]
      refine wpAnyH_ready (rs := [8]) (by kernel_rfl) (by simp) ?_
      refine AllReadyH.cons rfl (fun K hK => ?_) AllReadyH.nil
      try simp only [List.getElem_toArray, List.getElem_cons_zero, List.getElem_cons_succ]
      go_simp
      refine CC.out.mono ?_
      rintro e W1 ⟨rfl, hb⟩
      have hS1 : S W1 := HSB.out W1 hb
      have HB9 := hide' (HRD.out.trans (hb.mono HRD.out.size))
      refine hK.out _ _ hS1 (fun hHeld9 => ?_)
      clear hK K hb
      try simp only [List.getElem_toArray, List.getElem_cons_zero, List.getElem_cons_succ, Act.put, List.setIfInBounds_toArray, List.set_cons_zero, List.set_cons_succ]
      refine wpAnyH_take (i := 9) (v := .bool false) rfl (by kernel_rfl) (by kernel_rfl) (by kernel_rfl) (fun _ _ _ h => h) (Or.inl ⟨by rfl, ?y9⟩) (by assumption) ?_
      case y9 => (intro w' hSw; go_simp)
      simp only [List.getElem_toArray, List.getElem_cons_zero, List.getElem_cons_succ, Act.put, List.setIfInBounds_toArray, List.set_cons_zero, List.set_cons_succ]
      refine wpAnyH_done (by kernel_rfl) ?_ _
      clear CC HSR HSR2 HSB HI1 HI2
      go_wp2_with fail
      exact ⟨⟨i + 1, rfl, by omega, HB9⟩, by simp [RowKit.intOf]; omega⟩
    · have t1 : ¬ (i : Int) < (n : Int) := by omega
      clear CS RA RB
      go_wp2_with fail
      go_ret
      exact ⟨rfl, HR.out⟩
end Go.Proofs.YtcmjipgigkalcaaDoor
