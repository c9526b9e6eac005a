/-
  WALKS over gimletref11.rest, restList and Great: of any path that came in they answer, whatever they answer.
-/
import Derived.Test.YtfockjlegpbooaaGreatDoorTrCopy
import Derived.Deep.QuietTactic
import Derived.BigQuiet
namespace Go.Proofs.YtfockjlegpbooaaGreatDoor
open Go.RowKit Go.Shelf Go.Lib
namespace Mn
/-- a row: n elements of k cells each, each as X says -/
def RowX (v : Value) (k : Nat) (X : Nat → Nat → Prop) : Prop :=
  ∃ p n cap, v = .slice p n cap ∧ n ≤ cap ∧ cap ≤ 9223372036854775807 ∧ (0 < n → ∃ b o, p = some ⟨b, o, none⟩ ∧ ∀ i, i < n → X b (o + i * k))
mutual
/-- steps, nested so deep at most -/
def StL : Nat → World → Value → Prop
  | 0, _, _ => False
  | d + 1, W, v => RowX v 4 fun b o => ∃ nm wv, W.cell? ⟨b, o + 2, none⟩ = some (.string nm) ∧ W.cell? ⟨b, o + 3, none⟩ = some wv ∧ ExL d W wv
/-- expressions, nested so deep at most -/
def ExL : Nat → World → Value → Prop
  | 0, _, _ => False
  | d + 1, W, v => RowX v 7 fun b o => ∃ av sv at_ tx, W.cell? ⟨b, o + 1, none⟩ = some av ∧ W.cell? ⟨b, o + 2, none⟩ = some sv ∧ W.cell? ⟨b, o + 3, none⟩ = some (.string at_) ∧ W.cell? ⟨b, o + 5, none⟩ = some (.string tx) ∧ ExL d W av ∧ StL d W sv
end
theorem RowX.imp {v : Value} {k : Nat} {X Y : Nat → Nat → Prop} (h : RowX v k X) (hi : ∀ b o, X b o → Y b o) : RowX v k Y := by
  obtain ⟨p, n, cap, e, h1, h2, h3⟩ := h
  refine ⟨p, n, cap, e, h1, h2, fun h0 => ?_⟩
  obtain ⟨b, o, e2, h4⟩ := h3 h0
  exact ⟨b, o, e2, fun i hi' => hi _ _ (h4 i hi')⟩
theorem below_both : ∀ (d : Nat) {W W' : World}, Below W.heap.size W W' → (∀ v, StL d W v → StL d W' v) ∧ (∀ v, ExL d W v → ExL d W' v)
  | 0, _, _, _ => ⟨fun v h => by unfold StL at h; exact h.elim, fun v h => by unfold ExL at h; exact h.elim⟩
  | d + 1, W, W', hb => by
    have ih := below_both d hb
    have hc : ∀ {a : Addr} {x : Value}, W.cell? a = some x → W'.cell? a = some x := fun {a x} h => (hb.cell (p := a) (block_lt_of_cell h)).trans h
    refine ⟨fun v h => ?_, fun v h => ?_⟩
    · unfold StL at h ⊢
      refine h.imp fun b o hx => ?_
      obtain ⟨nm, wv, h1, h2, h3⟩ := hx
      exact ⟨nm, wv, hc h1, hc h2, ih.2 _ h3⟩
    · unfold ExL at h ⊢
      refine h.imp fun b o hx => ?_
      obtain ⟨av, sv, at_, tx, h1, h2, h3, h4, h5, h6⟩ := hx
      exact ⟨av, sv, at_, tx, hc h1, hc h2, hc h3, hc h4, ih.2 _ h5, ih.1 _ h6⟩
theorem StL.below {d : Nat} {W W' : World} {v : Value} (h : StL d W v) (hb : Below W.heap.size W W') : StL d W' v := (below_both d hb).1 v h
theorem ExL.below {d : Nat} {W W' : World} {v : Value} (h : ExL d W v) (hb : Below W.heap.size W W') : ExL d W' v := (below_both d hb).2 v h
theorem ExL_sl {d : Nat} {W : World} {v : Value} (h : ExL d W v) : ∃ p n c, v = .slice p n c := by
  cases d with
  | zero => unfold ExL at h; exact h.elim
  | succ d => unfold ExL at h; obtain ⟨p, n, c, e, _⟩ := h; exact ⟨p, n, c, e⟩
theorem StL_sl {d : Nat} {W : World} {v : Value} (h : StL d W v) : ∃ p n c, v = .slice p n c := by
  cases d with
  | zero => unfold StL at h; exact h.elim
  | succ d => unfold StL at h; obtain ⟨p, n, c, e, _⟩ := h; exact ⟨p, n, c, e⟩
/-- a number is answered -/
def Nums (w : World) (r : Ending) (w' : World) : Prop := (∃ x : Int, r = .returned (.int .i64 x)) ∧ Below w.heap.size w w'
end Mn
set_option maxRecDepth 100000 in
set_option maxHeartbeats 4000000 in
theorem refRest (d : Nat) (ih : ∀ W v (z : Int), Mn.ExL d W v → Calls Tryz.prog 77 #[v, .int .i64 z] W fun r w' => Mn.Nums W r w') (W : World) (v : Value) (z : Int) (h : Mn.StL (d + 1) W v) :
    Calls Tryz.prog 52 #[v, .int .i64 z] W fun r w' => Mn.Nums W r w' := by
  unfold Mn.StL at h
  obtain ⟨p, n, cap, rfl, h1, h2, h3⟩ := h
  have H3 := hide' h3
  have IH := hide' ih
  clear h3 ih
  go_enter Tryz.func52, Tryz.ntmps52
  go_wp2_with fail
  go_loopw [1, 5] (fun a v wr => ∃ (i : Nat) (x : Int), v = .int .i64 i ∧ a = .int .i64 x ∧ i ≤ n ∧ Hid (Below W.heap.size W wr)) (fun _ v _ => n - (RowKit.intOf v).toNat)
  case atStart => exact ⟨0, z, rfl, rfl, Nat.zero_le _, Below.refl _ _⟩
  case round =>
    obtain ⟨i, x, rfl, rfl, hi, HB⟩ := hrel
    by_cases hlt : i < n
    · have t1 : (i : Int) < (n : Int) := by omega
      have t0 : (0 : Int) ≤ i := by omega
      by_cases hx : 0 ≤ x
      · obtain ⟨b, o, rfl, hel⟩ := H3.out (by omega)
        obtain ⟨nm, wv, c2, c3, hex⟩ := hel i hlt
        have tw : IntKind.i64.wrap ((i : Int) + 1) = (i : Int) + 1 := by rw [IntKind.wrap_i64]; omega
        obtain ⟨S, hSd⟩ : ∃ S : World → Prop, S = fun W' => W'.cell? ⟨b, o + i * 4 + 2, none⟩ = some (.string nm) ∧ W'.cell? ⟨b, o + i * 4 + 3, none⟩ = some wv := ⟨_, rfl⟩
        have HSO : Hid (∀ W', S W' → W'.cell? ⟨b, o + i * 4 + 2, none⟩ = some (.string nm) ∧ W'.cell? ⟨b, o + i * 4 + 3, none⟩ = some wv) := fun W' h => by rw [hSd] at h; exact h
        have hS0 : S wr.drew := by rw [hSd]; exact ⟨(HB.out.cell (p := ⟨b, o + i * 4 + 2, none⟩) (block_lt_of_cell c2)).trans c2, (HB.out.cell (p := ⟨b, o + i * 4 + 3, none⟩) (block_lt_of_cell c3)).trans c3⟩
        have hbd : Below W.heap.size W wr.drew := HB.out.drew
        have HSB : Hid (∀ W', Below wr.drew.heap.size wr.drew W' → S W') := fun W' hb => by
          have hb' := hbd.trans (hb.mono hbd.size)
          rw [hSd]
          exact ⟨(hb'.cell (p := ⟨b, o + i * 4 + 2, none⟩) (block_lt_of_cell c2)).trans c2, (hb'.cell (p := ⟨b, o + i * 4 + 3, none⟩) (block_lt_of_cell c3)).trans c3⟩
        have HC : Hid (∀ z' : Int, Calls Tryz.prog 77 #[wv, .int .i64 z'] wr.drew fun r w' => Mn.Nums wr.drew r w') := fun z' => IH.out wr.drew wv z' (hex.below hbd)
        have HBD := hide' hbd
        have HEX := hide' hex
        clear hel c2 c3 hex hSd hbd H3 IH
        obtain ⟨pw, nw, cw, rfl⟩ : ∃ pw nw cw, wv = .slice pw nw cw := Mn.ExL_sl HEX.out
        go_wp2
        refine wp_region_held_drew (S := S) (by kernel_rfl) hS0 (fun hHeld => ?_)
        simp only [List.size_toArray, List.length_cons, List.length_nil, Nat.reduceAdd]
        refine wpAnyH_take (i := 0) (v := .slice (some ⟨b, o, none⟩) n cap) rfl (by kernel_rfl) (by kernel_rfl) (by kernel_rfl) (fun _ _ _ h => h) (Or.inl ⟨by rfl, ?y0⟩) (by assumption) ?_
        case y0 => (intro w' hSw; obtain ⟨q2, q3⟩ := HSO.out w' hSw; go_simp)
        try simp only [List.getElem_toArray, List.getElem_cons_zero, Act.put, List.setIfInBounds_toArray, List.set_cons_zero, List.set_cons_succ]
        refine wpAnyH_take (i := 1) (v := .int .i64 (i : Nat)) rfl (by kernel_rfl) (by kernel_rfl) (by kernel_rfl) (fun _ _ _ h => h) (Or.inl ⟨by rfl, ?y1⟩) (by assumption) ?_
        case y1 => (intro w' hSw; obtain ⟨q2, q3⟩ := HSO.out w' hSw; go_simp)
        try simp only [List.getElem_toArray, List.getElem_cons_zero, List.getElem_cons_succ, Act.put, List.setIfInBounds_toArray, List.set_cons_zero, List.set_cons_succ]
        refine wpAnyH_take (i := 2) (v := .pointer (some ⟨b, o + i * 4, none⟩)) rfl (by kernel_rfl) (by kernel_rfl) (by kernel_rfl) (fun _ _ _ h => h) (Or.inl ⟨by rfl, ?y2⟩) (by assumption) ?_
        case y2 => (intro w' hSw; obtain ⟨q2, q3⟩ := HSO.out w' hSw; go_simp)
        try simp only [List.getElem_toArray, List.getElem_cons_zero, List.getElem_cons_succ, Act.put, List.setIfInBounds_toArray, List.set_cons_zero, List.set_cons_succ]
        refine wpAnyH_take (i := 3) (v := .pointer (some ⟨b, o + i * 4 + 3, none⟩)) rfl (by kernel_rfl) (by kernel_rfl) (by kernel_rfl) (fun _ _ _ h => h) (Or.inl ⟨by rfl, ?y3⟩) (by assumption) ?_
        case y3 => (intro w' hSw; obtain ⟨q2, q3⟩ := HSO.out w' hSw; go_simp)
        try simp only [List.getElem_toArray, List.getElem_cons_zero, List.getElem_cons_succ, Act.put, List.setIfInBounds_toArray, List.set_cons_zero, List.set_cons_succ]
        refine wpAnyH_take (i := 4) (v := .slice pw nw cw) rfl (by kernel_rfl) (by kernel_rfl) (by kernel_rfl) (fun _ _ _ h => h) (Or.inl ⟨by rfl, ?y4⟩) (by assumption) ?_
        case y4 => (intro w' hSw; obtain ⟨q2, q3⟩ := HSO.out w' hSw; go_simp)
        try simp only [List.getElem_toArray, List.getElem_cons_zero, List.getElem_cons_succ, Act.put, List.setIfInBounds_toArray, List.set_cons_zero, List.set_cons_succ]
        refine wpAnyH_take (i := 5) (v := .int .i64 x) rfl (by kernel_rfl) (by kernel_rfl) (by kernel_rfl) (fun _ _ _ h => h) (Or.inl ⟨by rfl, ?y5⟩) (by assumption) ?_
        case y5 => (intro w' hSw; obtain ⟨q2, q3⟩ := HSO.out w' hSw; go_simp)
        try simp only [List.getElem_toArray, List.getElem_cons_zero, List.getElem_cons_succ, Act.put, List.setIfInBounds_toArray, List.set_cons_zero, List.set_cons_succ]
        refine wpAnyH_take (i := 6) (v := .int .i64 (IntKind.i64.wrap (x - 1))) rfl (by kernel_rfl) (by kernel_rfl) (by kernel_rfl) (fun _ _ _ h => h) (Or.inl ⟨by rfl, ?y6⟩) (by assumption) ?_
        case y6 => (intro w' hSw; obtain ⟨q2, q3⟩ := HSO.out w' hSw; go_simp)
        try simp only [List.getElem_toArray, List.getElem_cons_zero, List.getElem_cons_succ, Act.put, List.setIfInBounds_toArray, List.set_cons_zero, List.set_cons_succ]
        refine wpAnyH_take (i := 7) (v := .slice (some ⟨b, o, none⟩) n cap) rfl (by kernel_rfl) (by kernel_rfl) (by kernel_rfl) (fun _ _ _ h => h) (Or.inl ⟨by rfl, ?y7⟩) (by assumption) ?_
        case y7 => (intro w' hSw; obtain ⟨q2, q3⟩ := HSO.out w' hSw; go_simp)
        try simp only [List.getElem_toArray, List.getElem_cons_zero, List.getElem_cons_succ, Act.put, List.setIfInBounds_toArray, List.set_cons_zero, List.set_cons_succ]
        refine wpAnyH_take (i := 8) (v := .int .i64 (i : Nat)) rfl (by kernel_rfl) (by kernel_rfl) (by kernel_rfl) (fun _ _ _ h => h) (Or.inl ⟨by rfl, ?y8⟩) (by assumption) ?_
        case y8 => (intro w' hSw; obtain ⟨q2, q3⟩ := HSO.out w' hSw; go_simp)
        try simp only [List.getElem_toArray, List.getElem_cons_zero, List.getElem_cons_succ, Act.put, List.setIfInBounds_toArray, List.set_cons_zero, List.set_cons_succ]
        refine wpAnyH_take (i := 9) (v := .pointer (some ⟨b, o + i * 4, none⟩)) rfl (by kernel_rfl) (by kernel_rfl) (by kernel_rfl) (fun _ _ _ h => h) (Or.inl ⟨by rfl, ?y9⟩) (by assumption) ?_
        case y9 => (intro w' hSw; obtain ⟨q2, q3⟩ := HSO.out w' hSw; go_simp)
        try simp only [List.getElem_toArray, List.getElem_cons_zero, List.getElem_cons_succ, Act.put, List.setIfInBounds_toArray, List.set_cons_zero, List.set_cons_succ]
        refine wpAnyH_take (i := 10) (v := .pointer (some ⟨b, o + i * 4 + 2, none⟩)) rfl (by kernel_rfl) (by kernel_rfl) (by kernel_rfl) (fun _ _ _ h => h) (Or.inl ⟨by rfl, ?y10⟩) (by assumption) ?_
        case y10 => (intro w' hSw; obtain ⟨q2, q3⟩ := HSO.out w' hSw; go_simp)
        try simp only [List.getElem_toArray, List.getElem_cons_zero, List.getElem_cons_succ, Act.put, List.setIfInBounds_toArray, List.set_cons_zero, List.set_cons_succ]
        refine wpAnyH_take (i := 11) (v := .string nm) rfl (by kernel_rfl) (by kernel_rfl) (by kernel_rfl) (fun _ _ _ h => h) (Or.inl ⟨by rfl, ?y11⟩) (by assumption) ?_
        case y11 => (intro w' hSw; obtain ⟨q2, q3⟩ := HSO.out w' hSw; go_simp)
        try simp only [List.getElem_toArray, List.getElem_cons_zero, List.getElem_cons_succ, Act.put, List.setIfInBounds_toArray, List.set_cons_zero, List.set_cons_succ]
        refine wpAnyH_take (i := 12) (v := .int .i64 (nm.size : Nat)) rfl (by kernel_rfl) (by kernel_rfl) (by kernel_rfl) (fun _ _ _ h => h) (Or.inl ⟨by rfl, ?y12⟩) (by assumption) ?_
        case y12 => (intro w' hSw; obtain ⟨q2, q3⟩ := HSO.out w' hSw; go_simp)
        try simp only [List.getElem_toArray, List.getElem_cons_zero, List.getElem_cons_succ, Act.put, List.setIfInBounds_toArray, List.set_cons_zero, List.set_cons_succ]
        refine wpAnyH_take (i := 13) (v := .int .i64 (IntKind.i64.wrap (IntKind.i64.wrap (x - 1) - (nm.size : Nat)))) rfl (by kernel_rfl) (by kernel_rfl) (by kernel_rfl) (fun _ _ _ h => h) (Or.inl ⟨by rfl, ?y13⟩) (by assumption) ?_
        case y13 => (intro w' hSw; obtain ⟨q2, q3⟩ := HSO.out w' hSw; go_simp)
        try simp only [List.getElem_toArray, List.getElem_cons_zero, List.getElem_cons_succ, Act.put, List.setIfInBounds_toArray, List.set_cons_zero, List.set_cons_succ]
        refine wpAnyH_ready (rs := [14]) (by kernel_rfl) (by simp) ?_
        refine AllReadyH.cons rfl (fun K hK => ?_) AllReadyH.nil
        try simp only [List.getElem_toArray, List.getElem_cons_zero, List.getElem_cons_succ]
        go_simp
        refine (HC.out _).mono ?_
        rintro e Wz ⟨⟨x2, rfl⟩, hbz⟩
        have hSz : S Wz := HSB.out Wz hbz
        have HBZ := hide' hbz
        clear hbz
        refine hK.out _ _ hSz (fun hHeld9 => ?_)
        clear hK K
        try simp only [List.getElem_toArray, List.getElem_cons_zero, List.getElem_cons_succ, Act.put, List.setIfInBounds_toArray, List.set_cons_zero, List.set_cons_succ]
        refine wpAnyH_take (i := 15) (v := .int .i64 x2) rfl (by kernel_rfl) (by kernel_rfl) (by kernel_rfl) (fun _ _ _ h => h) (Or.inl ⟨by rfl, ?y15⟩) (by assumption) ?_
        case y15 => (intro w' hSw; obtain ⟨q2, q3⟩ := HSO.out w' hSw; go_simp)
        try simp only [List.getElem_toArray, List.getElem_cons_zero, List.getElem_cons_succ, Act.put, List.setIfInBounds_toArray, List.set_cons_zero, List.set_cons_succ]
        refine wpAnyH_done (by kernel_rfl) ?_ _
        go_wp2
        exact ⟨⟨i + 1, x2, rfl, rfl, by omega, HBD.out.trans (HBZ.out.mono HBD.out.size)⟩, by simp [RowKit.intOf]; omega⟩
      · go_wp2
        go_ret
        exact ⟨⟨x, rfl⟩, HB.out⟩
    · have t1 : ¬ (i : Int) < (n : Int) := by omega
      go_wp2
      go_ret
      exact ⟨⟨x, rfl⟩, HB.out⟩
set_option maxRecDepth 100000 in
set_option maxHeartbeats 4000000 in
theorem refRestList (d : Nat) (ihE : ∀ W v (z : Int), Mn.ExL d W v → Calls Tryz.prog 77 #[v, .int .i64 z] W fun r w' => Mn.Nums W r w') (ihS : ∀ W v (z : Int), Mn.StL d W v → Calls Tryz.prog 52 #[v, .int .i64 z] W fun r w' => Mn.Nums W r w') (W : World) (v : Value) (z : Int) (h : Mn.ExL (d + 1) W v) :
    Calls Tryz.prog 77 #[v, .int .i64 z] W fun r w' => Mn.Nums W r w' := by
  unfold Mn.ExL at h
  obtain ⟨p, n, cap, rfl, h1, h2, h3⟩ := h
  have H3 := hide' h3
  have IHE := hide' ihE
  have IHS := hide' ihS
  clear h3 ihE ihS
  go_enter Tryz.func77, Tryz.ntmps77
  go_wp2_with fail
  go_loopw [1, 5] (fun a v wr => ∃ (i : Nat) (x : Int), v = .int .i64 i ∧ a = .int .i64 x ∧ i ≤ n ∧ Hid (Below W.heap.size W wr)) (fun _ v _ => n - (RowKit.intOf v).toNat)
  case atStart => exact ⟨0, z, rfl, rfl, Nat.zero_le _, Below.refl _ _⟩
  case round =>
    obtain ⟨i, x, rfl, rfl, hi, HB⟩ := hrel
    by_cases hlt : i < n
    · have t1 : (i : Int) < (n : Int) := by omega
      have t0 : (0 : Int) ≤ i := by omega
      by_cases hx : 0 ≤ x
      · obtain ⟨b, o, rfl, hel⟩ := H3.out (by omega)
        obtain ⟨av, sv, at_, tx, c1, c2, c3, c5, hex, hst⟩ := hel i hlt
        obtain ⟨pa, na, ca, rfl⟩ := Mn.ExL_sl hex
        obtain ⟨ps, ns, cs, rfl⟩ := Mn.StL_sl hst
        have tw : IntKind.i64.wrap ((i : Int) + 1) = (i : Int) + 1 := by rw [IntKind.wrap_i64]; omega
        obtain ⟨S, hSd⟩ : ∃ S : World → Prop, S = fun W' => W'.cell? ⟨b, o + i * 7 + 1, none⟩ = some (.slice pa na ca) ∧ W'.cell? ⟨b, o + i * 7 + 2, none⟩ = some (.slice ps ns cs) ∧ W'.cell? ⟨b, o + i * 7 + 3, none⟩ = some (.string at_) ∧ W'.cell? ⟨b, o + i * 7 + 5, none⟩ = some (.string tx) := ⟨_, rfl⟩
        have HSO : Hid (∀ W', S W' → W'.cell? ⟨b, o + i * 7 + 1, none⟩ = some (.slice pa na ca) ∧ W'.cell? ⟨b, o + i * 7 + 2, none⟩ = some (.slice ps ns cs) ∧ W'.cell? ⟨b, o + i * 7 + 3, none⟩ = some (.string at_) ∧ W'.cell? ⟨b, o + i * 7 + 5, none⟩ = some (.string tx)) := fun W' h => by rw [hSd] at h; exact h
        have hbd : Below W.heap.size W wr.drew := HB.out.drew
        have hS0 : S wr.drew := by rw [hSd]; exact ⟨(hbd.cell (p := ⟨b, o + i * 7 + 1, none⟩) (block_lt_of_cell c1)).trans c1, (hbd.cell (p := ⟨b, o + i * 7 + 2, none⟩) (block_lt_of_cell c2)).trans c2, (hbd.cell (p := ⟨b, o + i * 7 + 3, none⟩) (block_lt_of_cell c3)).trans c3, (hbd.cell (p := ⟨b, o + i * 7 + 5, none⟩) (block_lt_of_cell c5)).trans c5⟩
        have HSB : Hid (∀ W', Below wr.drew.heap.size wr.drew W' → S W') := fun W' hb => by
          have hb' := hbd.trans (hb.mono hbd.size)
          rw [hSd]
          exact ⟨(hb'.cell (p := ⟨b, o + i * 7 + 1, none⟩) (block_lt_of_cell c1)).trans c1, (hb'.cell (p := ⟨b, o + i * 7 + 2, none⟩) (block_lt_of_cell c2)).trans c2, (hb'.cell (p := ⟨b, o + i * 7 + 3, none⟩) (block_lt_of_cell c3)).trans c3, (hb'.cell (p := ⟨b, o + i * 7 + 5, none⟩) (block_lt_of_cell c5)).trans c5⟩
        have HCE : Hid (∀ z' : Int, Calls Tryz.prog 77 #[.slice pa na ca, .int .i64 z'] wr.drew fun r w' => Mn.Nums wr.drew r w') := fun z' => IHE.out wr.drew _ z' (hex.below hbd)
        have HCS : Hid (∀ W', Below wr.drew.heap.size wr.drew W' → ∀ z' : Int, Calls Tryz.prog 52 #[.slice ps ns cs, .int .i64 z'] W' fun r w' => Mn.Nums W' r w') := fun W' hb z' => IHS.out W' _ z' ((hst.below hbd).below hb)
        have HBD := hide' hbd
        clear hel c1 c2 c3 c5 hex hst hSd hbd H3 IHE IHS
        go_wp2
        refine wp_region_held_drew (S := S) (by kernel_rfl) hS0 (fun hHeld => ?_)
        simp only [List.size_toArray, List.length_cons, List.length_nil, Nat.reduceAdd]
        refine wpAnyH_take (i := 0) (v := .slice (some ⟨b, o, none⟩) n cap) rfl (by kernel_rfl) (by kernel_rfl) (by kernel_rfl) (fun _ _ _ h => h) (Or.inl ⟨by rfl, ?y0⟩) (by assumption) ?_
        case y0 => (intro w' hSw; obtain ⟨q1, q2, q3, q5⟩ := HSO.out w' hSw; go_simp)
        try simp only [List.getElem_toArray, List.getElem_cons_zero, Act.put, List.setIfInBounds_toArray, List.set_cons_zero, List.set_cons_succ]
        refine wpAnyH_take (i := 1) (v := .int .i64 (i : Nat)) rfl (by kernel_rfl) (by kernel_rfl) (by kernel_rfl) (fun _ _ _ h => h) (Or.inl ⟨by rfl, ?y1⟩) (by assumption) ?_
        case y1 => (intro w' hSw; obtain ⟨q1, q2, q3, q5⟩ := HSO.out w' hSw; go_simp)
        try simp only [List.getElem_toArray, List.getElem_cons_zero, List.getElem_cons_succ, Act.put, List.setIfInBounds_toArray, List.set_cons_zero, List.set_cons_succ]
        refine wpAnyH_take (i := 2) (v := .pointer (some ⟨b, o + i * 7, none⟩)) rfl (by kernel_rfl) (by kernel_rfl) (by kernel_rfl) (fun _ _ _ h => h) (Or.inl ⟨by rfl, ?y2⟩) (by assumption) ?_
        case y2 => (intro w' hSw; obtain ⟨q1, q2, q3, q5⟩ := HSO.out w' hSw; go_simp)
        try simp only [List.getElem_toArray, List.getElem_cons_zero, List.getElem_cons_succ, Act.put, List.setIfInBounds_toArray, List.set_cons_zero, List.set_cons_succ]
        refine wpAnyH_take (i := 3) (v := .pointer (some ⟨b, o + i * 7 + 2, none⟩)) rfl (by kernel_rfl) (by kernel_rfl) (by kernel_rfl) (fun _ _ _ h => h) (Or.inl ⟨by rfl, ?y3⟩) (by assumption) ?_
        case y3 => (intro w' hSw; obtain ⟨q1, q2, q3, q5⟩ := HSO.out w' hSw; go_simp)
        try simp only [List.getElem_toArray, List.getElem_cons_zero, List.getElem_cons_succ, Act.put, List.setIfInBounds_toArray, List.set_cons_zero, List.set_cons_succ]
        refine wpAnyH_take (i := 4) (v := .pointer (some ⟨b, o + i * 7 + 2, none⟩)) rfl (by kernel_rfl) (by kernel_rfl) (by kernel_rfl) (fun _ _ _ h => h) (Or.inl ⟨by rfl, ?y4⟩) (by assumption) ?_
        case y4 => (intro w' hSw; obtain ⟨q1, q2, q3, q5⟩ := HSO.out w' hSw; go_simp)
        try simp only [List.getElem_toArray, List.getElem_cons_zero, List.getElem_cons_succ, Act.put, List.setIfInBounds_toArray, List.set_cons_zero, List.set_cons_succ]
        refine wpAnyH_take (i := 5) (v := .slice ps ns cs) rfl (by kernel_rfl) (by kernel_rfl) (by kernel_rfl) (fun _ _ _ h => h) (Or.inl ⟨by rfl, ?y5⟩) (by assumption) ?_
        case y5 => (intro w' hSw; obtain ⟨q1, q2, q3, q5⟩ := HSO.out w' hSw; go_simp)
        try simp only [List.getElem_toArray, List.getElem_cons_zero, List.getElem_cons_succ, Act.put, List.setIfInBounds_toArray, List.set_cons_zero, List.set_cons_succ]
        refine wpAnyH_take (i := 6) (v := .slice (some ⟨b, o, none⟩) n cap) rfl (by kernel_rfl) (by kernel_rfl) (by kernel_rfl) (fun _ _ _ h => h) (Or.inl ⟨by rfl, ?y6⟩) (by assumption) ?_
        case y6 => (intro w' hSw; obtain ⟨q1, q2, q3, q5⟩ := HSO.out w' hSw; go_simp)
        try simp only [List.getElem_toArray, List.getElem_cons_zero, List.getElem_cons_succ, Act.put, List.setIfInBounds_toArray, List.set_cons_zero, List.set_cons_succ]
        refine wpAnyH_take (i := 7) (v := .int .i64 (i : Nat)) rfl (by kernel_rfl) (by kernel_rfl) (by kernel_rfl) (fun _ _ _ h => h) (Or.inl ⟨by rfl, ?y7⟩) (by assumption) ?_
        case y7 => (intro w' hSw; obtain ⟨q1, q2, q3, q5⟩ := HSO.out w' hSw; go_simp)
        try simp only [List.getElem_toArray, List.getElem_cons_zero, List.getElem_cons_succ, Act.put, List.setIfInBounds_toArray, List.set_cons_zero, List.set_cons_succ]
        refine wpAnyH_take (i := 8) (v := .pointer (some ⟨b, o + i * 7, none⟩)) rfl (by kernel_rfl) (by kernel_rfl) (by kernel_rfl) (fun _ _ _ h => h) (Or.inl ⟨by rfl, ?y8⟩) (by assumption) ?_
        case y8 => (intro w' hSw; obtain ⟨q1, q2, q3, q5⟩ := HSO.out w' hSw; go_simp)
        try simp only [List.getElem_toArray, List.getElem_cons_zero, List.getElem_cons_succ, Act.put, List.setIfInBounds_toArray, List.set_cons_zero, List.set_cons_succ]
        refine wpAnyH_take (i := 9) (v := .pointer (some ⟨b, o + i * 7 + 1, none⟩)) rfl (by kernel_rfl) (by kernel_rfl) (by kernel_rfl) (fun _ _ _ h => h) (Or.inl ⟨by rfl, ?y9⟩) (by assumption) ?_
        case y9 => (intro w' hSw; obtain ⟨q1, q2, q3, q5⟩ := HSO.out w' hSw; go_simp)
        try simp only [List.getElem_toArray, List.getElem_cons_zero, List.getElem_cons_succ, Act.put, List.setIfInBounds_toArray, List.set_cons_zero, List.set_cons_succ]
        refine wpAnyH_take (i := 10) (v := .slice pa na ca) rfl (by kernel_rfl) (by kernel_rfl) (by kernel_rfl) (fun _ _ _ h => h) (Or.inl ⟨by rfl, ?y10⟩) (by assumption) ?_
        case y10 => (intro w' hSw; obtain ⟨q1, q2, q3, q5⟩ := HSO.out w' hSw; go_simp)
        try simp only [List.getElem_toArray, List.getElem_cons_zero, List.getElem_cons_succ, Act.put, List.setIfInBounds_toArray, List.set_cons_zero, List.set_cons_succ]
        refine wpAnyH_take (i := 11) (v := .int .i64 x) rfl (by kernel_rfl) (by kernel_rfl) (by kernel_rfl) (fun _ _ _ h => h) (Or.inl ⟨by rfl, ?y11⟩) (by assumption) ?_
        case y11 => (intro w' hSw; obtain ⟨q1, q2, q3, q5⟩ := HSO.out w' hSw; go_simp)
        try simp only [List.getElem_toArray, List.getElem_cons_zero, List.getElem_cons_succ, Act.put, List.setIfInBounds_toArray, List.set_cons_zero, List.set_cons_succ]
        refine wpAnyH_take (i := 12) (v := .int .i64 (IntKind.i64.wrap (x - 1))) rfl (by kernel_rfl) (by kernel_rfl) (by kernel_rfl) (fun _ _ _ h => h) (Or.inl ⟨by rfl, ?y12⟩) (by assumption) ?_
        case y12 => (intro w' hSw; obtain ⟨q1, q2, q3, q5⟩ := HSO.out w' hSw; go_simp)
        try simp only [List.getElem_toArray, List.getElem_cons_zero, List.getElem_cons_succ, Act.put, List.setIfInBounds_toArray, List.set_cons_zero, List.set_cons_succ]
        refine wpAnyH_take (i := 13) (v := .slice (some ⟨b, o, none⟩) n cap) rfl (by kernel_rfl) (by kernel_rfl) (by kernel_rfl) (fun _ _ _ h => h) (Or.inl ⟨by rfl, ?y13⟩) (by assumption) ?_
        case y13 => (intro w' hSw; obtain ⟨q1, q2, q3, q5⟩ := HSO.out w' hSw; go_simp)
        try simp only [List.getElem_toArray, List.getElem_cons_zero, List.getElem_cons_succ, Act.put, List.setIfInBounds_toArray, List.set_cons_zero, List.set_cons_succ]
        refine wpAnyH_take (i := 14) (v := .int .i64 (i : Nat)) rfl (by kernel_rfl) (by kernel_rfl) (by kernel_rfl) (fun _ _ _ h => h) (Or.inl ⟨by rfl, ?y14⟩) (by assumption) ?_
        case y14 => (intro w' hSw; obtain ⟨q1, q2, q3, q5⟩ := HSO.out w' hSw; go_simp)
        try simp only [List.getElem_toArray, List.getElem_cons_zero, List.getElem_cons_succ, Act.put, List.setIfInBounds_toArray, List.set_cons_zero, List.set_cons_succ]
        refine wpAnyH_take (i := 15) (v := .pointer (some ⟨b, o + i * 7, none⟩)) rfl (by kernel_rfl) (by kernel_rfl) (by kernel_rfl) (fun _ _ _ h => h) (Or.inl ⟨by rfl, ?y15⟩) (by assumption) ?_
        case y15 => (intro w' hSw; obtain ⟨q1, q2, q3, q5⟩ := HSO.out w' hSw; go_simp)
        try simp only [List.getElem_toArray, List.getElem_cons_zero, List.getElem_cons_succ, Act.put, List.setIfInBounds_toArray, List.set_cons_zero, List.set_cons_succ]
        refine wpAnyH_take (i := 16) (v := .pointer (some ⟨b, o + i * 7 + 3, none⟩)) rfl (by kernel_rfl) (by kernel_rfl) (by kernel_rfl) (fun _ _ _ h => h) (Or.inl ⟨by rfl, ?y16⟩) (by assumption) ?_
        case y16 => (intro w' hSw; obtain ⟨q1, q2, q3, q5⟩ := HSO.out w' hSw; go_simp)
        try simp only [List.getElem_toArray, List.getElem_cons_zero, List.getElem_cons_succ, Act.put, List.setIfInBounds_toArray, List.set_cons_zero, List.set_cons_succ]
        refine wpAnyH_take (i := 17) (v := .string at_) rfl (by kernel_rfl) (by kernel_rfl) (by kernel_rfl) (fun _ _ _ h => h) (Or.inl ⟨by rfl, ?y17⟩) (by assumption) ?_
        case y17 => (intro w' hSw; obtain ⟨q1, q2, q3, q5⟩ := HSO.out w' hSw; go_simp)
        try simp only [List.getElem_toArray, List.getElem_cons_zero, List.getElem_cons_succ, Act.put, List.setIfInBounds_toArray, List.set_cons_zero, List.set_cons_succ]
        refine wpAnyH_take (i := 18) (v := .int .i64 (at_.size : Nat)) rfl (by kernel_rfl) (by kernel_rfl) (by kernel_rfl) (fun _ _ _ h => h) (Or.inl ⟨by rfl, ?y18⟩) (by assumption) ?_
        case y18 => (intro w' hSw; obtain ⟨q1, q2, q3, q5⟩ := HSO.out w' hSw; go_simp)
        try simp only [List.getElem_toArray, List.getElem_cons_zero, List.getElem_cons_succ, Act.put, List.setIfInBounds_toArray, List.set_cons_zero, List.set_cons_succ]
        refine wpAnyH_take (i := 19) (v := .int .i64 (IntKind.i64.wrap (IntKind.i64.wrap (x - 1) - (at_.size : Nat)))) rfl (by kernel_rfl) (by kernel_rfl) (by kernel_rfl) (fun _ _ _ h => h) (Or.inl ⟨by rfl, ?y19⟩) (by assumption) ?_
        case y19 => (intro w' hSw; obtain ⟨q1, q2, q3, q5⟩ := HSO.out w' hSw; go_simp)
        try simp only [List.getElem_toArray, List.getElem_cons_zero, List.getElem_cons_succ, Act.put, List.setIfInBounds_toArray, List.set_cons_zero, List.set_cons_succ]
        refine wpAnyH_take (i := 20) (v := .slice (some ⟨b, o, none⟩) n cap) rfl (by kernel_rfl) (by kernel_rfl) (by kernel_rfl) (fun _ _ _ h => h) (Or.inl ⟨by rfl, ?y20⟩) (by assumption) ?_
        case y20 => (intro w' hSw; obtain ⟨q1, q2, q3, q5⟩ := HSO.out w' hSw; go_simp)
        try simp only [List.getElem_toArray, List.getElem_cons_zero, List.getElem_cons_succ, Act.put, List.setIfInBounds_toArray, List.set_cons_zero, List.set_cons_succ]
        refine wpAnyH_take (i := 21) (v := .int .i64 (i : Nat)) rfl (by kernel_rfl) (by kernel_rfl) (by kernel_rfl) (fun _ _ _ h => h) (Or.inl ⟨by rfl, ?y21⟩) (by assumption) ?_
        case y21 => (intro w' hSw; obtain ⟨q1, q2, q3, q5⟩ := HSO.out w' hSw; go_simp)
        try simp only [List.getElem_toArray, List.getElem_cons_zero, List.getElem_cons_succ, Act.put, List.setIfInBounds_toArray, List.set_cons_zero, List.set_cons_succ]
        refine wpAnyH_take (i := 22) (v := .pointer (some ⟨b, o + i * 7, none⟩)) rfl (by kernel_rfl) (by kernel_rfl) (by kernel_rfl) (fun _ _ _ h => h) (Or.inl ⟨by rfl, ?y22⟩) (by assumption) ?_
        case y22 => (intro w' hSw; obtain ⟨q1, q2, q3, q5⟩ := HSO.out w' hSw; go_simp)
        try simp only [List.getElem_toArray, List.getElem_cons_zero, List.getElem_cons_succ, Act.put, List.setIfInBounds_toArray, List.set_cons_zero, List.set_cons_succ]
        refine wpAnyH_take (i := 23) (v := .pointer (some ⟨b, o + i * 7 + 5, none⟩)) rfl (by kernel_rfl) (by kernel_rfl) (by kernel_rfl) (fun _ _ _ h => h) (Or.inl ⟨by rfl, ?y23⟩) (by assumption) ?_
        case y23 => (intro w' hSw; obtain ⟨q1, q2, q3, q5⟩ := HSO.out w' hSw; go_simp)
        try simp only [List.getElem_toArray, List.getElem_cons_zero, List.getElem_cons_succ, Act.put, List.setIfInBounds_toArray, List.set_cons_zero, List.set_cons_succ]
        refine wpAnyH_take (i := 24) (v := .string tx) rfl (by kernel_rfl) (by kernel_rfl) (by kernel_rfl) (fun _ _ _ h => h) (Or.inl ⟨by rfl, ?y24⟩) (by assumption) ?_
        case y24 => (intro w' hSw; obtain ⟨q1, q2, q3, q5⟩ := HSO.out w' hSw; go_simp)
        try simp only [List.getElem_toArray, List.getElem_cons_zero, List.getElem_cons_succ, Act.put, List.setIfInBounds_toArray, List.set_cons_zero, List.set_cons_succ]
        refine wpAnyH_take (i := 25) (v := .int .i64 (tx.size : Nat)) rfl (by kernel_rfl) (by kernel_rfl) (by kernel_rfl) (fun _ _ _ h => h) (Or.inl ⟨by rfl, ?y25⟩) (by assumption) ?_
        case y25 => (intro w' hSw; obtain ⟨q1, q2, q3, q5⟩ := HSO.out w' hSw; go_simp)
        try simp only [List.getElem_toArray, List.getElem_cons_zero, List.getElem_cons_succ, Act.put, List.setIfInBounds_toArray, List.set_cons_zero, List.set_cons_succ]
        refine wpAnyH_take (i := 26) (v := .int .i64 (IntKind.i64.wrap (IntKind.i64.wrap (IntKind.i64.wrap (x - 1) - (at_.size : Nat)) - (tx.size : Nat)))) rfl (by kernel_rfl) (by kernel_rfl) (by kernel_rfl) (fun _ _ _ h => h) (Or.inl ⟨by rfl, ?y26⟩) (by assumption) ?_
        case y26 => (intro w' hSw; obtain ⟨q1, q2, q3, q5⟩ := HSO.out w' hSw; go_simp)
        try simp only [List.getElem_toArray, List.getElem_cons_zero, List.getElem_cons_succ, Act.put, List.setIfInBounds_toArray, List.set_cons_zero, List.set_cons_succ]
        refine wpAnyH_ready (rs := [27]) (by kernel_rfl) (by simp) ?_
        refine AllReadyH.cons rfl (fun K hK => ?_) AllReadyH.nil
        try simp only [List.getElem_toArray, List.getElem_cons_zero, List.getElem_cons_succ]
        go_simp
        refine (HCE.out _).mono ?_
        rintro e Wy ⟨⟨x1, rfl⟩, hby⟩
        have hSy : S Wy := HSB.out Wy hby
        have HBY := hide' hby
        have HCY := hide' (HCS.out Wy hby)
        clear hby
        refine hK.out _ _ hSy (fun hHeld9 => ?_)
        clear hK K
        try simp only [List.getElem_toArray, List.getElem_cons_zero, List.getElem_cons_succ, Act.put, List.setIfInBounds_toArray, List.set_cons_zero, List.set_cons_succ]
        refine wpAnyH_ready (rs := [28]) (by kernel_rfl) (by simp) ?_
        refine AllReadyH.cons rfl (fun K hK => ?_) AllReadyH.nil
        try simp only [List.getElem_toArray, List.getElem_cons_zero, List.getElem_cons_succ]
        go_simp
        refine (HCY.out _).mono ?_
        rintro e Wz ⟨⟨x2, rfl⟩, hbz⟩
        have hbz2 := HBY.out.trans (hbz.mono HBY.out.size)
        have hSz : S Wz := HSB.out Wz hbz2
        have HBZ := hide' hbz2
        clear hbz hbz2
        refine hK.out _ _ hSz (fun hHeld9 => ?_)
        clear hK K
        try simp only [List.getElem_toArray, List.getElem_cons_zero, List.getElem_cons_succ, Act.put, List.setIfInBounds_toArray, List.set_cons_zero, List.set_cons_succ]
        refine wpAnyH_take (i := 29) (v := .int .i64 x2) rfl (by kernel_rfl) (by kernel_rfl) (by kernel_rfl) (fun _ _ _ h => h) (Or.inl ⟨by rfl, ?y29⟩) (by assumption) ?_
        case y29 => (intro w' hSw; obtain ⟨q1, q2, q3, q5⟩ := HSO.out w' hSw; go_simp)
        try simp only [List.getElem_toArray, List.getElem_cons_zero, List.getElem_cons_succ, Act.put, List.setIfInBounds_toArray, List.set_cons_zero, List.set_cons_succ]
        refine wpAnyH_done (by kernel_rfl) ?_ _
        go_wp2
        exact ⟨⟨i + 1, x2, rfl, rfl, by omega, HBD.out.trans (HBZ.out.mono HBD.out.size)⟩, by simp [RowKit.intOf]; omega⟩
      · go_wp2
        go_ret
        exact ⟨⟨x, rfl⟩, HB.out⟩
    · have t1 : ¬ (i : Int) < (n : Int) := by omega
      go_wp2
      go_ret
      exact ⟨⟨x, rfl⟩, HB.out⟩
theorem refRests : ∀ d, (∀ W v (z : Int), Mn.StL d W v → Calls Tryz.prog 52 #[v, .int .i64 z] W fun r w' => Mn.Nums W r w') ∧ (∀ W v (z : Int), Mn.ExL d W v → Calls Tryz.prog 77 #[v, .int .i64 z] W fun r w' => Mn.Nums W r w')
  | 0 => ⟨fun _ _ _ h => by unfold Mn.StL at h; exact h.elim, fun _ _ _ h => by unfold Mn.ExL at h; exact h.elim⟩
  | d + 1 => ⟨fun W v z h => refRest d (refRests d).2 W v z h, fun W v z h => refRestList d (refRests d).2 (refRests d).1 W v z h⟩
set_option maxHeartbeats 1000000 in
theorem refGreat (d : Nat) (W : World) (p : Option Addr) (n c : Nat) (h : Mn.StL d W (.slice p n c)) :
    Calls Tryz.prog 26 #[.agg #[.slice p n c]] W fun r w' => (∃ b : Bool, r = .returned (.bool b)) ∧ Below W.heap.size W w' := by
  have hb1 : Below W.heap.size W (W.alloc (.cells #[.slice p n c] 25)) := (Below.refl _ _).alloc (Nat.le_refl _) _
  have C := hide' ((refRests d).1 (W.alloc (.cells #[.slice p n c] 25)) _ 262144 (h.below hb1))
  have HB1 := hide' hb1
  clear h hb1
  go_enter Tryz.func26, Tryz.ntmps26
  go_wp2_with fail
  refine C.out.mono ?_
  rintro e w2 ⟨⟨x, rfl⟩, hb2⟩
  have HB2 := hide' (HB1.out.trans (hb2.mono HB1.out.size))
  clear hb2 C
  go_wp2_with fail
  go_ret
  exact ⟨⟨_, rfl⟩, HB2.out⟩
end Go.Proofs.YtfockjlegpbooaaGreatDoor
