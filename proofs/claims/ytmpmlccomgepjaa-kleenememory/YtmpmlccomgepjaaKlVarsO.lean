/-
  kleene.Vars answers a row of one's own; append that leaves the old row as it was.
-/
import Derived.Test.YtmpmlccomgepjaaKlVars
import Derived.Test.YtmpmlccomgepjaaKlMrg
import Derived.ArgAppend
import Derived.Maps.AppendAt
namespace Go.Proofs.Ytmpmlccomgepjaa
open Go.RowKit Go.Lib Go.Sort Go.Shelf
theorem klSortO (base : Nat) (a : Value) (L : List Int) (w : World) (h : w.ownsRow base 3 1 a L.length (Kl.ic L)) (hb : base ≤ w.heap.size) (hl : L.length ≤ 1048576) :
    Calls Try.prog 21 #[a] w fun e w' => e = .returned (.tuple #[]) ∧ Hid (w'.ownsRow base 3 1 a (L.mergeSort fun x y => decide (x ≤ y)).length (Kl.ic (L.mergeSort fun x y => decide (x ≤ y)))) ∧ Hid (Below base w w') := by
  by_cases c : L = []
  · subst c
    obtain ⟨p, cap, rfl, _, _⟩ := Kl.owns_sl h
    refine (Any.slices_Sort_int_none Try.lays189 p cap w).mono fun e w' ⟨he, hw⟩ => ?_
    subst hw
    exact ⟨he, by show w'.ownsRow _ _ _ _ _ _; simpa using h, Below.refl _ _⟩
  · have hp : 0 < L.length := List.length_pos_iff.2 c
    have hv : a ≠ .slice none 0 0 := fun e => by
      rcases h.2 with ⟨_, h0⟩ | ⟨g, cap, cur, e', _⟩
      · omega
      · rw [e] at e'; cases e'
    obtain ⟨g, cap, rfl, h1, h2, h3, h4, _, h5⟩ := holds_of_ownsRow h hv
    refine (Any.slices_Sort_int Try.lays189 g 0 cap L w h5 h2 (by omega)).mono fun e w' hx => ?_
    obtain ⟨he, n, os, hw⟩ := hx
    have hlen : (L.mergeSort fun x y => decide (x ≤ y)).length = L.length := List.length_mergeSort _
    have hbel := Kl.below_put h1 n (L.mergeSort fun x y => decide (x ≤ y)).toArray os hb
    rw [← hw] at hbel
    have ho := ownsRow_putRow (enc := Value.int .i64) (q := n) (k := L.length) h hlen (Nat.le_refl _)
    rw [List.take_of_length_le (by rw [hlen]; exact Nat.le_refl _)] at ho
    refine ⟨he, ?_, hbel⟩
    show w'.ownsRow _ _ _ _ _ _
    rw [hlen, hw]
    exact Kl.owns_bel ho ⟨rfl, rfl, rfl, by show _ ≤ (_ ++ os).size; simp, fun b hb' => by show (_ ++ os)[b]? = _; rw [Array.getElem?_append_left hb']⟩
theorem klCompactO (base : Nat) (a : Value) (L : List Int) (w : World) (h : w.ownsRow base 3 1 a L.length (Kl.ic L)) (hb : base ≤ w.heap.size) :
    Calls Try.prog 22 #[a] w fun e w' => ∃ a', e = .returned a' ∧ Hid (w'.ownsRow base 3 1 a' (compact L).length (Kl.ic (compact L))) ∧ Hid (Below base w w') := by
  by_cases c : L = []
  · subst c
    obtain ⟨p, cap, rfl, _, _⟩ := Kl.owns_sl h
    refine (Any.slices_Compact_int_empty Try.lays20 p cap w).mono fun e w' ⟨he, hw⟩ => ?_
    subst hw
    exact ⟨_, he, by show w'.ownsRow _ _ _ _ _ _; simpa [compact, compactUpTo] using h, Below.refl _ _⟩
  · have hp : 0 < L.length := List.length_pos_iff.2 c
    have hv : a ≠ .slice none 0 0 := fun e => by
      rcases h.2 with ⟨_, h0⟩ | ⟨g, cap, cur, e', _⟩
      · omega
      · rw [e] at e'; cases e'
    obtain ⟨g, cap, rfl, h1, h2, h3, h4, _, h5⟩ := holds_of_ownsRow h hv
    unfold maxLen at h4
    refine (Any.slices_Compact_int Try.lays20 g 0 cap L w h5 (by omega) h3).mono fun e w' hx => ?_
    obtain ⟨he, q, hw⟩ := hx
    have hcl : (compact L).length ≤ L.length := compact_length_le L
    have hbel := Kl.below_put h1 q (compact L ++ List.replicate (L.length - (compact L).length) 0).toArray #[] hb
    rw [grow_empty, ← hw] at hbel
    have ho := ownsRow_putRow (enc := Value.int .i64) (q := q) (k := (compact L).length) (ys := compact L ++ List.replicate (L.length - (compact L).length) 0) h (by simp; omega) hcl
    rw [List.take_left' rfl] at ho
    exact ⟨_, he, by show w'.ownsRow _ _ _ _ _ _; rw [hw]; exact ho, hbel⟩
namespace Kl
/-- what Vars answers, as a row of one's own -/
def VarO (t : Bool) (R : List Int) (w : World) (r : Ending) (w' : World) : Prop :=
  ∃ v, r = .returned (.tuple #[v, .int .i64 (erO t)]) ∧ Hid (w'.ownsRow w.heap.size 3 1 v R.length (ic R)) ∧ Hid (Below w.heap.size w w')
end Kl
set_option maxRecDepth 100000 in
set_option maxHeartbeats 1000000 in
theorem klVarsO (x : Kl.Fv) (w : World) (hx : Kl.Ok w x) (hs : Kl.sz (Kl.ct x) ≤ 131072) : Calls Try.prog 12 #[.agg x.enc.toArray] w (Kl.VarO (Kl.isG (Kl.ct x)) (if Kl.isG (Kl.ct x) then Kl.vr (Kl.ct x) (Kl.gre (Kl.ct x) + 1).toNat else []) w) := by
  have CC := hide' (fun w' (g : Kl.Gr w w') => klCheck x w' (g.ok hx))
  have CG := hide' (fun w' (g : Kl.Gr w w') => klGathered x w.heap.size (.slice none 0 0) [] w' (hx.lt x) g.below.size (by simp; omega) (g.ok hx) (World.ownsRow_nil w' _ _ _))
  rw [Kl.isF_isG _ _ hs] at CC
  have HV := hide' (fun h => Kl.vars_eq (f := Kl.ct x) h)
  have HL := hide' (Nat.le_trans (Kl.gat_len (Kl.ct x)) hs)
  unfold Kl.VarO
  obtain ⟨t, ht⟩ : ∃ t, Kl.isG (Kl.ct x) = t := ⟨_, rfl⟩
  obtain ⟨G, hG⟩ : ∃ G, Kl.gat (Kl.ct x) = G := ⟨_, rfl⟩
  obtain ⟨R, hR⟩ : ∃ R, Kl.vr (Kl.ct x) (Kl.gre (Kl.ct x) + 1).toNat = R := ⟨_, rfl⟩
  simp only [ht, hG, hR, List.nil_append] at CC CG HV HL ⊢
  obtain ⟨xo, xv, xn, xp, xc, xl⟩ := x
  obtain ⟨kx, hkx⟩ : ∃ k, xl.length = k := ⟨_, rfl⟩
  simp only [Kl.Fv.enc, hkx] at CC CG ⊢
  obtain ⟨W, hWd⟩ : ∃ W, w.alloc (.cells #[.int .i64 xo, .int .i64 xv, .int .i64 xn, .slice xp kx xc] 26) = W := ⟨_, rfl⟩
  have HGW : Hid (Kl.Gr w W) := by rw [← hWd]; exact (Kl.Gr.refl _).alloc _
  have HB0 : Hid (W.cell? ⟨w.heap.size, 0, none⟩ = some (.int .i64 xo) ∧ W.cell? ⟨w.heap.size, 1, none⟩ = some (.int .i64 xv) ∧ W.cell? ⟨w.heap.size, 2, none⟩ = some (.int .i64 xn) ∧ W.cell? ⟨w.heap.size, 3, none⟩ = some (.slice xp kx xc)) := by rw [← hWd]; refine ⟨?_, ?_, ?_, ?_⟩ <;> simp
  obtain ⟨g0, g1, g2, g3⟩ := HB0.out
  have HWd := hide' hWd
  clear hx hs ht hG hR hkx hWd HB0
  go_enter Try.func12, Try.ntmps12
  go_wp2_with fail
  rw [HWd.out]
  refine (CC.out W HGW.out).mono ?_
  rintro e w1 ⟨rfl, HG1⟩
  have q0 := HG1.cell g0
  have q1 := HG1.cell g1
  have q2 := HG1.cell g2
  have q3 := HG1.cell g3
  have HG1' := hide' HG1
  clear HG1 g0 g1 g2 g3
  cases t with
  | false =>
    simp only [Kl.erO]
    go_wp2_with fail
    refine bodyPost_ret (v := .tuple #[.slice none 0 0, .int .i64 6]) (by simp [results, Try.results12, go_sem]) rfl ?_
    exact ⟨_, rfl, World.ownsRow_nil _ _ _ _, (HGW.out.trans HG1'.out).below⟩
  | true =>
    simp only [Kl.erO]
    go_wp2_with fail
    refine (CG.out w1 (HGW.out.trans HG1'.out)).mono ?_
    rintro e w2 ⟨a, rfl, HO, HB⟩
    clear q0 q1 q2 q3
    have hz2 : w.heap.size ≤ w2.heap.size := Nat.le_trans (HGW.out.trans HG1'.out).below.size HB.out.size
    have CS := hide' (klSortO w.heap.size a G w2 HO.out hz2 (by have := HL.out; omega))
    clear HO
    go_wp2_with fail
    refine CS.out.mono ?_
    rintro e w3 ⟨rfl, HS, HB3⟩
    have CP := hide' (klCompactO w.heap.size a _ w3 HS.out (Nat.le_trans hz2 HB3.out.size))
    rw [HV.out trivial] at CP
    clear HS CS
    go_wp2_with fail
    refine CP.out.mono ?_
    rintro e w4 ⟨a', rfl, HT, HB4⟩
    clear CP
    go_wp2_with fail
    refine bodyPost_ret (v := .tuple #[a', .int .i64 0]) (by simp [results, Try.results12, go_sem]) rfl ?_
    exact ⟨_, rfl, HT, (((HGW.out.trans HG1'.out).below.trans HB.out).trans HB3.out).trans HB4.out⟩
/-- append that leaves what was there -/
theorem wpList_append_keep {P : Program} {w : World} {ops : Array Oper} {rest : List Oper} {o : Oper} {a : Act} {Q : Exit → Act → World → Prop} (hgd : o.guard = none) (s x : Operand) (t : TypeId)
    (ho : o.op = .call { callee := .builtin .append, args := #[s, x], argTypes := #[t, t] })
    (base : Nat) (e : TypeId) (i : TypeInfo) (z : Value) (bytes : Nat) (ht : P.underlying t = some (.slice e)) (hi : P.info? e = some i) (hz : i.zero = some z)
    (hsize : i.size = 1) (hby : i.bytes = bytes) (hzs : z.cells.size = 1)
    (v : Value) (n : Nat) (xs : List Value) (hs : a.eval s = v) (hown : w.ownsRow base e 1 v n xs)
    (ad : Addr) (m c : Nat) (news : List Value) (hx : a.eval x = .slice (some ad) m c) (hl : news.length = m * 1) (hnews : ∀ j u, news[j]? = some u → w.cell? (ad.add j) = some u) (h1 : ∀ u ∈ news, u.oneCell' = true)
    (h63 : n + m ≤ maxLen) (hbytes : (n + m) * bytes ≤ 140737488355328) (hbase : base ≤ w.heap.size)
    (h : ∀ v' w', w'.ownsRow base e 1 v' (n + m) (xs ++ news) → w.grownBy w' v.ownBlock → w'.ownsRow base e 1 v n xs → (v'.ownBlock = v.ownBlock ∨ v'.ownBlock = some w.heap.size) → wpList P ops Q rest (a.put o.dst v') w') :
    wpList P ops Q (o :: rest) a w := by
  refine wpList_plain hgd fun K hK => ?_
  have hr' := run_append_own_at (P := P) w base t o.type e i z 1 bytes ht hi hz hsize hby hzs (by omega) v n xs hown ad m c news hl hnews h1 h63 hbytes hbase
  obtain ⟨v', w', hr, h2, h3, _, h5⟩ := hr'
  have hkeep : w'.ownsRow base e 1 v n xs := by
    rcases hown.2 with ⟨rfl, rfl⟩ | ⟨g, cap, cur, rfl, hbg, hg, hnc, hcm, hcs, htake⟩
    · have hx0 : xs = [] := List.eq_nil_of_length_eq_zero (by simpa using hown.1)
      subst hx0
      exact World.ownsRow_nil _ _ _ _
    · by_cases hroom : n + m ≤ cap
      · obtain ⟨w2, hr2, o2, _⟩ := run_append_fits (P := P) w base t o.type e i 1 ht hi hsize g n cap xs hown ad m c news hl hnews h1 hroom
        rw [hr] at hr2
        cases hr2
        refine ⟨hown.1, .inr ?_⟩
        rcases o2.2 with ⟨e0, _⟩ | ⟨g', cap', cur', e0, q1, q2, q3, q4, q5, q6⟩
        · cases e0
        · cases e0
          refine ⟨g, cap, cur', rfl, q1, q2, by omega, q4, q5, ?_⟩
          have := congrArg (List.take (n * 1)) q6
          rw [List.take_take, Nat.min_eq_left (by omega), List.take_left' (by rw [hown.1])] at this
          exact this
      · obtain ⟨v2, w2, hr2, _, g2⟩ := run_append_arg_grows (P := P) w t o.type e i z 1 bytes ht hi hz hsize hby hzs (by omega) ⟨g, 0, none⟩ n cap xs hown.1 (hown.cells (g := g) rfl) ad m c news hl hnews (by omega) h63 hbytes
        rw [hr] at hr2
        cases hr2
        exact hown.kept g2 (.inr (by simp [Value.ownBlock]))
  unfold Oper.wp execOp
  simp only [ho, resolve, invoke, builtin, Sem.run_bind, Sem.run_pure, Result.andThen_ok, List.map_toArray, List.map_cons, List.map_nil, hs, hx, hr]
  exact hK _ _ (h v' w' h2 h3 hkeep h5)
end Go.Proofs.Ytmpmlccomgepjaa
