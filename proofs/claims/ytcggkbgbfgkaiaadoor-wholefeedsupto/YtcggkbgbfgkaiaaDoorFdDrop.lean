/-
  THE WALK over feed's drop.
-/
import Derived.Test.YtcggkbgbfgkaiaaDoorFdNx
import Derived.Laws.CopyOwn
namespace Go.Proofs.YtcggkbgbfgkaiaaDoor
open Go.RowKit Go.Lib

/-- nothing but the Feed's block and the row of its bytes has changed -/
structure ButF (D : Nat) (v : Value) (w w' : World) : Prop where
  os : w'.os = w.os
  tape : w'.tape = w.tape
  output : w'.output = w.output
  size : w.heap.size ≤ w'.heap.size
  block : ∀ k, k < w.heap.size → k ≠ D → v.ownBlock ≠ some k → w'.heap[k]? = w.heap[k]?
theorem ButF.of_but {D : Nat} {v : Value} {w w' : World} (h : But D w w') : ButF D v w w' := ⟨h.os, h.tape, h.output, h.size, fun k hk hn _ => h.block k hk hn⟩
theorem ButF.of_below {D : Nat} {v : Value} {w w' : World} (h : Below w.heap.size w w') : ButF D v w w' := .of_but (.of_below h)
theorem ButF.refl (D : Nat) (v : Value) (w : World) : ButF D v w w := .of_below (Below.refl _ _)
theorem ButF.trans {D : Nat} {v : Value} {a b c : World} (h : ButF D v a b) (k : ButF D v b c) : ButF D v a c :=
  ⟨k.os.trans h.os, k.tape.trans h.tape, k.output.trans h.output, Nat.le_trans h.size k.size, fun i hi hn hv => (k.block i (Nat.lt_of_lt_of_le hi h.size) hn hv).trans (h.block i hi hn hv)⟩
/-- the row may have moved to a new block -/
theorem ButF.trans_new {D : Nat} {v v' : Value} {a b c : World} (h : ButF D v a b) (k : ButF D v' b c) (hv' : ∀ q, v'.ownBlock = some q → v.ownBlock = some q ∨ a.heap.size ≤ q) : ButF D v a c :=
  ⟨k.os.trans h.os, k.tape.trans h.tape, k.output.trans h.output, Nat.le_trans h.size k.size, fun i hi hn hv => (k.block i (Nat.lt_of_lt_of_le hi h.size) hn (fun e => by rcases hv' i e with e1 | e1; exact hv e1; omega)).trans (h.block i hi hn hv)⟩
theorem ButF.setRow {D : Nat} {v : Value} {w w' : World} (h : ButF D v w w') {q : Nat} (hq : v.ownBlock = some q) (cs : Array Value) : ButF D v w (w'.setRow q cs) :=
  h.trans ⟨rfl, rfl, rfl, by simp [World.setRow], fun k _ _ hv => setRow_other w' q k cs (fun e => hv (by rw [e]; exact hq))⟩
theorem ButF.setCell {D : Nat} {v : Value} {w w' : World} {p : Addr} (h : ButF D v w w') (hp : p.block = D) (u : Value) : ButF D v w (w'.setCell p u) :=
  h.trans (.of_but ((But.of_below (Below.refl _ _)).setCell hp u))
theorem ButF.drew {D : Nat} {v : Value} {w w' : World} (h : ButF D v w w') : ButF D v w w'.drew := ⟨h.os, h.tape, h.output, h.size, h.block⟩
theorem ButF.drewN {D : Nat} {v : Value} {w w' : World} (h : ButF D v w w') (m : Nat) : ButF D v w (w'.drewN m) := ⟨h.os, h.tape, h.output, h.size, h.block⟩

/-- copy into a row, as one step of a region that draws its order; the world behind it told outright -/
theorem step_copy_row {P : Program} {ops : Array Oper} {o : Oper} {a : Act} {w : World} {K : Act → World → Prop} {Q : Exit → Act → World → Prop} {E : Prop} (hgd : o.guard = none) (d s : Operand) (dT sT : TypeId)
    (ho : o.op = .call { callee := .builtin .copy, args := #[d, s], argTypes := #[dT, sT] }) (elem : TypeId) (hu : P.underlying dT = some (.slice elem)) (hsz : (P.info? elem).map (·.size) = some 1)
    (g off dLen dCap : Nat) (ad : Addr) (sLen sCap : Nat) (hd : a.eval d = .slice (some ⟨g, off, none⟩) dLen dCap) (hs : a.eval s = .slice (some ad) sLen sCap)
    (cur : Array Value) (t : TypeId) (hg : w.heap[g]? = some (.cells cur t (0, 0))) (cs : List Value) (hn : cs.length = Nat.min sLen dLen)
    (hsrc : ∀ j v, cs[j]? = some v → w.cell? (ad.add j) = some v) (hfit : off + cs.length ≤ cur.size) (h1 : ∀ v ∈ cs, v.oneCell' = true)
    (h : ∀ w', Hid (w' = w.setRow g (cur.toList.take off ++ (cs ++ cur.toList.drop (off + cs.length))).toArray) → K (a.put o.dst (goInt cs.length)) w') :
    if Region.wanted o (yielded ops a.tmps) = true then Oper.wp P o a w K Q else E := by
  have hw : Region.wanted o (yielded ops a.tmps) = true := by simp [Region.wanted, hgd]
  rw [if_pos hw]
  have hrun := run_copy_row (P := P) w dT sT o.type elem g off dLen dCap ad sLen sCap cur t cs hu hsz hg hn hsrc hfit h1
  unfold Oper.wp
  simp [execOp, ho, resolve, invoke, builtin, hd, hs, hrun, Result.andThen]
  exact h _ (show _ = _ from rfl)

section
variable {D B : Nat} {v : Value} {g : Nat → Nat} {n k wh pb pr pl pc : Nat} {bad ended : Bool} {w : World}

set_option maxHeartbeats 400000 in
/-- fewer were taken than are left: nothing is given up -/
theorem feedDrop_few (h : FeedAt w D B v g n k wh pb pr pl pc bad ended) (hk : k ≤ n) (hm : n ≤ 4611686018427387904) (hlt : k < n - k) :
    Calls Tryd.prog 31 #[.pointer (some ⟨D, 0, none⟩)] w fun e w' => e = .returned (.tuple #[]) ∧ Below w.heap.size w w' := by
  rcases owns_row h.2 with ⟨rfl, rfl⟩ | ⟨q, cap, rfl, hq1, hq2, hc, hm, hby⟩
  · omega
  obtain ⟨c0, c1, -, -, -, -, -, -, -⟩ := h.cell
  have i1 : (k : Int) < (n : Int) - (k : Int) := by omega
  clear h hby
  go_enter Tryd.func31, Tryd.ntmps31
  go_wp2
  go_quiet (fail)
  go_wp2
  first | go_end0 | (simp only [Exit.inBlock, Exit.then]; refine bodyPost_ret (results_none rfl _ _ _) rfl ?_) | refine bodyPost_ret (results_none rfl _ _ _) rfl ?_
  exact ⟨rfl, below_drewN (Below.refl _ _) _⟩

set_option maxHeartbeats 1000000 in
theorem feedDrop_nil (h : FeedAt w D B (.slice none 0 0) g 0 0 0 pb pr pl pc bad ended) :
    Calls Tryd.prog 31 #[.pointer (some ⟨D, 0, none⟩)] w fun e w' => e = .returned (.tuple #[]) ∧ FeedAt w' D B (.slice none 0 0) g 0 0 0 pb pr pl pc bad ended ∧ But D w w' := by
  obtain ⟨c0, c1, c2, -, -, -, -, -, -⟩ := h.cell
  have f0 := h.fz 0
  have f1 := h.fz 1
  have f2 := h.fz 2
  have H := hide' h
  clear h
  have hcp := fun W : World => run_copy_none (P := Tryd.prog) W 22 22 3 5 none none 0 0 0 0 Tryd.underlying22 (by kernel_rfl) rfl
  go_enter Tryd.func31, Tryd.ntmps31
  go_wp2
  go_quiet (fail)
  go_wp2
  go_region
  go_wp2
  go_region
  go_wp2
  go_end0
  exact ⟨rfl, ⟨Go.Joins.block_setCell (i := 1) (Go.Joins.block_setCell (i := 2) (Go.Joins.block_setCell (i := 0) (w := w.drewN (nq + 1)) H.out.1 _) _) _, World.ownsRow_nil _ _ _ _⟩,
    ((((But.of_below (below_drewN (Below.refl _ _) _)).setCell (p := ⟨D, 0, none⟩) rfl _).setCell (p := ⟨D, 2, none⟩) rfl _).setCell (p := ⟨D, 1, none⟩) rfl _).then (Below.refl _ _).drew⟩

/-- how the Feed lies behind drop -/
theorem drop_end {W : World} {q cap m x : Nat} {y : Int} {v0 : Value} {cur : Array Value} (hD : W.heap[D]? = some (.cells #[v0, .int .i64 k, .int .i64 wh, .int .i64 pb, .int .i64 pr, .int .i64 pl, .int .i64 pc, .bool bad, .bool ended] 77 (0, 0)))
    (hq : W.heap[q]? = some (.cells cur 5 (0, 0))) (hcur : cur.size = cap) (ht : cur.toList.take m = xs g m) (hmc : m ≤ cap) (hcm : cap ≤ maxLen) (hB : B ≤ q) (hDq : ¬ D = q) (hy : y = (x : Int)) :
    FeedAt (((W.setCell ⟨D, 0, none⟩ (.slice (some ⟨q, 0, none⟩) m cap)).setCell ⟨D, 2, none⟩ (.int .i64 y)).setCell ⟨D, 1, none⟩ (.int .i64 0)).drew D B (.slice (some ⟨q, 0, none⟩) m cap) g m 0 x pb pr pl pc bad ended := by
  subst hy
  have hr : W.ownsRow B 5 1 (.slice (some ⟨q, 0, none⟩) m cap) m (xs g m) := ⟨by rw [xs_length, Nat.mul_one], .inr ⟨q, cap, cur, rfl, hB, hq, hmc, hcm, by omega, by rw [Nat.mul_one]; exact ht⟩⟩
  have hn : (Value.slice (some ⟨q, 0, none⟩) m cap).ownBlock ≠ some D := fun e => hDq (Option.some.inj e).symm
  exact FeedAt.below ⟨Go.Joins.block_setCell (i := 1) (Go.Joins.block_setCell (i := 2) (Go.Joins.block_setCell (i := 0) hD _) _) _, ((hr.setOther hn _).setOther hn _).setOther hn _⟩ (Below.refl _ _).drew

set_option maxHeartbeats 1000000 in
/-- what was taken is given up -/
theorem feedDrop_row (q cap : Nat) (h : FeedAt w D B (.slice (some ⟨q, 0, none⟩) n cap) g n k wh pb pr pl pc bad ended) (hk : k ≤ wh) (hwh : wh ≤ n) (hc : n ≤ cap) (hm : cap ≤ maxLen) (hge : n - k ≤ k) :
    Calls Tryd.prog 31 #[.pointer (some ⟨D, 0, none⟩)] w fun e w' => e = .returned (.tuple #[]) ∧ FeedAt w' D B (.slice (some ⟨q, 0, none⟩) (n - k) cap) (Rn.off g k) (n - k) 0 (wh - k) pb pr pl pc bad ended ∧ ButF D (.slice (some ⟨q, 0, none⟩) n cap) w w' := by
  have hby := bytes_of_owns h.2
  have hm' : cap ≤ 9223372036854775807 := by unfold maxLen at hm; omega
  obtain ⟨cur, hq, hcur, htk⟩ : ∃ cur : Array Value, w.heap[q]? = some (.cells cur 5 (0, 0)) ∧ cur.size = cap ∧ B ≤ q := by
    rcases h.2.2 with ⟨h1, _⟩ | ⟨q', cap', cur, hv, hb, hg, h2, h3, h4, h5⟩
    · cases h1
    · cases hv
      exact ⟨cur, hg, by omega, hb⟩
  have hDq : ¬ D = q := fun e => h.block_ne (by rw [e]; rfl)
  obtain ⟨c0, c1, c2, -, -, -, -, -, -⟩ := h.cell
  have f0 := h.fz 0
  have f1 := h.fz 1
  have f2 := h.fz 2
  have H := hide' h
  clear h
  obtain ⟨cs, hcs⟩ : ∃ cs, cs = xs (Rn.off g k) (n - k) := ⟨_, rfl⟩
  have hl : cs.length = n - k := by rw [hcs, xs_length]
  have h1 : ∀ u ∈ cs, u.oneCell' = true := by rw [hcs]; exact one_cell _ _
  have hsrc : ∀ W : World, W.heap[q]? = w.heap[q]? → ∀ j u, cs[j]? = some u → W.cell? (Addr.add ⟨q, k, none⟩ j) = some u := by
    intro W hW j u hu
    rw [hcs] at hu
    obtain ⟨hj, rfl⟩ := xs_get _ _ _ _ hu
    have := hby (k + j) (by omega)
    rw [show Addr.add ⟨q, k, none⟩ j = ⟨q, k + j, none⟩ by simp [Addr.add], World.cell?_of_block (w := w) hW]
    rw [Nat.zero_add] at this
    exact this
  have HCS := hide' hcs
  clear hcs hby
  have i1 : ¬ (k : Int) < (n : Int) - (k : Int) := by omega
  have i2 : (k : Int) ≤ n := by omega
  have i3 : (0 : Int) ≤ (k : Int) := by omega
  have hnil : ∀ (W : World) (a : Option Addr) (m : Nat), Sem.run Tryd.prog (Builtin.copy_ #[22, 22] 3 #[.slice (some ⟨q, 0, none⟩) n cap, .slice a 0 m]) W = .ok (goInt 0) W := fun W a m => run_copy_none (P := Tryd.prog) W 22 22 3 5 (some ⟨q, 0, none⟩) a n cap 0 m Tryd.underlying22 (by kernel_rfl) (by simp)
  by_cases hkn : k = n
  · subst hkn
    have hd0 : decide ((k : Int) < 0) = false := by simp
    have hwk : wh = k := by omega
    subst hwk
    clear hl hsrc h1 HCS cs
    by_cases hck : cap = wh
    · subst hck
      go_enter Tryd.func31, Tryd.ntmps31
      go_wp2
      go_quiet (fail)
      go_wp2
      go_region
      go_wp2
      go_region
      go_wp2
      go_end0
      refine ⟨rfl, ?_, ((((ButF.refl _ _ _).drewN _).setCell (p := ⟨D, 0, none⟩) rfl _).setCell (p := ⟨D, 2, none⟩) rfl _).setCell (p := ⟨D, 1, none⟩) rfl _ |>.drew⟩
      rw [Nat.sub_self]
      exact drop_end (W := w.drewN (nq + 1)) (x := 0) H.out.1 hq hcur (by simp [xs]) (by omega) hm htk hDq rfl
    · have i4 : ¬ cap - wh = 0 := by omega
      go_enter Tryd.func31, Tryd.ntmps31
      go_wp2
      go_quiet (fail)
      go_wp2
      go_region
      go_wp2
      go_region
      go_wp2
      go_end0
      refine ⟨rfl, ?_, ((((ButF.refl _ _ _).drewN _).setCell (p := ⟨D, 0, none⟩) rfl _).setCell (p := ⟨D, 2, none⟩) rfl _).setCell (p := ⟨D, 1, none⟩) rfl _ |>.drew⟩
      rw [Nat.sub_self]
      exact drop_end (W := w.drewN (nq + 1)) (x := 0) H.out.1 hq hcur (by simp [xs]) (by omega) hm htk hDq rfl
  · have i4 : ¬ cap - k = 0 := by omega
    have i5 : ¬ cap = k := by omega
    have hq' : ∀ m, (w.drewN m).drew.heap[q]? = some (.cells cur 5 (0, 0)) := fun m => hq
    go_enter Tryd.func31, Tryd.ntmps31
    go_wp2
    go_quiet (fail)
    go_wp2
    have g0 : (w.drewN nq).drew.cell? ⟨D, 0, none⟩ = some (.slice (some ⟨q, 0, none⟩) n cap) ∧ (w.drewN nq).drew.cell? ⟨D, 1, none⟩ = some (.int .i64 k) := ⟨c0, c1⟩
    go_region_held3 (fun w' => w'.cell? ⟨D, 0, none⟩ = some (.slice (some ⟨q, 0, none⟩) n cap) ∧ w'.cell? ⟨D, 1, none⟩ = some (.int .i64 k)) (first | (with_reducible exact g0) | (with_reducible exact g1))
      (first | (refine step_copy_row rfl (.tmp 21) (.tmp 30) 22 22 rfl 5 Tryd.underlying22 (by kernel_rfl) q 0 n cap ⟨q, k, none⟩ (n - k) (cap - k) rfl rfl cur 5 (hq' _) cs (by rw [hl]; exact (Nat.min_eq_left (by omega)).symm) (hsrc _ rfl) (by omega) h1 ?_; intro W2 hW2; have g1 : W2.cell? ⟨D, 0, none⟩ = some (.slice (some ⟨q, 0, none⟩) n cap) ∧ W2.cell? ⟨D, 1, none⟩ = some (.int .i64 k) := (by rw [hW2.out]; exact ⟨(World.cell?_of_block (setRow_other _ q D _ hDq)).trans c0, (World.cell?_of_block (setRow_other _ q D _ hDq)).trans c1⟩)))
    have hD2 : W2.heap[D]? = some (.cells #[.slice (some ⟨q, 0, none⟩) n cap, .int .i64 k, .int .i64 wh, .int .i64 pb, .int .i64 pr, .int .i64 pl, .int .i64 pc, .bool bad, .bool ended] 77 (0, 0)) := by rw [hW2.out]; exact (setRow_other _ q D _ hDq).trans H.out.1
    have x0 : W2.cell? ⟨D, 0, none⟩ = some (.slice (some ⟨q, 0, none⟩) n cap) := by rw [Lib.cell_of_heap hD2]; rfl
    have x1 : W2.cell? ⟨D, 1, none⟩ = some (.int .i64 k) := by rw [Lib.cell_of_heap hD2]; rfl
    have x2 : W2.cell? ⟨D, 2, none⟩ = some (.int .i64 wh) := by rw [Lib.cell_of_heap hD2]; rfl
    have z0 : W2.frozen? ⟨D, 0, none⟩ = false := Lib.frozen_of_heap hD2 0
    have z1 : W2.frozen? ⟨D, 1, none⟩ = false := Lib.frozen_of_heap hD2 1
    have z2 : W2.frozen? ⟨D, 2, none⟩ = false := Lib.frozen_of_heap hD2 2
    have HD2 := hide' hD2
    have j1 : (0 : Int) ≤ ((n - k : Nat) : Int) := by omega
    have j2 : ((n - k : Nat) : Int) ≤ cap := by omega
    have j3 : IntKind.i64.wrap ((wh : Int) - (k : Int)) = (wh : Int) - (k : Int) := by rw [IntKind.wrap_i64]; omega
    clear hD2 g0 g1 hsrc h1 hq' c0 c1 c2 f0 f1 f2
    go_wp2
    go_region
    go_wp2
    go_end0
    have hb2 : ButF D (.slice (some ⟨q, 0, none⟩) n cap) w W2 := by
      rw [hW2.out]
      exact (((ButF.refl _ _ _).drewN nq).drew).setRow rfl _
    refine ⟨rfl, ?_, (((hb2.setCell (p := ⟨D, 0, none⟩) rfl _).setCell (p := ⟨D, 2, none⟩) rfl _).setCell (p := ⟨D, 1, none⟩) rfl _).drew⟩
    have hq2 : W2.heap[q]? = some (.cells (cur.toList.take 0 ++ (cs ++ cur.toList.drop (0 + cs.length))).toArray 5 (0, 0)) := by
      rw [hW2.out]
      exact setRow_heap _ q cur _ _ _ hq
    refine drop_end (x := wh - k) HD2.out hq2 (by simp; omega) ?_ (by omega) hm htk hDq (by omega)
    rw [← HCS.out]
    simp [← hl]
end
end Go.Proofs.YtcggkbgbfgkaiaaDoor
