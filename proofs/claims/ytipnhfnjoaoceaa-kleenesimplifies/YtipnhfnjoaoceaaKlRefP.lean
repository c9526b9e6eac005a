/-
  THE WALK over gimletref14.put (gen_put.py).
-/
import Derived.Test.YtipnhfnjoaoceaaKlRefC
import Derived.Test.YtipnhfnjoaoceaaKlTwin
import Derived.Test.YtipnhfnjoaoceaaKlRsM
import Derived.BigGuard
namespace Go.Proofs.Ytipnhfnjoaoceaa
open Go.RowKit Go.Lib Go.Sort
namespace Kl
/-- put, of formulas in memory -/
def putV (f : Fv) : List Fv → List Fv
  | [] => [f]
  | g :: l => if cmpF (ct f) (ct g) < 0 then f :: g :: l else if cmpF (ct f) (ct g) = 0 then g :: l else g :: putV f l
theorem putV_ct (f : Fv) : ∀ l : List Fv, (putV f l).map ct = put (ct f) (l.map ct)
  | [] => rfl
  | g :: l => by
    rw [putV, List.map_cons, put]
    split
    · rfl
    · split
      · rfl
      · rw [List.map_cons, putV_ct f l]
theorem putV_mem (f : Fv) : ∀ (l : List Fv) (x : Fv), x ∈ putV f l → x = f ∨ x ∈ l
  | [], x, h => by simp [putV] at h; exact .inl h
  | g :: l, x, h => by
    rw [putV] at h
    split at h
    · rcases List.mem_cons.1 h with e | e
      · exact .inl e
      · exact .inr e
    · split at h
      · exact .inr h
      · rcases List.mem_cons.1 h with e | e
        · exact .inr (by rw [e]; simp)
        · rcases putV_mem f l x e with k | k
          · exact .inl k
          · exact .inr (List.mem_cons_of_mem _ k)
theorem putV_len (f : Fv) : ∀ l : List Fv, (putV f l).length ≤ l.length + 1
  | [] => by simp [putV]
  | g :: l => by
    have := putV_len f l
    rw [putV]
    split
    · simp
    · split
      · simp
      · simp; omega
/-- where put is behind i formulas -/
structure Pu (w : World) (f : Fv) (Q : List Fv) (i : Nat) (d : Bool) (O : List Fv) (a : Value) (wr : World) : Prop where
  row : OR wr a O
  con : putV f Q = O ++ (if d then Q.drop i else putV f (Q.drop i))
  len : O.length ≤ i + (if d then 1 else 0)
  own : ∀ b, a.ownBlock = some b → w.heap.size ≤ b
  bel : Below w.heap.size w wr
theorem Pu.grow {w : World} {f : Fv} {Q : List Fv} {i : Nat} {d : Bool} {O : List Fv} {a : Value} {wr w1 : World} (h : Pu w f Q i d O a wr) (hb : Below wr.heap.size wr w1) : Pu w f Q i d O a w1 :=
  ⟨h.row.keep fun b _ hl => hb.block b hl, h.con, h.len, h.own, h.bel.trans (hb.mono h.bel.size)⟩
theorem OR.lt {w : World} {v : Value} {l : List Fv} (h : OR w v l) {g : Nat} (hg : v.ownBlock = some g) : g < w.heap.size := by
  rcases h with ⟨rfl, _⟩ | ⟨g', cap, rfl, hr⟩
  · cases hg
  · cases hg; exact hr.lt
/-- an append to it -/
theorem Pu.app {w : World} {f : Fv} {Q : List Fv} {i j : Nat} {d d' : Bool} {O P : List Fv} {a a' : Value} {wr w2 : World} (h : Pu w f Q i d O a wr) (ap : OR w2 a' (O ++ P)) (gb : wr.grownBy w2 a.ownBlock) (hat : a'.ownBlock = a.ownBlock ∨ a'.ownBlock = some wr.heap.size)
    (hc : putV f Q = (O ++ P) ++ (if d' then Q.drop j else putV f (Q.drop j))) (hl : (O ++ P).length ≤ j + (if d' then 1 else 0)) : Pu w f Q j d' (O ++ P) a' w2 := by
  refine ⟨ap, hc, hl, fun b hb => ?_, h.bel.trans ⟨gb.os, gb.tape, gb.output, gb.size, fun k hk => gb.block k (Nat.lt_of_lt_of_le hk h.bel.size) fun c => ?_⟩⟩
  · rcases hat with c | c
    · exact h.own b (c ▸ hb)
    · rw [c] at hb; cases hb; exact h.bel.size
  · have := h.own k c.symm; omega
theorem drop_some {Q : List Fv} {i : Nat} {g : Fv} (h : Q[i]? = some g) : Q.drop i = g :: Q.drop (i + 1) := by
  rw [List.drop_eq_getElem_cons (List.getElem?_eq_some_iff.1 h).1, (List.getElem?_eq_some_iff.1 h).2]
end Kl
set_option maxRecDepth 100000 in
set_option maxHeartbeats 8000000 in
theorem klPut (x : Kl.Fv) (v : Value) (Q : List Kl.Fv) (w : World) (hx : Kl.Ok w x) (hv : Kl.Src w v Q) (hq : ∀ y ∈ Q, Kl.Ok w y) (hn : Q.length ≤ 1048576) :
    Calls Try.prog 67 #[v, .agg x.enc.toArray] w fun r w' => ∃ p c, r = .returned (.slice p (Kl.putV x Q).length c) ∧ Hid (Kl.OR w' (.slice p (Kl.putV x Q).length c) (Kl.putV x Q)) ∧ Hid (∀ b, (Value.slice p (Kl.putV x Q).length c).ownBlock = some b → w.heap.size ≤ b) ∧ Hid (Below w.heap.size w w') := by
  obtain ⟨pq, cq, rfl, hcl⟩ : ∃ p c, v = .slice p Q.length c ∧ ∀ i y, Q[i]? = some y → ∃ b o, p = some ⟨b, o, none⟩ ∧ w.rangeAt b (o + i * 4) y.enc := by
    rcases hv with ⟨rfl, rfl⟩ | ⟨b, o, c, rfl, h⟩
    · exact ⟨none, 0, rfl, fun i y h => by simp at h⟩
    · exact ⟨_, c, rfl, fun i y hy => ⟨b, o, rfl, h i y hy⟩⟩
  obtain ⟨k1, hk1⟩ : ∃ k, Q.length = k := ⟨_, rfl⟩
  obtain ⟨R, hR⟩ : ∃ R, Kl.putV x Q = R := ⟨_, rfl⟩
  have CC := hide' (fun y (hy : y ∈ Q) w' (g : Below w.heap.size w w') => klRefCmp x y w' (hx.below g) ((hq y hy).below g))
  have HR := hide' hR
  rw [hR, hk1]
  have HN : Hid (k1 ≤ 1048576) := by show k1 ≤ _; rw [← hk1]; exact hn
  have K1 := hide' hk1
  have HCL := hide' hcl
  obtain ⟨X0, hX0⟩ : ∃ X : Kl.Fv, X = x := ⟨_, rfl⟩
  have HXX := hide' hX0
  obtain ⟨xo, xv, xn, xp, xc, xl⟩ := x
  obtain ⟨kx, hkx⟩ : ∃ k, xl.length = k := ⟨_, rfl⟩
  have HXE : Hid (X0.enc = [.int .i64 xo, .int .i64 xv, .int .i64 xn, .slice xp kx xc]) := by show X0.enc = _; rw [hX0]; simp only [Kl.Fv.enc, hkx]
  rw [← hX0] at CC HR
  rw [show (Kl.Fv.mk xo xv xn xp xc xl).enc.toArray = #[.int .i64 xo, .int .i64 xv, .int .i64 xn, .slice xp kx xc] by simp only [Kl.Fv.enc, hkx]]
  simp only [HXE.out] at CC
  obtain ⟨W, hWd⟩ : ∃ W, w.alloc (.cells #[.int .i64 xo, .int .i64 xv, .int .i64 xn, .slice xp kx xc] 37) = W := ⟨_, rfl⟩
  have HBW : Hid (Below w.heap.size w W) := by rw [← hWd]; exact (Below.refl _ _).alloc (Nat.le_refl _) _
  have HZ : Hid (W.heap.size = w.heap.size + 1) := by show W.heap.size = _; rw [← hWd]; simp
  have HJ : Hid (W.cell? ⟨w.heap.size, 0, none⟩ = some (.int .i64 xo) ∧ W.cell? ⟨w.heap.size, 1, none⟩ = some (.int .i64 xv) ∧ W.cell? ⟨w.heap.size, 2, none⟩ = some (.int .i64 xn) ∧ W.cell? ⟨w.heap.size, 3, none⟩ = some (.slice xp kx xc)) := by rw [← hWd]; refine ⟨?_, ?_, ?_, ?_⟩ <;> simp
  have HUP : Hid (∀ w', Below W.heap.size W w' → Below w.heap.size w w') := fun w' h => HBW.out.trans (h.mono HBW.out.size)
  have HWd := hide' hWd
  clear hx hv hq hn hcl hk1 hR hX0 hkx hWd HXX
  go_enter Try.func67, Try.ntmps67
  go_wp2_with fail
  rw [HWd.out]
  have hkn := HN.out
  go_loopw [5, 6, 12] (fun a d u wr => ∃ (i : Nat) (D : Bool) (O : List Kl.Fv), u = .int .i64 i ∧ i ≤ k1 ∧ d = .bool D ∧ Hid (Kl.Pu W X0 Q i D O a wr)) (fun _ _ u _ => k1 - (RowKit.intOf u).toNat)
  case atStart => exact ⟨0, false, [], rfl, Nat.zero_le _, rfl, ⟨.inl ⟨rfl, rfl⟩, by simp, by simp, (fun b hb => by cases hb), Below.refl _ _⟩⟩
  case round =>
    obtain ⟨i, D, O, rfl, hi, rfl, HP⟩ := hrel
    obtain ⟨pa, ca, hf, la1, la2⟩ := HP.out.row.form
    subst hf
    obtain ⟨ka, hka⟩ : ∃ k, O.length = k := ⟨_, rfl⟩
    have HKA := hide' hka
    have HLN : Hid (ka ≤ i + (if D then 1 else 0)) := by have := HP.out.len; rw [hka] at this; exact this
    have HLT : Hid (∀ g, (Value.slice pa ka ca).ownBlock = some g → g < wr.heap.size) := fun g hg => HP.out.row.lt (by rw [hka]; exact hg)
    rw [hka] at la1 HP
    simp only [hka]
    clear hka
    have hzw : W.heap.size ≤ wr.heap.size := HP.out.bel.size
    have hwz : w.heap.size < W.heap.size := by rw [HZ.out]; omega
    by_cases hlt : i < k1
    · have t1 : (i : Int) < (k1 : Int) := by omega
      obtain ⟨y, hy⟩ := Kl.some_of (l := Q) (i := i) (by rw [K1.out]; exact hlt)
      obtain ⟨b, o1, rfl, ry⟩ := HCL.out i y hy
      have HY := hide' hy
      have HDS := hide' (Kl.drop_some hy)
      have CC2 := hide' (CC.out y (List.mem_of_getElem? hy))
      obtain ⟨z, hz⟩ : ∃ z, Kl.cmpF (Kl.ct X0) (Kl.ct y) = z := ⟨_, rfl⟩
      rw [hz] at CC2
      have HZC := hide' hz
      obtain ⟨Y0, hY0⟩ : ∃ Y : Kl.Fv, Y = y := ⟨_, rfl⟩
      rw [← hY0] at HZC HY HDS
      obtain ⟨yo, yv, yn, yp, yc, yl⟩ := y
      obtain ⟨ky, hky⟩ : ∃ k, yl.length = k := ⟨_, rfl⟩
      have HYE : Hid (Y0.enc = [.int .i64 yo, .int .i64 yv, .int .i64 yn, .slice yp ky yc]) := by show Y0.enc = _; rw [hY0]; simp only [Kl.Fv.enc, hky]
      obtain ⟨a0, a1, a2, a3⟩ := Kl.cells4 ry
      have hcr : ∀ {a : Addr} {u : Value}, w.cell? a = some u → wr.cell? a = some u := fun {a u} h => ((HUP.out _ HP.out.bel).cell (p := a) (block_lt_of_cell h)).trans h
      have q0 := hcr a0
      have q1 := hcr a1
      have q2 := hcr a2
      have q3 := hcr a3
      simp only [Kl.Fv.enc, hky] at CC2 q3
      obtain ⟨j0, j1, j2, j3⟩ := HJ.out
      have hcj : ∀ {j : Nat} {u : Value}, W.cell? ⟨w.heap.size, j, none⟩ = some u → wr.cell? ⟨w.heap.size, j, none⟩ = some u := fun {j u} h => (HP.out.bel.cell (p := ⟨w.heap.size, j, none⟩) hwz).trans h
      have e0 := hcj j0
      have e1 := hcj j1
      have e2 := hcj j2
      have e3 := hcj j3
      have hzz : w.heap.size < wr.heap.size := Nat.lt_of_lt_of_le hwz hzw
      clear hy hY0 hky ry hcr a0 a1 a2 a3 hz hcj j0 j1 j2 j3 CC HCL
      go_wp2_with fail
      refine (CC2.out _ (HUP.out _ (HP.out.bel.trans (((Below.refl wr.heap.size wr).alloc (Nat.le_refl _) _).mono HP.out.bel.size)))).mono ?_
      rintro r w2 ⟨rfl, HG2⟩
      have ho : ∀ ob : Obj, Kl.Gr wr (wr.alloc ob) := fun ob => (Kl.Gr.refl wr).alloc ob
      have f0 := HG2.cell ((ho _).cell e0)
      have f1 := HG2.cell ((ho _).cell e1)
      have f2 := HG2.cell ((ho _).cell e2)
      have f3 := HG2.cell ((ho _).cell e3)
      have g0 := HG2.cell (p := ⟨wr.heap.size, 0, none⟩) (v := .int .i64 yo) (by simp)
      have g1 := HG2.cell (p := ⟨wr.heap.size, 1, none⟩) (v := .int .i64 yv) (by simp)
      have g2 := HG2.cell (p := ⟨wr.heap.size, 2, none⟩) (v := .int .i64 yn) (by simp)
      have g3 := HG2.cell (p := ⟨wr.heap.size, 3, none⟩) (v := .slice yp ky yc) (by simp)
      have HP2 := hide' (HP.out.grow (((ho _).trans HG2).below))
      have hz2 : wr.heap.size < w2.heap.size := by have := HG2.below.size; simp at this; omega
      clear e0 e1 e2 e3 q0 q1 q2 q3 ho HG2 CC2 HP
      have h9 : z < 0 ∨ z = 0 ∨ 0 < z := by omega
      cases D with
      | true =>
        rcases h9 with hz9 | hz9 | hz9
        · have hln : ka ≤ i + 1 := HLN.out
          have b0 : (z == 0) = false := by simp; omega
          have HZ9 := hide' hz9
          go_wp2_with (first | (at_builtin; refine Kl.wpList_app rfl (.tmp 31) (.tmp 33) rfl (.slice pa ka ca) (.slice (some ⟨w2.heap.size, 0, none⟩) 1 1) O [Y0] rfl rfl ?b1 ?b2 ?b3 ?_))
          case b1 => exact ((HP2.out.grow ((Below.refl _ _).alloc (Nat.le_refl _) _))).row
          case b2 => exact .inr ⟨_, 0, 1, rfl, fun j z hz => by
            match j, hz with
            | 0, hz =>
              simp at hz
              subst hz
              rw [HYE.out]
              intro t u hu
              match t, hu with
              | 0, hu => simp at hu; subst hu; simp
              | 1, hu => simp at hu; subst hu; simp
              | 2, hu => simp at hu; subst hu; simp
              | 3, hu => simp at hu; subst hu; simp
              | t + 4, hu => simp at hu⟩
          case b3 => have := HN.out; rw [HKA.out]; simp; omega
          intro v' w3 ap gb hat
          have HP3 : Hid (Kl.Pu W X0 Q (i + 1) true (O ++ [Y0]) v' w3) := (HP2.out.grow ((Below.refl _ _).alloc (Nat.le_refl _) _)).app ap gb (by simpa using hat) (by have := HP2.out.con; rw [HDS.out] at this; simpa using this) (by rw [List.length_append, HKA.out]; simp; omega)
          clear ap gb hat HP2 f0 f1 f2 f3 g0 g1 g2 g3
          go_wp2_with fail
          go_roundw
          case rel => exact ⟨i + 1, true, O ++ [Y0], by go_num, by omega, rfl, HP3⟩
          case measure => simp [RowKit.intOf]; omega
        · have hln : ka ≤ i + 1 := HLN.out
          subst hz9
          go_wp2_with (first | (at_builtin; refine Kl.wpList_app rfl (.tmp 31) (.tmp 33) rfl (.slice pa ka ca) (.slice (some ⟨w2.heap.size, 0, none⟩) 1 1) O [Y0] rfl rfl ?c1 ?c2 ?c3 ?_))
          case c1 => exact ((HP2.out.grow ((Below.refl _ _).alloc (Nat.le_refl _) _))).row
          case c2 => exact .inr ⟨_, 0, 1, rfl, fun j z hz => by
            match j, hz with
            | 0, hz =>
              simp at hz
              subst hz
              rw [HYE.out]
              intro t u hu
              match t, hu with
              | 0, hu => simp at hu; subst hu; simp
              | 1, hu => simp at hu; subst hu; simp
              | 2, hu => simp at hu; subst hu; simp
              | 3, hu => simp at hu; subst hu; simp
              | t + 4, hu => simp at hu⟩
          case c3 => have := HN.out; rw [HKA.out]; simp; omega
          intro v' w3 ap gb hat
          have HP3 : Hid (Kl.Pu W X0 Q (i + 1) true (O ++ [Y0]) v' w3) := (HP2.out.grow ((Below.refl _ _).alloc (Nat.le_refl _) _)).app ap gb (by simpa using hat) (by have := HP2.out.con; rw [HDS.out] at this; simpa using this) (by rw [List.length_append, HKA.out]; simp; omega)
          clear ap gb hat HP2 f0 f1 f2 f3 g0 g1 g2 g3
          go_wp2_with fail
          go_roundw
          case rel => exact ⟨i + 1, true, O ++ [Y0], by go_num, by omega, rfl, HP3⟩
          case measure => simp [RowKit.intOf]; omega
        · have hln : ka ≤ i + 1 := HLN.out
          have b0 : (z == 0) = false := by simp; omega
          have b1 : ¬ z < 0 := by omega
          have HZ9 := hide' hz9
          clear hz9
          go_wp2_with (first | (at_builtin; refine Kl.wpList_app rfl (.tmp 31) (.tmp 33) rfl (.slice pa ka ca) (.slice (some ⟨w2.heap.size, 0, none⟩) 1 1) O [Y0] rfl rfl ?d1 ?d2 ?d3 ?_))
          case d1 => exact ((HP2.out.grow ((Below.refl _ _).alloc (Nat.le_refl _) _))).row
          case d2 => exact .inr ⟨_, 0, 1, rfl, fun j z hz => by
            match j, hz with
            | 0, hz =>
              simp at hz
              subst hz
              rw [HYE.out]
              intro t u hu
              match t, hu with
              | 0, hu => simp at hu; subst hu; simp
              | 1, hu => simp at hu; subst hu; simp
              | 2, hu => simp at hu; subst hu; simp
              | 3, hu => simp at hu; subst hu; simp
              | t + 4, hu => simp at hu⟩
          case d3 => have := HN.out; rw [HKA.out]; simp; omega
          intro v' w3 ap gb hat
          have HP3 : Hid (Kl.Pu W X0 Q (i + 1) true (O ++ [Y0]) v' w3) := (HP2.out.grow ((Below.refl _ _).alloc (Nat.le_refl _) _)).app ap gb (by simpa using hat) (by have := HP2.out.con; rw [HDS.out] at this; simpa using this) (by rw [List.length_append, HKA.out]; simp; omega)
          clear ap gb hat HP2 f0 f1 f2 f3 g0 g1 g2 g3
          go_wp2_with fail
          go_roundw
          case rel => exact ⟨i + 1, true, O ++ [Y0], by go_num, by omega, rfl, HP3⟩
          case measure => simp [RowKit.intOf]; omega
      | false =>
        rcases h9 with hz9 | hz9 | hz9
        · have hln : ka ≤ i := HLN.out
          have b0 : (z == 0) = false := by simp; omega
          have HZ9 := hide' hz9
          go_wp2_with (first | (at_builtin; refine Kl.wpList_app rfl (.tmp 27) (.tmp 29) rfl (.slice pa ka ca) (.slice (some ⟨w2.heap.size, 0, none⟩) 1 1) O [X0] rfl rfl ?e1 ?e2 ?e3 ?_))
          case e1 => exact ((HP2.out.grow ((Below.refl _ _).alloc (Nat.le_refl _) _))).row
          case e2 => exact .inr ⟨_, 0, 1, rfl, fun j z hz => by
            match j, hz with
            | 0, hz =>
              simp at hz
              subst hz
              rw [HXE.out]
              intro t u hu
              match t, hu with
              | 0, hu => simp at hu; subst hu; simp
              | 1, hu => simp at hu; subst hu; simp
              | 2, hu => simp at hu; subst hu; simp
              | 3, hu => simp at hu; subst hu; simp
              | t + 4, hu => simp at hu⟩
          case e3 => have := HN.out; rw [HKA.out]; simp; omega
          intro v' w3 ap gb hat
          have hfr : ∀ {j : Nat} {u : Value}, w2.cell? ⟨wr.heap.size, j, none⟩ = some u → w3.cell? ⟨wr.heap.size, j, none⟩ = some u := fun {j u} h => by
            have h1 := ((Kl.Gr.refl w2).alloc (.cells #[.int .i64 xo, .int .i64 xv, .int .i64 xn, .slice xp kx xc] 37)).cell h
            rw [World.cell?_of_block (gb.block wr.heap.size (by simp; omega) fun c => by have := HLT.out _ c.symm; omega)]
            exact h1
          have g0' := hfr g0
          have g1' := hfr g1
          have g2' := hfr g2
          have g3' := hfr g3
          have HPM : Hid (Kl.Pu W X0 Q i true (O ++ [X0]) v' w3) := (HP2.out.grow ((Below.refl _ _).alloc (Nat.le_refl _) _)).app ap gb (by simpa using hat) (by have := HP2.out.con; rw [HDS.out] at this ⊢; simp only [Bool.false_eq_true, if_false] at this; rw [Kl.putV, HZC.out, if_pos (by have := HZ9.out; omega)] at this; simpa using this) (by rw [List.length_append, HKA.out]; simp; omega)
          have hz3 : wr.heap.size < w3.heap.size := by have := gb.size; simp at this; omega
          obtain ⟨pb, cb, hf, lb1, lb2⟩ := HPM.out.row.form
          have HKB : Hid ((O ++ [X0]).length = ka + 1) := by show _ = _; rw [List.length_append, HKA.out]; rfl
          rw [HKB.out] at hf lb1
          subst hf
          obtain ⟨kb, hkb⟩ : ∃ k, ka + 1 = k := ⟨_, rfl⟩
          rw [hkb] at HPM HKB lb1
          simp only [hkb]
          have HKK := hide' hkb
          clear hkb hfr ap gb hat HP2 f0 f1 f2 f3 g0 g1 g2 g3
          go_wp2_with (first | (at_builtin; refine Kl.wpList_app rfl (.tmp 31) (.tmp 33) rfl (.slice pb kb cb) (.slice (some ⟨w3.heap.size, 0, none⟩) 1 1) (O ++ [X0]) [Y0] rfl rfl ?z1 ?z2 ?z3 ?_))
          case z1 => exact ((HPM.out.grow ((Below.refl _ _).alloc (Nat.le_refl _) _))).row
          case z2 => exact .inr ⟨_, 0, 1, rfl, fun j z hz => by
            match j, hz with
            | 0, hz =>
              simp at hz
              subst hz
              rw [HYE.out]
              intro t u hu
              match t, hu with
              | 0, hu => simp at hu; subst hu; simp
              | 1, hu => simp at hu; subst hu; simp
              | 2, hu => simp at hu; subst hu; simp
              | 3, hu => simp at hu; subst hu; simp
              | t + 4, hu => simp at hu⟩
          case z3 => have := HN.out; have := HKK.out; rw [HKB.out]; simp; omega
          intro v9 w4 ap gb hat
          have HP3 : Hid (Kl.Pu W X0 Q (i + 1) true ((O ++ [X0]) ++ [Y0]) v9 w4) := (HPM.out.grow ((Below.refl _ _).alloc (Nat.le_refl _) _)).app (show Kl.OR w4 v9 ((O ++ [X0]) ++ [Y0]) from by simpa using ap) gb (by simpa using hat) (by have := HPM.out.con; rw [HDS.out] at this; simpa using this) (by rw [List.length_append, HKB.out]; have := HKK.out; simp; omega)
          clear ap gb hat HPM g0' g1' g2' g3'
          go_wp2_with fail
          go_roundw
          case rel => exact ⟨i + 1, true, (O ++ [X0]) ++ [Y0], by go_num, by omega, rfl, HP3⟩
          case measure => simp [RowKit.intOf]; omega
        · have hln : ka ≤ i := HLN.out
          subst hz9
          go_wp2_with (first | (at_builtin; refine Kl.wpList_app rfl (.tmp 31) (.tmp 33) rfl (.slice pa ka ca) (.slice (some ⟨w2.heap.size, 0, none⟩) 1 1) O [Y0] rfl rfl ?f1 ?f2 ?f3 ?_))
          case f1 => exact ((HP2.out.grow ((Below.refl _ _).alloc (Nat.le_refl _) _))).row
          case f2 => exact .inr ⟨_, 0, 1, rfl, fun j z hz => by
            match j, hz with
            | 0, hz =>
              simp at hz
              subst hz
              rw [HYE.out]
              intro t u hu
              match t, hu with
              | 0, hu => simp at hu; subst hu; simp
              | 1, hu => simp at hu; subst hu; simp
              | 2, hu => simp at hu; subst hu; simp
              | 3, hu => simp at hu; subst hu; simp
              | t + 4, hu => simp at hu⟩
          case f3 => have := HN.out; rw [HKA.out]; simp; omega
          intro v' w3 ap gb hat
          have HP3 : Hid (Kl.Pu W X0 Q (i + 1) true (O ++ [Y0]) v' w3) := (HP2.out.grow ((Below.refl _ _).alloc (Nat.le_refl _) _)).app ap gb (by simpa using hat) (by have := HP2.out.con; rw [HDS.out] at this; simp only [Bool.false_eq_true, if_false] at this; rw [Kl.putV, HZC.out, if_neg (by omega), if_pos rfl] at this; simpa using this) (by rw [List.length_append, HKA.out]; simp; omega)
          clear ap gb hat HP2 f0 f1 f2 f3 g0 g1 g2 g3
          go_wp2_with fail
          go_roundw
          case rel => exact ⟨i + 1, true, O ++ [Y0], by go_num, by omega, rfl, HP3⟩
          case measure => simp [RowKit.intOf]; omega
        · have hln : ka ≤ i := HLN.out
          have b0 : (z == 0) = false := by simp; omega
          have b1 : ¬ z < 0 := by omega
          have HZ9 := hide' hz9
          clear hz9
          go_wp2_with (first | (at_builtin; refine Kl.wpList_app rfl (.tmp 31) (.tmp 33) rfl (.slice pa ka ca) (.slice (some ⟨w2.heap.size, 0, none⟩) 1 1) O [Y0] rfl rfl ?g1 ?g2 ?g3 ?_))
          case g1 => exact ((HP2.out.grow ((Below.refl _ _).alloc (Nat.le_refl _) _))).row
          case g2 => exact .inr ⟨_, 0, 1, rfl, fun j z hz => by
            match j, hz with
            | 0, hz =>
              simp at hz
              subst hz
              rw [HYE.out]
              intro t u hu
              match t, hu with
              | 0, hu => simp at hu; subst hu; simp
              | 1, hu => simp at hu; subst hu; simp
              | 2, hu => simp at hu; subst hu; simp
              | 3, hu => simp at hu; subst hu; simp
              | t + 4, hu => simp at hu⟩
          case g3 => have := HN.out; rw [HKA.out]; simp; omega
          intro v' w3 ap gb hat
          have HP3 : Hid (Kl.Pu W X0 Q (i + 1) false (O ++ [Y0]) v' w3) := (HP2.out.grow ((Below.refl _ _).alloc (Nat.le_refl _) _)).app ap gb (by simpa using hat) (by have := HP2.out.con; rw [HDS.out] at this; simp only [Bool.false_eq_true, if_false] at this; rw [Kl.putV, HZC.out, if_neg (by have := HZ9.out; omega), if_neg (by have := HZ9.out; omega)] at this; simpa using this) (by rw [List.length_append, HKA.out]; simp; omega)
          clear ap gb hat HP2 f0 f1 f2 f3 g0 g1 g2 g3
          go_wp2_with fail
          go_roundw
          case rel => exact ⟨i + 1, false, O ++ [Y0], by go_num, by omega, rfl, HP3⟩
          case measure => simp [RowKit.intOf]; omega
    · have t1 : ¬ (i : Int) < (k1 : Int) := by omega
      have HDN : Hid (Q.drop i = []) := List.drop_eq_nil_of_le (by rw [K1.out]; omega)
      obtain ⟨j0, j1, j2, j3⟩ := HJ.out
      have hcj : ∀ {j : Nat} {u : Value}, W.cell? ⟨w.heap.size, j, none⟩ = some u → wr.cell? ⟨w.heap.size, j, none⟩ = some u := fun {j u} h => (HP.out.bel.cell (p := ⟨w.heap.size, j, none⟩) hwz).trans h
      have e0 := hcj j0
      have e1 := hcj j1
      have e2 := hcj j2
      have e3 := hcj j3
      clear hcj j0 j1 j2 j3 CC HCL
      cases D with
      | true =>
        have HO : Hid (R = O) := by have := HP.out.con; rw [HR.out, HDN.out] at this; show R = _; simpa using this
        go_wp2_with fail
        go_ret
        have hl : R.length = ka := by rw [HO.out, HKA.out]
        refine ⟨pa, ca, by rw [hl]; rfl, ?_, ?_, HUP.out _ HP.out.bel⟩
        · show Kl.OR _ _ _; rw [hl, HO.out]; exact HP.out.row
        · show ∀ b, _ → _; rw [hl]; exact fun b hb => Nat.le_trans (Nat.le_of_lt hwz) (HP.out.own b hb)
      | false =>
        have hln : ka ≤ i := HLN.out
        go_wp2_with (first | (at_builtin; refine Kl.wpList_app rfl (.tmp 38) (.tmp 40) rfl (.slice pa ka ca) (.slice (some ⟨wr.heap.size, 0, none⟩) 1 1) O [X0] rfl rfl ?y1 ?y2 ?y3 ?_))
        case y1 => exact ((HP.out.grow ((Below.refl _ _).alloc (Nat.le_refl _) _))).row
        case y2 => exact .inr ⟨_, 0, 1, rfl, fun j z hz => by
          match j, hz with
          | 0, hz =>
            simp at hz
            subst hz
            rw [HXE.out]
            intro t u hu
            match t, hu with
            | 0, hu => simp at hu; subst hu; simp
            | 1, hu => simp at hu; subst hu; simp
            | 2, hu => simp at hu; subst hu; simp
            | 3, hu => simp at hu; subst hu; simp
            | t + 4, hu => simp at hu⟩
        case y3 => have := HN.out; rw [HKA.out]; simp; omega
        intro v' w3 ap gb hat
        have HP3 : Hid (Kl.Pu W X0 Q i true (O ++ [X0]) v' w3) := (HP.out.grow ((Below.refl _ _).alloc (Nat.le_refl _) _)).app ap gb (by simpa using hat) (by have := HP.out.con; rw [HDN.out] at this ⊢; simp only [Bool.false_eq_true, if_false] at this; rw [Kl.putV] at this; simpa using this) (by rw [List.length_append, HKA.out]; simp; omega)
        have HO : Hid (R = O ++ [X0]) := by have := HP3.out.con; rw [HR.out, HDN.out] at this; show R = _; simpa using this
        obtain ⟨pb, cb, hf, lb1, lb2⟩ := HP3.out.row.form
        rw [← HO.out] at hf
        subst hf
        clear ap gb hat HP e0 e1 e2 e3
        go_wp2_with fail
        go_ret
        refine ⟨pb, cb, rfl, ?_, ?_, HUP.out _ HP3.out.bel⟩
        · show Kl.OR _ _ _; have := HP3.out.row; rw [← HO.out] at this; exact this
        · exact fun b hb => Nat.le_trans (Nat.le_of_lt hwz) (HP3.out.own b hb)
end Go.Proofs.Ytipnhfnjoaoceaa
