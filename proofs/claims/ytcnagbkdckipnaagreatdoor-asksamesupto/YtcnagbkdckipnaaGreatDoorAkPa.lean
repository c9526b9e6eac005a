/-
  THE WALK over the parser's path (gen_akpa.py writes this text).
-/
import Derived.Test.YtcnagbkdckipnaaGreatDoorAkEi
namespace Go.Proofs.YtcnagbkdckipnaaGreatDoor
open Go.RowKit Go.Lib Go.Sort
namespace Ak
theorem SV.opened {B : Nat} {x : Sp} {v : Value} {w : World} (h : SV B x v w) : ∃ (y : Sv) (ax te : Int) (nm : ByteArray) (p : Option Addr) (l c : Nat), cS y = x ∧ y.enc = [.int .i64 ax, .int .i64 te, .string nm, .slice p l c] ∧
    v = .agg #[.int .i64 ax, .int .i64 te, .string nm, .slice p l c] ∧ OkS w y ∧ ∀ b ∈ fS y, B ≤ b := by
  obtain ⟨⟨ax, te, nm, p, c, wh⟩, h1, rfl, h3, h4⟩ := h
  exact ⟨_, _, _, _, _, _, _, h1, rfl, rfl, h3, h4⟩
theorem pathR_step {n : Nat} {ws : Nat → Wo} {wi : RX} {attrs : Bool} {f i : Nat} {acc : List Sp} (hf : n + 1 ≤ f + i) (hi : i ≤ n) : pathR n ws wi attrs f i acc = (stepR n ws wi i).bind fun s a =>
    if sgB n ws a ⟨#[47, 47]⟩ = true then
      (if (attrs && sgB n ws (a + 1) ⟨#[64]⟩) = true then (attrR n ws (a + 1)).bind fun t a => .ok (acc ++ [s, anyP], t) a else pathR n ws wi attrs (f - 1) (a + 1) (acc ++ [s, anyP]))
    else if sgB n ws a ⟨#[47]⟩ = true then
      (if (attrs && sgB n ws (a + 1) ⟨#[64]⟩) = true then (attrR n ws (a + 1)).bind fun t a => .ok (acc ++ [s], t) a else pathR n ws wi attrs (f - 1) (a + 1) (acc ++ [s]))
    else .ok (acc ++ [s], ⟨#[]⟩) a := by
  cases f with
  | zero => omega
  | succ f => rw [pathR, Nat.add_sub_cancel]
theorem cSs_app (l m : List Sv) : cSs (l ++ m) = cSs l ++ cSs m := by simp [cSs_map]
/-- what path answers: steps in a row of their own, and a name -/
def PaV (B : Nat) (r : List Sp × ByteArray) (v : Value) (w : World) : Prop := ∃ v1 lv, v = .tuple #[v1, .string r.2] ∧ LS B w v1 lv ∧ cSs lv = r.1
/-- a state of the walk: the row v of the steps lv -/
structure PaS (P : Nat) (qv wv : Value) (n : Nat) (ws : Nat → Wo) (op mo : Nat) (W0 : World) (B : Nat) (w : World) (v : Value) (lv : List Sv) (a : Nat) : Prop where
  p : Ps w P qv wv n ws a op mo
  b : Pb P W0 w
  l : LS B w v lv
theorem PaS.go {P : Nat} {qv wv : Value} {n : Nat} {ws : Nat → Wo} {op mo : Nat} {W0 : World} {B : Nat} {w w' : World} {v : Value} {lv : List Sv} {a a' : Nat} (h : PaS P qv wv n ws op mo W0 B w v lv a) (hP : P < B) (hb : Pb P w w') (hp : Ps w' P qv wv n ws a' op mo) : PaS P qv wv n ws op mo W0 B w' v lv a' :=
  ⟨hp, h.b.trans hb, h.l.keepP hb hP⟩
theorem PaS.below {P : Nat} {qv wv : Value} {n : Nat} {ws : Nat → Wo} {op mo : Nat} {W0 : World} {B : Nat} {w w' : World} {v : Value} {lv : List Sv} {a : Nat} (h : PaS P qv wv n ws op mo W0 B w v lv a) (hP : P < B) (hb : Below w.heap.size w w') : PaS P qv wv n ws op mo W0 B w' v lv a :=
  h.go hP (.of_below hb) (h.p.below hb)
theorem PaS.app {P : Nat} {qv wv : Value} {n : Nat} {ws : Nat → Wo} {op mo : Nat} {W0 : World} {B : Nat} {w w' : World} {v v' : Value} {lv : List Sv} {y : Sv} {a c0 : Nat} (h : PaS P qv wv n ws op mo W0 B w v lv a) (hP : P < B) (hW : W0.heap.size ≤ B) (hBw : B ≤ w.heap.size) (hy : OkS w y) (hd : ∀ b ∈ fS y, B ≤ b ∧ v.ownBlock ≠ some b)
    (ho : OS w' v' (lv ++ [y])) (hg : w.grownBy w' v.ownBlock) (hv : v'.ownBlock = v.ownBlock ∨ v'.ownBlock = some w.heap.size) (hq : Ps W0 P qv wv n ws c0 op mo) : PaS P qv wv n ws op mo W0 B w' v' (lv ++ [y]) a :=
  have hb := h.b.grown hg (fun b hb => by have := h.l.own_lo b hb; omega)
  ⟨hq.go hb ((hg.block P h.p.c.lt (fun e => by have := h.l.own_lo P e.symm; omega)).trans h.p.c) h.p.atn hq.opm, hb, h.l.app hy hd ho hg hv hBw⟩
end Ak
set_option maxRecDepth 100000 in
set_option maxHeartbeats 16000000 in
theorem akPath (W0 W : World) (P : Nat) (qv wv : Value) (n : Nat) (ws : Nat → Ak.Wo) (en : Ak.Wo) (at_ op mo : Nat) (B : Nat) (attrs : Bool) (v0 : Value) (lv0 : List Ak.Sv) (c0 : Nat) (hq : Ak.Ps W0 P qv wv n ws c0 op mo) (h0 : Ak.PaS P qv wv n ws op mo W0 B W v0 lv0 at_) (hP : P < B) (hW0 : W0.heap.size ≤ B) (hBW : B ≤ W.heap.size) (hl0 : lv0.length ≤ 1) (hg : Ak.GU P qv wv n ws en) (wi : Ak.RX)
    (hm : ∀ i x a, Ak.stepR n ws wi i = .ok x a → i ≤ a)
    (hf : ∀ W1 a, Ak.Pb P W0 W1 → Ak.Ps W1 P qv wv n ws a op mo → Calls Tryz.prog 74 #[.pointer (some ⟨P, 0, none⟩)] W1 (Ak.PrE P qv wv n ws en op mo W1 (Ak.SV W1.heap.size) (Ak.stepR n ws wi a))) (f0 : Nat) (hf0 : n + 1 ≤ f0 + at_) :
    Calls Tryz.prog 41 #[.pointer (some ⟨P, 0, none⟩), v0, .bool attrs] W (Ak.PrE P qv wv n ws en op mo W0 (Ak.PaV B) (Ak.pathR n ws wi attrs f0 at_ (Ak.cSs lv0))) := by
  obtain ⟨ans, hans⟩ : ∃ r, Ak.pathR n ws wi attrs f0 at_ (Ak.cSs lv0) = r := ⟨_, rfl⟩
  rw [hans]
  have HS := hide' h0
  have HA := hide' hans
  have HF := hide' hf
  have HM := hide' hm
  have HG := hide' hg
  have HQ := hide' hq
  have HLn : Hid (lv0.length ≤ 2 * at_ + 2) := hide' (by omega)
  have HFu := hide' hf0
  have hnn := hq.nn
  clear hans h0 hf hm hq hg hf0 hl0
  go_enter Tryz.func41, Tryz.ntmps41
  go_wp2_with fail
  go_loopw [1] (fun v wr => ∃ (i f : Nat) (lv : List Ak.Sv), Hid (Ak.PaS P qv wv n ws op mo W0 B wr v lv i) ∧ Hid (Ak.pathR n ws wi attrs f i (Ak.cSs lv) = ans) ∧ Hid (n + 1 ≤ f + i) ∧ Hid (lv.length ≤ 2 * i + 2) ∧ Hid (B ≤ wr.heap.size)) (fun _ wr => n + 1 - Ak.atOf P wr)
  case atStart => exact ⟨at_, f0, lv0, HS, HA, HFu, HLn, hide' hBW⟩
  case round =>
    obtain ⟨i, f, lv, HS, HA, HFu, HLn, HBw⟩ := hrel
    obtain ⟨pv, cv, rfl, hvl⟩ := HS.out.l.own.form
    have hin : i ≤ n := HS.out.p.atn
    have hmr := Ak.pathR_step (ws := ws) (wi := wi) (attrs := attrs) (acc := Ak.cSs lv) HFu.out hin
    rw [HA.out] at hmr
    obtain ⟨R, hR⟩ : ∃ R, Ak.stepR n ws wi i = R := ⟨_, rfl⟩
    rw [hR] at hmr
    have HMR := hide' hmr
    have HFR := hide' (hR ▸ HF.out _ i HS.out.b HS.out.p)
    have HR := hide' hR
    clear hmr hR HA
    cases R with
    | bad a why =>
      obtain rfl : ans = .bad a why := HMR.out
      go_wp2_with fail
      refine HFR.out.mono ?_
      rintro e w9 hv
      obtain ⟨d, rfl, h1, h2, h3⟩ := hv
      have HV := hide' (Ak.PrE.of_bad (qv := qv) (wv := wv) (op := op) (mo := mo) (V := Ak.PaV B) (Ak.GvE.pre ⟨d, rfl, h1, h2, h3⟩ HS.out.b))
      clear h1 h2 h3
      go_wp2_with fail
      exact ⟨rfl, HV.out⟩
    | ok s a =>
      have hia : i ≤ a := HM.out _ _ _ HR.out
      have hmr := HMR.out
      dsimp only [Ak.Res.bind] at hmr
      have HAT : Hid (Ak.atOf P wr = i) := hide' HS.out.p.atOf
      obtain ⟨t1, ht1⟩ : ∃ t, Ak.sgB n ws a ⟨#[47, 47]⟩ = t := ⟨_, rfl⟩
      obtain ⟨t2, ht2⟩ : ∃ t, Ak.sgB n ws a ⟨#[47]⟩ = t := ⟨_, rfl⟩
      obtain ⟨t3, ht3⟩ : ∃ t, Ak.sgB n ws (a + 1) ⟨#[64]⟩ = t := ⟨_, rfl⟩
      obtain ⟨R3, hR3⟩ : ∃ R, Ak.attrR n ws (a + 1) = R := ⟨_, rfl⟩
      rw [ht1, ht2, ht3, hR3] at hmr
      have C1 := hide' (fun (w : World) (hp : Ak.Ps w P qv wv n ws a op mo) => ht1 ▸ akSkip w P qv wv n ws a op mo hp ⟨#[47, 47]⟩)
      have C2 := hide' (fun (w : World) (hp : Ak.Ps w P qv wv n ws a op mo) => ht2 ▸ akSkip w P qv wv n ws a op mo hp ⟨#[47]⟩)
      have C3 := hide' (fun (w : World) (hp : Ak.Ps w P qv wv n ws (a + 1) op mo) => ht3 ▸ akIs w P qv wv n ws (a + 1) op mo hp ⟨#[64]⟩)
      have C4 := hide' (fun (w : World) (hp : Ak.Ps w P qv wv n ws (a + 1) op mo) => hR3 ▸ akAttr w P qv wv n ws en (a + 1) op mo hp HG.out)
      have HMR2 := hide' hmr
      clear HMR HR ht1 ht2 ht3 hR3 hmr
      cases attrs
      · cases t1
        · cases t2
          · have HMR3 : Hid (ans = .ok ((Ak.cSs lv ++ [s]), ⟨#[]⟩) a) := hide' (by have e := HMR2.out; simpa using e)
            clear HMR2
            go_wp2_with fail
            refine HFR.out.mono ?_
            rintro e w2 ⟨v, rfl, hx, hb2, hp2⟩
            obtain ⟨y, ax, te, nm, pw, lw, cw, hy, hye, rfl, hyo, hyl⟩ := hx.opened
            have hs2 := hb2.size
            have hbk : Below w2.heap.size w2 (w2.alloc (.cells #[.int .i64 ax, .int .i64 te, .string nm, .slice pw lw cw] 61)) := (Below.refl _ _).alloc (Nat.le_refl _) _
            have HS3 := hide' (((HS.out.go hP hb2 hp2)).below hP hbk)
            have HR3 := hide' (show (w2.alloc (.cells #[.int .i64 ax, .int .i64 te, .string nm, .slice pw lw cw] 61)).rangeAt w2.heap.size 0 y.enc by rw [hye]; exact Ak.range_of (Ak.heap_new w2 (.cells #[.int .i64 ax, .int .i64 te, .string nm, .slice pw lw cw] 61)))
            have HY3 := hide' (hyo.below hbk)
            have HYD : Hid (∀ b ∈ Ak.fS y, B ≤ b ∧ (Value.slice pv lv.length cv).ownBlock ≠ some b) := hide' (fun b hb => ⟨by have := hyl b hb; have := HBw.out; omega, fun e => by have := hyl b hb; have := HS.out.l.lt b e; omega⟩)
            have HYC := hide' hy
            have HLb := hide' (show lv.length + 1 ≤ 2097152 by have := HLn.out; omega)
            have HB3 : Hid (B ≤ (w2.alloc (.cells #[.int .i64 ax, .int .i64 te, .string nm, .slice pw lw cw] 61)).heap.size) := hide' (by have := HBw.out; simp; omega)
            clear hx hb2 hp2 hbk hy hye hyo hyl HFR HS HBw
            go_wp2_with (refine Ak.wpList_appS rfl (.tmp 8) (.tmp 11) rfl _ lv y w2.heap.size 1 rfl rfl HS3.out.l.own HR3.out HLb.out ?_; intro v' w' ho hg hv)
            have HS4 := hide' (HS3.out.app hP hW0 HB3.out HY3.out HYD.out ho hg hv HQ.out)
            have HB4 : Hid (B ≤ w'.heap.size) := hide' (Nat.le_trans HB3.out hg.size)
            have HC4 : Hid (Ak.cSs (lv ++ [y]) = Ak.cSs lv ++ [s]) := hide' (by rw [Ak.cSs_map, List.map_append, ← Ak.cSs_map]; simp [HYC.out])
            have HL4 : Hid ((lv ++ [y]).length ≤ 2 * i + 3) := hide' (by have := HLn.out; simp; omega)
            clear ho hg hv HS3 HR3 HY3 HYD HB3
            refine (C1.out w' HS4.out.p).mono ?_
            rintro e w5 ⟨rfl, hb5, hp5⟩
            have HS5 := hide' (HS4.out.go hP hb5 hp5)
            have HB5 : Hid (B ≤ w5.heap.size) := hide' (Nat.le_trans HB4.out hb5.size)
            clear hb5 hp5 HS4 HB4
            go_wp2_with fail
            refine (C2.out w5 HS5.out.p).mono ?_
            rintro e wx ⟨rfl, hb8, hp8⟩
            have HS8 := hide' (HS5.out.go hP hb8 hp8)
            clear hb8 hp8
            go_wp2_with fail
            go_ret2
            rw [HMR3.out]
            exact Ak.PrE.of_ok ⟨_, _, rfl, HS8.out.l, HC4.out⟩ HS8.out.b HS8.out.p
          · have HMR3 : Hid (ans = Ak.pathR n ws wi false (f - 1) (a + 1) (Ak.cSs lv ++ [s])) := hide' (by have e := HMR2.out; simpa using e)
            clear HMR2
            go_wp2_with fail
            refine HFR.out.mono ?_
            rintro e w2 ⟨v, rfl, hx, hb2, hp2⟩
            obtain ⟨y, ax, te, nm, pw, lw, cw, hy, hye, rfl, hyo, hyl⟩ := hx.opened
            have hs2 := hb2.size
            have hbk : Below w2.heap.size w2 (w2.alloc (.cells #[.int .i64 ax, .int .i64 te, .string nm, .slice pw lw cw] 61)) := (Below.refl _ _).alloc (Nat.le_refl _) _
            have HS3 := hide' (((HS.out.go hP hb2 hp2)).below hP hbk)
            have HR3 := hide' (show (w2.alloc (.cells #[.int .i64 ax, .int .i64 te, .string nm, .slice pw lw cw] 61)).rangeAt w2.heap.size 0 y.enc by rw [hye]; exact Ak.range_of (Ak.heap_new w2 (.cells #[.int .i64 ax, .int .i64 te, .string nm, .slice pw lw cw] 61)))
            have HY3 := hide' (hyo.below hbk)
            have HYD : Hid (∀ b ∈ Ak.fS y, B ≤ b ∧ (Value.slice pv lv.length cv).ownBlock ≠ some b) := hide' (fun b hb => ⟨by have := hyl b hb; have := HBw.out; omega, fun e => by have := hyl b hb; have := HS.out.l.lt b e; omega⟩)
            have HYC := hide' hy
            have HLb := hide' (show lv.length + 1 ≤ 2097152 by have := HLn.out; omega)
            have HB3 : Hid (B ≤ (w2.alloc (.cells #[.int .i64 ax, .int .i64 te, .string nm, .slice pw lw cw] 61)).heap.size) := hide' (by have := HBw.out; simp; omega)
            clear hx hb2 hp2 hbk hy hye hyo hyl HFR HS HBw
            go_wp2_with (refine Ak.wpList_appS rfl (.tmp 8) (.tmp 11) rfl _ lv y w2.heap.size 1 rfl rfl HS3.out.l.own HR3.out HLb.out ?_; intro v' w' ho hg hv)
            have HS4 := hide' (HS3.out.app hP hW0 HB3.out HY3.out HYD.out ho hg hv HQ.out)
            have HB4 : Hid (B ≤ w'.heap.size) := hide' (Nat.le_trans HB3.out hg.size)
            have HC4 : Hid (Ak.cSs (lv ++ [y]) = Ak.cSs lv ++ [s]) := hide' (by rw [Ak.cSs_map, List.map_append, ← Ak.cSs_map]; simp [HYC.out])
            have HL4 : Hid ((lv ++ [y]).length ≤ 2 * i + 3) := hide' (by have := HLn.out; simp; omega)
            clear ho hg hv HS3 HR3 HY3 HYD HB3
            refine (C1.out w' HS4.out.p).mono ?_
            rintro e w5 ⟨rfl, hb5, hp5⟩
            have HS5 := hide' (HS4.out.go hP hb5 hp5)
            have HB5 : Hid (B ≤ w5.heap.size) := hide' (Nat.le_trans HB4.out hb5.size)
            clear hb5 hp5 HS4 HB4
            go_wp2_with fail
            refine (C2.out w5 HS5.out.p).mono ?_
            rintro e wx ⟨rfl, hb8, hp8⟩
            have HS8 := hide' (HS5.out.go hP hb8 hp8)
            have HB8 : Hid (B ≤ wx.heap.size) := hide' (Nat.le_trans HB5.out hb8.size)
            have HC8 := HC4
            have HL8 : Hid ((lv ++ [y]).length ≤ 2 * i + 4) := hide' (by have := HL4.out; omega)
            clear hb8 hp8 HS5
            go_wp2_with fail
            refine ⟨⟨a + 1, f - 1, lv ++ [y], HS8, hide' (by rw [HC8.out]; exact HMR3.out.symm), hide' (by have := HFu.out; omega), hide' (by have := HL8.out; omega), HB8⟩, ?_⟩
            rw [HS8.out.p.atOf, HAT.out]
            show n + 1 - (a + 1) < n + 1 - i
            omega
        · have HMR3 : Hid (ans = Ak.pathR n ws wi false (f - 1) (a + 1) (Ak.cSs lv ++ [s, Ak.anyP])) := hide' (by have e := HMR2.out; simpa using e)
          clear HMR2
          go_wp2_with fail
          refine HFR.out.mono ?_
          rintro e w2 ⟨v, rfl, hx, hb2, hp2⟩
          obtain ⟨y, ax, te, nm, pw, lw, cw, hy, hye, rfl, hyo, hyl⟩ := hx.opened
          have hs2 := hb2.size
          have hbk : Below w2.heap.size w2 (w2.alloc (.cells #[.int .i64 ax, .int .i64 te, .string nm, .slice pw lw cw] 61)) := (Below.refl _ _).alloc (Nat.le_refl _) _
          have HS3 := hide' (((HS.out.go hP hb2 hp2)).below hP hbk)
          have HR3 := hide' (show (w2.alloc (.cells #[.int .i64 ax, .int .i64 te, .string nm, .slice pw lw cw] 61)).rangeAt w2.heap.size 0 y.enc by rw [hye]; exact Ak.range_of (Ak.heap_new w2 (.cells #[.int .i64 ax, .int .i64 te, .string nm, .slice pw lw cw] 61)))
          have HY3 := hide' (hyo.below hbk)
          have HYD : Hid (∀ b ∈ Ak.fS y, B ≤ b ∧ (Value.slice pv lv.length cv).ownBlock ≠ some b) := hide' (fun b hb => ⟨by have := hyl b hb; have := HBw.out; omega, fun e => by have := hyl b hb; have := HS.out.l.lt b e; omega⟩)
          have HYC := hide' hy
          have HLb := hide' (show lv.length + 1 ≤ 2097152 by have := HLn.out; omega)
          have HB3 : Hid (B ≤ (w2.alloc (.cells #[.int .i64 ax, .int .i64 te, .string nm, .slice pw lw cw] 61)).heap.size) := hide' (by have := HBw.out; simp; omega)
          clear hx hb2 hp2 hbk hy hye hyo hyl HFR HS HBw
          go_wp2_with (refine Ak.wpList_appS rfl (.tmp 8) (.tmp 11) rfl _ lv y w2.heap.size 1 rfl rfl HS3.out.l.own HR3.out HLb.out ?_; intro v' w' ho hg hv)
          have HS4 := hide' (HS3.out.app hP hW0 HB3.out HY3.out HYD.out ho hg hv HQ.out)
          have HB4 : Hid (B ≤ w'.heap.size) := hide' (Nat.le_trans HB3.out hg.size)
          have HC4 : Hid (Ak.cSs (lv ++ [y]) = Ak.cSs lv ++ [s]) := hide' (by rw [Ak.cSs_map, List.map_append, ← Ak.cSs_map]; simp [HYC.out])
          have HL4 : Hid ((lv ++ [y]).length ≤ 2 * i + 3) := hide' (by have := HLn.out; simp; omega)
          clear ho hg hv HS3 HR3 HY3 HYD HB3
          refine (C1.out w' HS4.out.p).mono ?_
          rintro e w5 ⟨rfl, hb5, hp5⟩
          have HS5 := hide' (HS4.out.go hP hb5 hp5)
          have HB5 : Hid (B ≤ w5.heap.size) := hide' (Nat.le_trans HB4.out hb5.size)
          clear hb5 hp5 HS4 HB4
          go_wp2_with fail
          refine (akAnyDepth w5).mono ?_
          rintro e w6 ⟨rfl, hb6⟩
          unfold Ak.stC
          have hbk : Below w6.heap.size w6 (w6.alloc (.cells #[.int .i64 2, .int .i64 3, .string ⟨#[]⟩, .slice none 0 0] 61)) := (Below.refl _ _).alloc (Nat.le_refl _) _
          have HS7 := hide' ((HS5.out.below hP hb6).below hP hbk)
          have HR7 := hide' (show (w6.alloc (.cells #[.int .i64 2, .int .i64 3, .string ⟨#[]⟩, .slice none 0 0] 61)).rangeAt w6.heap.size 0 (Ak.Sv.mk 2 3 ⟨#[]⟩ none 0 []).enc from Ak.range_of (Ak.heap_new w6 (.cells #[.int .i64 2, .int .i64 3, .string ⟨#[]⟩, .slice none 0 0] 61)))
          have HY7 := hide' (Ak.OkS.of (ax := 2) (te := 3) (nm := ⟨#[]⟩) (Ak.RowX.nil (w6.alloc (.cells #[.int .i64 2, .int .i64 3, .string ⟨#[]⟩, .slice none 0 0] 61))))
          have HYD7 : Hid (∀ b ∈ Ak.fS (.mk 2 3 ⟨#[]⟩ none 0 []), B ≤ b ∧ v'.ownBlock ≠ some b) := hide' (fun b hb => by simp [Ak.fS, Ak.pb, Ak.fXs] at hb)
          have HLb7 := hide' (show (lv ++ [y]).length + 1 ≤ 2097152 by have := HL4.out; omega)
          have HB7 : Hid (B ≤ (w6.alloc (.cells #[.int .i64 2, .int .i64 3, .string ⟨#[]⟩, .slice none 0 0] 61)).heap.size) := hide' (by have := HB5.out; have := hb6.size; simp; omega)
          clear hb6 hbk HS5
          go_wp2_with (refine Ak.wpList_appS rfl (.tmp 15) (.tmp 17) rfl v' (lv ++ [y]) (.mk 2 3 ⟨#[]⟩ none 0 []) w6.heap.size 1 rfl rfl HS7.out.l.own HR7.out HLb7.out ?_; intro vx wx ho hg hv)
          have HS8 := hide' (HS7.out.app hP hW0 HB7.out HY7.out HYD7.out ho hg hv HQ.out)
          have HB8 : Hid (B ≤ wx.heap.size) := hide' (Nat.le_trans HB7.out hg.size)
          have HC8 : Hid (Ak.cSs (lv ++ [y] ++ [.mk 2 3 ⟨#[]⟩ none 0 []]) = Ak.cSs lv ++ [s, Ak.anyP]) := hide' (by rw [Ak.cSs_app, HC4.out]; simp [Ak.cSs, Ak.cS, Ak.cXs, Ak.anyP])
          have HL8 : Hid ((lv ++ [y] ++ [Ak.Sv.mk 2 3 ⟨#[]⟩ none 0 []]).length ≤ 2 * i + 4) := hide' (by have := HL4.out; simp at this ⊢; omega)
          clear ho hg hv HS7 HR7 HY7 HYD7 HB7
          refine ⟨⟨a + 1, f - 1, lv ++ [y] ++ [.mk 2 3 ⟨#[]⟩ none 0 []], HS8, hide' (by rw [HC8.out]; exact HMR3.out.symm), hide' (by have := HFu.out; omega), hide' (by have := HL8.out; omega), HB8⟩, ?_⟩
          rw [HS8.out.p.atOf, HAT.out]
          show n + 1 - (a + 1) < n + 1 - i
          omega
      · cases t1
        · cases t2
          · have HMR3 : Hid (ans = .ok ((Ak.cSs lv ++ [s]), ⟨#[]⟩) a) := hide' (by have e := HMR2.out; simpa using e)
            clear HMR2
            go_wp2_with fail
            refine HFR.out.mono ?_
            rintro e w2 ⟨v, rfl, hx, hb2, hp2⟩
            obtain ⟨y, ax, te, nm, pw, lw, cw, hy, hye, rfl, hyo, hyl⟩ := hx.opened
            have hs2 := hb2.size
            have hbk : Below w2.heap.size w2 (w2.alloc (.cells #[.int .i64 ax, .int .i64 te, .string nm, .slice pw lw cw] 61)) := (Below.refl _ _).alloc (Nat.le_refl _) _
            have HS3 := hide' (((HS.out.go hP hb2 hp2)).below hP hbk)
            have HR3 := hide' (show (w2.alloc (.cells #[.int .i64 ax, .int .i64 te, .string nm, .slice pw lw cw] 61)).rangeAt w2.heap.size 0 y.enc by rw [hye]; exact Ak.range_of (Ak.heap_new w2 (.cells #[.int .i64 ax, .int .i64 te, .string nm, .slice pw lw cw] 61)))
            have HY3 := hide' (hyo.below hbk)
            have HYD : Hid (∀ b ∈ Ak.fS y, B ≤ b ∧ (Value.slice pv lv.length cv).ownBlock ≠ some b) := hide' (fun b hb => ⟨by have := hyl b hb; have := HBw.out; omega, fun e => by have := hyl b hb; have := HS.out.l.lt b e; omega⟩)
            have HYC := hide' hy
            have HLb := hide' (show lv.length + 1 ≤ 2097152 by have := HLn.out; omega)
            have HB3 : Hid (B ≤ (w2.alloc (.cells #[.int .i64 ax, .int .i64 te, .string nm, .slice pw lw cw] 61)).heap.size) := hide' (by have := HBw.out; simp; omega)
            clear hx hb2 hp2 hbk hy hye hyo hyl HFR HS HBw
            go_wp2_with (refine Ak.wpList_appS rfl (.tmp 8) (.tmp 11) rfl _ lv y w2.heap.size 1 rfl rfl HS3.out.l.own HR3.out HLb.out ?_; intro v' w' ho hg hv)
            have HS4 := hide' (HS3.out.app hP hW0 HB3.out HY3.out HYD.out ho hg hv HQ.out)
            have HB4 : Hid (B ≤ w'.heap.size) := hide' (Nat.le_trans HB3.out hg.size)
            have HC4 : Hid (Ak.cSs (lv ++ [y]) = Ak.cSs lv ++ [s]) := hide' (by rw [Ak.cSs_map, List.map_append, ← Ak.cSs_map]; simp [HYC.out])
            have HL4 : Hid ((lv ++ [y]).length ≤ 2 * i + 3) := hide' (by have := HLn.out; simp; omega)
            clear ho hg hv HS3 HR3 HY3 HYD HB3
            refine (C1.out w' HS4.out.p).mono ?_
            rintro e w5 ⟨rfl, hb5, hp5⟩
            have HS5 := hide' (HS4.out.go hP hb5 hp5)
            have HB5 : Hid (B ≤ w5.heap.size) := hide' (Nat.le_trans HB4.out hb5.size)
            clear hb5 hp5 HS4 HB4
            go_wp2_with fail
            refine (C2.out w5 HS5.out.p).mono ?_
            rintro e wx ⟨rfl, hb8, hp8⟩
            have HS8 := hide' (HS5.out.go hP hb8 hp8)
            clear hb8 hp8
            go_wp2_with fail
            go_ret2
            rw [HMR3.out]
            exact Ak.PrE.of_ok ⟨_, _, rfl, HS8.out.l, HC4.out⟩ HS8.out.b HS8.out.p
          · cases t3
            · have HMR3 : Hid (ans = Ak.pathR n ws wi true (f - 1) (a + 1) (Ak.cSs lv ++ [s])) := hide' (by have e := HMR2.out; simpa using e)
              clear HMR2
              go_wp2_with fail
              refine HFR.out.mono ?_
              rintro e w2 ⟨v, rfl, hx, hb2, hp2⟩
              obtain ⟨y, ax, te, nm, pw, lw, cw, hy, hye, rfl, hyo, hyl⟩ := hx.opened
              have hs2 := hb2.size
              have hbk : Below w2.heap.size w2 (w2.alloc (.cells #[.int .i64 ax, .int .i64 te, .string nm, .slice pw lw cw] 61)) := (Below.refl _ _).alloc (Nat.le_refl _) _
              have HS3 := hide' (((HS.out.go hP hb2 hp2)).below hP hbk)
              have HR3 := hide' (show (w2.alloc (.cells #[.int .i64 ax, .int .i64 te, .string nm, .slice pw lw cw] 61)).rangeAt w2.heap.size 0 y.enc by rw [hye]; exact Ak.range_of (Ak.heap_new w2 (.cells #[.int .i64 ax, .int .i64 te, .string nm, .slice pw lw cw] 61)))
              have HY3 := hide' (hyo.below hbk)
              have HYD : Hid (∀ b ∈ Ak.fS y, B ≤ b ∧ (Value.slice pv lv.length cv).ownBlock ≠ some b) := hide' (fun b hb => ⟨by have := hyl b hb; have := HBw.out; omega, fun e => by have := hyl b hb; have := HS.out.l.lt b e; omega⟩)
              have HYC := hide' hy
              have HLb := hide' (show lv.length + 1 ≤ 2097152 by have := HLn.out; omega)
              have HB3 : Hid (B ≤ (w2.alloc (.cells #[.int .i64 ax, .int .i64 te, .string nm, .slice pw lw cw] 61)).heap.size) := hide' (by have := HBw.out; simp; omega)
              clear hx hb2 hp2 hbk hy hye hyo hyl HFR HS HBw
              go_wp2_with (refine Ak.wpList_appS rfl (.tmp 8) (.tmp 11) rfl _ lv y w2.heap.size 1 rfl rfl HS3.out.l.own HR3.out HLb.out ?_; intro v' w' ho hg hv)
              have HS4 := hide' (HS3.out.app hP hW0 HB3.out HY3.out HYD.out ho hg hv HQ.out)
              have HB4 : Hid (B ≤ w'.heap.size) := hide' (Nat.le_trans HB3.out hg.size)
              have HC4 : Hid (Ak.cSs (lv ++ [y]) = Ak.cSs lv ++ [s]) := hide' (by rw [Ak.cSs_map, List.map_append, ← Ak.cSs_map]; simp [HYC.out])
              have HL4 : Hid ((lv ++ [y]).length ≤ 2 * i + 3) := hide' (by have := HLn.out; simp; omega)
              clear ho hg hv HS3 HR3 HY3 HYD HB3
              refine (C1.out w' HS4.out.p).mono ?_
              rintro e w5 ⟨rfl, hb5, hp5⟩
              have HS5 := hide' (HS4.out.go hP hb5 hp5)
              have HB5 : Hid (B ≤ w5.heap.size) := hide' (Nat.le_trans HB4.out hb5.size)
              clear hb5 hp5 HS4 HB4
              go_wp2_with fail
              refine (C2.out w5 HS5.out.p).mono ?_
              rintro e wx ⟨rfl, hb8, hp8⟩
              have HS8 := hide' (HS5.out.go hP hb8 hp8)
              have HB8 : Hid (B ≤ wx.heap.size) := hide' (Nat.le_trans HB5.out hb8.size)
              have HC8 := HC4
              have HL8 : Hid ((lv ++ [y]).length ≤ 2 * i + 4) := hide' (by have := HL4.out; omega)
              clear hb8 hp8 HS5
              go_wp2_with fail
              refine (C3.out wx HS8.out.p).mono ?_
              rintro e w10 ⟨rfl, hb10⟩
              have HS10 := hide' (HS8.out.below hP hb10)
              have HB10 : Hid (B ≤ w10.heap.size) := hide' (Nat.le_trans HB8.out hb10.size)
              clear hb10 HS8
              go_wp2_with fail
              refine ⟨⟨a + 1, f - 1, lv ++ [y], HS10, hide' (by rw [HC8.out]; exact HMR3.out.symm), hide' (by have := HFu.out; omega), hide' (by have := HL8.out; omega), HB10⟩, ?_⟩
              rw [HS10.out.p.atOf, HAT.out]
              show n + 1 - (a + 1) < n + 1 - i
              omega
            · cases R3 with
              | bad a3 why =>
                have HMR3 : Hid (ans = .bad a3 why) := hide' (by have e := HMR2.out; simpa using e)
                clear HMR2
                go_wp2_with fail
                refine HFR.out.mono ?_
                rintro e w2 ⟨v, rfl, hx, hb2, hp2⟩
                obtain ⟨y, ax, te, nm, pw, lw, cw, hy, hye, rfl, hyo, hyl⟩ := hx.opened
                have hs2 := hb2.size
                have hbk : Below w2.heap.size w2 (w2.alloc (.cells #[.int .i64 ax, .int .i64 te, .string nm, .slice pw lw cw] 61)) := (Below.refl _ _).alloc (Nat.le_refl _) _
                have HS3 := hide' (((HS.out.go hP hb2 hp2)).below hP hbk)
                have HR3 := hide' (show (w2.alloc (.cells #[.int .i64 ax, .int .i64 te, .string nm, .slice pw lw cw] 61)).rangeAt w2.heap.size 0 y.enc by rw [hye]; exact Ak.range_of (Ak.heap_new w2 (.cells #[.int .i64 ax, .int .i64 te, .string nm, .slice pw lw cw] 61)))
                have HY3 := hide' (hyo.below hbk)
                have HYD : Hid (∀ b ∈ Ak.fS y, B ≤ b ∧ (Value.slice pv lv.length cv).ownBlock ≠ some b) := hide' (fun b hb => ⟨by have := hyl b hb; have := HBw.out; omega, fun e => by have := hyl b hb; have := HS.out.l.lt b e; omega⟩)
                have HYC := hide' hy
                have HLb := hide' (show lv.length + 1 ≤ 2097152 by have := HLn.out; omega)
                have HB3 : Hid (B ≤ (w2.alloc (.cells #[.int .i64 ax, .int .i64 te, .string nm, .slice pw lw cw] 61)).heap.size) := hide' (by have := HBw.out; simp; omega)
                clear hx hb2 hp2 hbk hy hye hyo hyl HFR HS HBw
                go_wp2_with (refine Ak.wpList_appS rfl (.tmp 8) (.tmp 11) rfl _ lv y w2.heap.size 1 rfl rfl HS3.out.l.own HR3.out HLb.out ?_; intro v' w' ho hg hv)
                have HS4 := hide' (HS3.out.app hP hW0 HB3.out HY3.out HYD.out ho hg hv HQ.out)
                have HB4 : Hid (B ≤ w'.heap.size) := hide' (Nat.le_trans HB3.out hg.size)
                have HC4 : Hid (Ak.cSs (lv ++ [y]) = Ak.cSs lv ++ [s]) := hide' (by rw [Ak.cSs_map, List.map_append, ← Ak.cSs_map]; simp [HYC.out])
                have HL4 : Hid ((lv ++ [y]).length ≤ 2 * i + 3) := hide' (by have := HLn.out; simp; omega)
                clear ho hg hv HS3 HR3 HY3 HYD HB3
                refine (C1.out w' HS4.out.p).mono ?_
                rintro e w5 ⟨rfl, hb5, hp5⟩
                have HS5 := hide' (HS4.out.go hP hb5 hp5)
                have HB5 : Hid (B ≤ w5.heap.size) := hide' (Nat.le_trans HB4.out hb5.size)
                clear hb5 hp5 HS4 HB4
                go_wp2_with fail
                refine (C2.out w5 HS5.out.p).mono ?_
                rintro e wx ⟨rfl, hb8, hp8⟩
                have HS8 := hide' (HS5.out.go hP hb8 hp8)
                have HB8 : Hid (B ≤ wx.heap.size) := hide' (Nat.le_trans HB5.out hb8.size)
                have HC8 := HC4
                have HL8 : Hid ((lv ++ [y]).length ≤ 2 * i + 4) := hide' (by have := HL4.out; omega)
                clear hb8 hp8 HS5
                go_wp2_with fail
                refine (C3.out wx HS8.out.p).mono ?_
                rintro e w10 ⟨rfl, hb10⟩
                have HS10 := hide' (HS8.out.below hP hb10)
                have HB10 : Hid (B ≤ w10.heap.size) := hide' (Nat.le_trans HB8.out hb10.size)
                clear hb10 HS8
                go_wp2_with fail
                refine (C4.out w10 HS10.out.p).mono ?_
                rintro e w11 hv
                obtain ⟨d, rfl, h1, h2, h3⟩ := hv
                have HV := hide' (Ak.PrE.of_bad (qv := qv) (wv := wv) (op := op) (mo := mo) (V := Ak.PaV B) (Ak.GvE.pre ⟨d, rfl, h1, h2, h3⟩ HS10.out.b))
                clear h1 h2 h3
                go_wp2_with fail
                refine ⟨rfl, ?_⟩
                rw [HMR3.out]
                exact HV.out
              | ok tx a3 =>
                have HMR3 : Hid (ans = .ok ((Ak.cSs lv ++ [s]), tx) a3) := hide' (by have e := HMR2.out; simpa using e)
                clear HMR2
                go_wp2_with fail
                refine HFR.out.mono ?_
                rintro e w2 ⟨v, rfl, hx, hb2, hp2⟩
                obtain ⟨y, ax, te, nm, pw, lw, cw, hy, hye, rfl, hyo, hyl⟩ := hx.opened
                have hs2 := hb2.size
                have hbk : Below w2.heap.size w2 (w2.alloc (.cells #[.int .i64 ax, .int .i64 te, .string nm, .slice pw lw cw] 61)) := (Below.refl _ _).alloc (Nat.le_refl _) _
                have HS3 := hide' (((HS.out.go hP hb2 hp2)).below hP hbk)
                have HR3 := hide' (show (w2.alloc (.cells #[.int .i64 ax, .int .i64 te, .string nm, .slice pw lw cw] 61)).rangeAt w2.heap.size 0 y.enc by rw [hye]; exact Ak.range_of (Ak.heap_new w2 (.cells #[.int .i64 ax, .int .i64 te, .string nm, .slice pw lw cw] 61)))
                have HY3 := hide' (hyo.below hbk)
                have HYD : Hid (∀ b ∈ Ak.fS y, B ≤ b ∧ (Value.slice pv lv.length cv).ownBlock ≠ some b) := hide' (fun b hb => ⟨by have := hyl b hb; have := HBw.out; omega, fun e => by have := hyl b hb; have := HS.out.l.lt b e; omega⟩)
                have HYC := hide' hy
                have HLb := hide' (show lv.length + 1 ≤ 2097152 by have := HLn.out; omega)
                have HB3 : Hid (B ≤ (w2.alloc (.cells #[.int .i64 ax, .int .i64 te, .string nm, .slice pw lw cw] 61)).heap.size) := hide' (by have := HBw.out; simp; omega)
                clear hx hb2 hp2 hbk hy hye hyo hyl HFR HS HBw
                go_wp2_with (refine Ak.wpList_appS rfl (.tmp 8) (.tmp 11) rfl _ lv y w2.heap.size 1 rfl rfl HS3.out.l.own HR3.out HLb.out ?_; intro v' w' ho hg hv)
                have HS4 := hide' (HS3.out.app hP hW0 HB3.out HY3.out HYD.out ho hg hv HQ.out)
                have HB4 : Hid (B ≤ w'.heap.size) := hide' (Nat.le_trans HB3.out hg.size)
                have HC4 : Hid (Ak.cSs (lv ++ [y]) = Ak.cSs lv ++ [s]) := hide' (by rw [Ak.cSs_map, List.map_append, ← Ak.cSs_map]; simp [HYC.out])
                have HL4 : Hid ((lv ++ [y]).length ≤ 2 * i + 3) := hide' (by have := HLn.out; simp; omega)
                clear ho hg hv HS3 HR3 HY3 HYD HB3
                refine (C1.out w' HS4.out.p).mono ?_
                rintro e w5 ⟨rfl, hb5, hp5⟩
                have HS5 := hide' (HS4.out.go hP hb5 hp5)
                have HB5 : Hid (B ≤ w5.heap.size) := hide' (Nat.le_trans HB4.out hb5.size)
                clear hb5 hp5 HS4 HB4
                go_wp2_with fail
                refine (C2.out w5 HS5.out.p).mono ?_
                rintro e wx ⟨rfl, hb8, hp8⟩
                have HS8 := hide' (HS5.out.go hP hb8 hp8)
                have HB8 : Hid (B ≤ wx.heap.size) := hide' (Nat.le_trans HB5.out hb8.size)
                have HC8 := HC4
                have HL8 : Hid ((lv ++ [y]).length ≤ 2 * i + 4) := hide' (by have := HL4.out; omega)
                clear hb8 hp8 HS5
                go_wp2_with fail
                refine (C3.out wx HS8.out.p).mono ?_
                rintro e w10 ⟨rfl, hb10⟩
                have HS10 := hide' (HS8.out.below hP hb10)
                have HB10 : Hid (B ≤ w10.heap.size) := hide' (Nat.le_trans HB8.out hb10.size)
                clear hb10 HS8
                go_wp2_with fail
                refine (C4.out w10 HS10.out.p).mono ?_
                rintro e w11 ⟨v, rfl, rfl, hb11, hp11⟩
                have HS11 := hide' (HS10.out.go hP hb11 hp11)
                clear hb11 hp11
                go_wp2_with fail
                go_ret2
                rw [HMR3.out]
                exact Ak.PrE.of_ok ⟨_, _, rfl, HS11.out.l, HC8.out⟩ HS11.out.b HS11.out.p
        · cases t3
          · have HMR3 : Hid (ans = Ak.pathR n ws wi true (f - 1) (a + 1) (Ak.cSs lv ++ [s, Ak.anyP])) := hide' (by have e := HMR2.out; simpa using e)
            clear HMR2
            go_wp2_with fail
            refine HFR.out.mono ?_
            rintro e w2 ⟨v, rfl, hx, hb2, hp2⟩
            obtain ⟨y, ax, te, nm, pw, lw, cw, hy, hye, rfl, hyo, hyl⟩ := hx.opened
            have hs2 := hb2.size
            have hbk : Below w2.heap.size w2 (w2.alloc (.cells #[.int .i64 ax, .int .i64 te, .string nm, .slice pw lw cw] 61)) := (Below.refl _ _).alloc (Nat.le_refl _) _
            have HS3 := hide' (((HS.out.go hP hb2 hp2)).below hP hbk)
            have HR3 := hide' (show (w2.alloc (.cells #[.int .i64 ax, .int .i64 te, .string nm, .slice pw lw cw] 61)).rangeAt w2.heap.size 0 y.enc by rw [hye]; exact Ak.range_of (Ak.heap_new w2 (.cells #[.int .i64 ax, .int .i64 te, .string nm, .slice pw lw cw] 61)))
            have HY3 := hide' (hyo.below hbk)
            have HYD : Hid (∀ b ∈ Ak.fS y, B ≤ b ∧ (Value.slice pv lv.length cv).ownBlock ≠ some b) := hide' (fun b hb => ⟨by have := hyl b hb; have := HBw.out; omega, fun e => by have := hyl b hb; have := HS.out.l.lt b e; omega⟩)
            have HYC := hide' hy
            have HLb := hide' (show lv.length + 1 ≤ 2097152 by have := HLn.out; omega)
            have HB3 : Hid (B ≤ (w2.alloc (.cells #[.int .i64 ax, .int .i64 te, .string nm, .slice pw lw cw] 61)).heap.size) := hide' (by have := HBw.out; simp; omega)
            clear hx hb2 hp2 hbk hy hye hyo hyl HFR HS HBw
            go_wp2_with (refine Ak.wpList_appS rfl (.tmp 8) (.tmp 11) rfl _ lv y w2.heap.size 1 rfl rfl HS3.out.l.own HR3.out HLb.out ?_; intro v' w' ho hg hv)
            have HS4 := hide' (HS3.out.app hP hW0 HB3.out HY3.out HYD.out ho hg hv HQ.out)
            have HB4 : Hid (B ≤ w'.heap.size) := hide' (Nat.le_trans HB3.out hg.size)
            have HC4 : Hid (Ak.cSs (lv ++ [y]) = Ak.cSs lv ++ [s]) := hide' (by rw [Ak.cSs_map, List.map_append, ← Ak.cSs_map]; simp [HYC.out])
            have HL4 : Hid ((lv ++ [y]).length ≤ 2 * i + 3) := hide' (by have := HLn.out; simp; omega)
            clear ho hg hv HS3 HR3 HY3 HYD HB3
            refine (C1.out w' HS4.out.p).mono ?_
            rintro e w5 ⟨rfl, hb5, hp5⟩
            have HS5 := hide' (HS4.out.go hP hb5 hp5)
            have HB5 : Hid (B ≤ w5.heap.size) := hide' (Nat.le_trans HB4.out hb5.size)
            clear hb5 hp5 HS4 HB4
            go_wp2_with fail
            refine (akAnyDepth w5).mono ?_
            rintro e w6 ⟨rfl, hb6⟩
            unfold Ak.stC
            have hbk : Below w6.heap.size w6 (w6.alloc (.cells #[.int .i64 2, .int .i64 3, .string ⟨#[]⟩, .slice none 0 0] 61)) := (Below.refl _ _).alloc (Nat.le_refl _) _
            have HS7 := hide' ((HS5.out.below hP hb6).below hP hbk)
            have HR7 := hide' (show (w6.alloc (.cells #[.int .i64 2, .int .i64 3, .string ⟨#[]⟩, .slice none 0 0] 61)).rangeAt w6.heap.size 0 (Ak.Sv.mk 2 3 ⟨#[]⟩ none 0 []).enc from Ak.range_of (Ak.heap_new w6 (.cells #[.int .i64 2, .int .i64 3, .string ⟨#[]⟩, .slice none 0 0] 61)))
            have HY7 := hide' (Ak.OkS.of (ax := 2) (te := 3) (nm := ⟨#[]⟩) (Ak.RowX.nil (w6.alloc (.cells #[.int .i64 2, .int .i64 3, .string ⟨#[]⟩, .slice none 0 0] 61))))
            have HYD7 : Hid (∀ b ∈ Ak.fS (.mk 2 3 ⟨#[]⟩ none 0 []), B ≤ b ∧ v'.ownBlock ≠ some b) := hide' (fun b hb => by simp [Ak.fS, Ak.pb, Ak.fXs] at hb)
            have HLb7 := hide' (show (lv ++ [y]).length + 1 ≤ 2097152 by have := HL4.out; omega)
            have HB7 : Hid (B ≤ (w6.alloc (.cells #[.int .i64 2, .int .i64 3, .string ⟨#[]⟩, .slice none 0 0] 61)).heap.size) := hide' (by have := HB5.out; have := hb6.size; simp; omega)
            clear hb6 hbk HS5
            go_wp2_with (refine Ak.wpList_appS rfl (.tmp 15) (.tmp 17) rfl v' (lv ++ [y]) (.mk 2 3 ⟨#[]⟩ none 0 []) w6.heap.size 1 rfl rfl HS7.out.l.own HR7.out HLb7.out ?_; intro vx wx ho hg hv)
            have HS8 := hide' (HS7.out.app hP hW0 HB7.out HY7.out HYD7.out ho hg hv HQ.out)
            have HB8 : Hid (B ≤ wx.heap.size) := hide' (Nat.le_trans HB7.out hg.size)
            have HC8 : Hid (Ak.cSs (lv ++ [y] ++ [.mk 2 3 ⟨#[]⟩ none 0 []]) = Ak.cSs lv ++ [s, Ak.anyP]) := hide' (by rw [Ak.cSs_app, HC4.out]; simp [Ak.cSs, Ak.cS, Ak.cXs, Ak.anyP])
            have HL8 : Hid ((lv ++ [y] ++ [Ak.Sv.mk 2 3 ⟨#[]⟩ none 0 []]).length ≤ 2 * i + 4) := hide' (by have := HL4.out; simp at this ⊢; omega)
            clear ho hg hv HS7 HR7 HY7 HYD7 HB7
            refine (C3.out wx HS8.out.p).mono ?_
            rintro e w10 ⟨rfl, hb10⟩
            have HS10 := hide' (HS8.out.below hP hb10)
            have HB10 : Hid (B ≤ w10.heap.size) := hide' (Nat.le_trans HB8.out hb10.size)
            clear hb10 HS8
            go_wp2_with fail
            refine ⟨⟨a + 1, f - 1, lv ++ [y] ++ [.mk 2 3 ⟨#[]⟩ none 0 []], HS10, hide' (by rw [HC8.out]; exact HMR3.out.symm), hide' (by have := HFu.out; omega), hide' (by have := HL8.out; omega), HB10⟩, ?_⟩
            rw [HS10.out.p.atOf, HAT.out]
            show n + 1 - (a + 1) < n + 1 - i
            omega
          · cases R3 with
            | bad a3 why =>
              have HMR3 : Hid (ans = .bad a3 why) := hide' (by have e := HMR2.out; simpa using e)
              clear HMR2
              go_wp2_with fail
              refine HFR.out.mono ?_
              rintro e w2 ⟨v, rfl, hx, hb2, hp2⟩
              obtain ⟨y, ax, te, nm, pw, lw, cw, hy, hye, rfl, hyo, hyl⟩ := hx.opened
              have hs2 := hb2.size
              have hbk : Below w2.heap.size w2 (w2.alloc (.cells #[.int .i64 ax, .int .i64 te, .string nm, .slice pw lw cw] 61)) := (Below.refl _ _).alloc (Nat.le_refl _) _
              have HS3 := hide' (((HS.out.go hP hb2 hp2)).below hP hbk)
              have HR3 := hide' (show (w2.alloc (.cells #[.int .i64 ax, .int .i64 te, .string nm, .slice pw lw cw] 61)).rangeAt w2.heap.size 0 y.enc by rw [hye]; exact Ak.range_of (Ak.heap_new w2 (.cells #[.int .i64 ax, .int .i64 te, .string nm, .slice pw lw cw] 61)))
              have HY3 := hide' (hyo.below hbk)
              have HYD : Hid (∀ b ∈ Ak.fS y, B ≤ b ∧ (Value.slice pv lv.length cv).ownBlock ≠ some b) := hide' (fun b hb => ⟨by have := hyl b hb; have := HBw.out; omega, fun e => by have := hyl b hb; have := HS.out.l.lt b e; omega⟩)
              have HYC := hide' hy
              have HLb := hide' (show lv.length + 1 ≤ 2097152 by have := HLn.out; omega)
              have HB3 : Hid (B ≤ (w2.alloc (.cells #[.int .i64 ax, .int .i64 te, .string nm, .slice pw lw cw] 61)).heap.size) := hide' (by have := HBw.out; simp; omega)
              clear hx hb2 hp2 hbk hy hye hyo hyl HFR HS HBw
              go_wp2_with (refine Ak.wpList_appS rfl (.tmp 8) (.tmp 11) rfl _ lv y w2.heap.size 1 rfl rfl HS3.out.l.own HR3.out HLb.out ?_; intro v' w' ho hg hv)
              have HS4 := hide' (HS3.out.app hP hW0 HB3.out HY3.out HYD.out ho hg hv HQ.out)
              have HB4 : Hid (B ≤ w'.heap.size) := hide' (Nat.le_trans HB3.out hg.size)
              have HC4 : Hid (Ak.cSs (lv ++ [y]) = Ak.cSs lv ++ [s]) := hide' (by rw [Ak.cSs_map, List.map_append, ← Ak.cSs_map]; simp [HYC.out])
              have HL4 : Hid ((lv ++ [y]).length ≤ 2 * i + 3) := hide' (by have := HLn.out; simp; omega)
              clear ho hg hv HS3 HR3 HY3 HYD HB3
              refine (C1.out w' HS4.out.p).mono ?_
              rintro e w5 ⟨rfl, hb5, hp5⟩
              have HS5 := hide' (HS4.out.go hP hb5 hp5)
              have HB5 : Hid (B ≤ w5.heap.size) := hide' (Nat.le_trans HB4.out hb5.size)
              clear hb5 hp5 HS4 HB4
              go_wp2_with fail
              refine (akAnyDepth w5).mono ?_
              rintro e w6 ⟨rfl, hb6⟩
              unfold Ak.stC
              have hbk : Below w6.heap.size w6 (w6.alloc (.cells #[.int .i64 2, .int .i64 3, .string ⟨#[]⟩, .slice none 0 0] 61)) := (Below.refl _ _).alloc (Nat.le_refl _) _
              have HS7 := hide' ((HS5.out.below hP hb6).below hP hbk)
              have HR7 := hide' (show (w6.alloc (.cells #[.int .i64 2, .int .i64 3, .string ⟨#[]⟩, .slice none 0 0] 61)).rangeAt w6.heap.size 0 (Ak.Sv.mk 2 3 ⟨#[]⟩ none 0 []).enc from Ak.range_of (Ak.heap_new w6 (.cells #[.int .i64 2, .int .i64 3, .string ⟨#[]⟩, .slice none 0 0] 61)))
              have HY7 := hide' (Ak.OkS.of (ax := 2) (te := 3) (nm := ⟨#[]⟩) (Ak.RowX.nil (w6.alloc (.cells #[.int .i64 2, .int .i64 3, .string ⟨#[]⟩, .slice none 0 0] 61))))
              have HYD7 : Hid (∀ b ∈ Ak.fS (.mk 2 3 ⟨#[]⟩ none 0 []), B ≤ b ∧ v'.ownBlock ≠ some b) := hide' (fun b hb => by simp [Ak.fS, Ak.pb, Ak.fXs] at hb)
              have HLb7 := hide' (show (lv ++ [y]).length + 1 ≤ 2097152 by have := HL4.out; omega)
              have HB7 : Hid (B ≤ (w6.alloc (.cells #[.int .i64 2, .int .i64 3, .string ⟨#[]⟩, .slice none 0 0] 61)).heap.size) := hide' (by have := HB5.out; have := hb6.size; simp; omega)
              clear hb6 hbk HS5
              go_wp2_with (refine Ak.wpList_appS rfl (.tmp 15) (.tmp 17) rfl v' (lv ++ [y]) (.mk 2 3 ⟨#[]⟩ none 0 []) w6.heap.size 1 rfl rfl HS7.out.l.own HR7.out HLb7.out ?_; intro vx wx ho hg hv)
              have HS8 := hide' (HS7.out.app hP hW0 HB7.out HY7.out HYD7.out ho hg hv HQ.out)
              have HB8 : Hid (B ≤ wx.heap.size) := hide' (Nat.le_trans HB7.out hg.size)
              have HC8 : Hid (Ak.cSs (lv ++ [y] ++ [.mk 2 3 ⟨#[]⟩ none 0 []]) = Ak.cSs lv ++ [s, Ak.anyP]) := hide' (by rw [Ak.cSs_app, HC4.out]; simp [Ak.cSs, Ak.cS, Ak.cXs, Ak.anyP])
              have HL8 : Hid ((lv ++ [y] ++ [Ak.Sv.mk 2 3 ⟨#[]⟩ none 0 []]).length ≤ 2 * i + 4) := hide' (by have := HL4.out; simp at this ⊢; omega)
              clear ho hg hv HS7 HR7 HY7 HYD7 HB7
              refine (C3.out wx HS8.out.p).mono ?_
              rintro e w10 ⟨rfl, hb10⟩
              have HS10 := hide' (HS8.out.below hP hb10)
              have HB10 : Hid (B ≤ w10.heap.size) := hide' (Nat.le_trans HB8.out hb10.size)
              clear hb10 HS8
              go_wp2_with fail
              refine (C4.out w10 HS10.out.p).mono ?_
              rintro e w11 hv
              obtain ⟨d, rfl, h1, h2, h3⟩ := hv
              have HV := hide' (Ak.PrE.of_bad (qv := qv) (wv := wv) (op := op) (mo := mo) (V := Ak.PaV B) (Ak.GvE.pre ⟨d, rfl, h1, h2, h3⟩ HS10.out.b))
              clear h1 h2 h3
              go_wp2_with fail
              refine ⟨rfl, ?_⟩
              rw [HMR3.out]
              exact HV.out
            | ok tx a3 =>
              have HMR3 : Hid (ans = .ok ((Ak.cSs lv ++ [s, Ak.anyP]), tx) a3) := hide' (by have e := HMR2.out; simpa using e)
              clear HMR2
              go_wp2_with fail
              refine HFR.out.mono ?_
              rintro e w2 ⟨v, rfl, hx, hb2, hp2⟩
              obtain ⟨y, ax, te, nm, pw, lw, cw, hy, hye, rfl, hyo, hyl⟩ := hx.opened
              have hs2 := hb2.size
              have hbk : Below w2.heap.size w2 (w2.alloc (.cells #[.int .i64 ax, .int .i64 te, .string nm, .slice pw lw cw] 61)) := (Below.refl _ _).alloc (Nat.le_refl _) _
              have HS3 := hide' (((HS.out.go hP hb2 hp2)).below hP hbk)
              have HR3 := hide' (show (w2.alloc (.cells #[.int .i64 ax, .int .i64 te, .string nm, .slice pw lw cw] 61)).rangeAt w2.heap.size 0 y.enc by rw [hye]; exact Ak.range_of (Ak.heap_new w2 (.cells #[.int .i64 ax, .int .i64 te, .string nm, .slice pw lw cw] 61)))
              have HY3 := hide' (hyo.below hbk)
              have HYD : Hid (∀ b ∈ Ak.fS y, B ≤ b ∧ (Value.slice pv lv.length cv).ownBlock ≠ some b) := hide' (fun b hb => ⟨by have := hyl b hb; have := HBw.out; omega, fun e => by have := hyl b hb; have := HS.out.l.lt b e; omega⟩)
              have HYC := hide' hy
              have HLb := hide' (show lv.length + 1 ≤ 2097152 by have := HLn.out; omega)
              have HB3 : Hid (B ≤ (w2.alloc (.cells #[.int .i64 ax, .int .i64 te, .string nm, .slice pw lw cw] 61)).heap.size) := hide' (by have := HBw.out; simp; omega)
              clear hx hb2 hp2 hbk hy hye hyo hyl HFR HS HBw
              go_wp2_with (refine Ak.wpList_appS rfl (.tmp 8) (.tmp 11) rfl _ lv y w2.heap.size 1 rfl rfl HS3.out.l.own HR3.out HLb.out ?_; intro v' w' ho hg hv)
              have HS4 := hide' (HS3.out.app hP hW0 HB3.out HY3.out HYD.out ho hg hv HQ.out)
              have HB4 : Hid (B ≤ w'.heap.size) := hide' (Nat.le_trans HB3.out hg.size)
              have HC4 : Hid (Ak.cSs (lv ++ [y]) = Ak.cSs lv ++ [s]) := hide' (by rw [Ak.cSs_map, List.map_append, ← Ak.cSs_map]; simp [HYC.out])
              have HL4 : Hid ((lv ++ [y]).length ≤ 2 * i + 3) := hide' (by have := HLn.out; simp; omega)
              clear ho hg hv HS3 HR3 HY3 HYD HB3
              refine (C1.out w' HS4.out.p).mono ?_
              rintro e w5 ⟨rfl, hb5, hp5⟩
              have HS5 := hide' (HS4.out.go hP hb5 hp5)
              have HB5 : Hid (B ≤ w5.heap.size) := hide' (Nat.le_trans HB4.out hb5.size)
              clear hb5 hp5 HS4 HB4
              go_wp2_with fail
              refine (akAnyDepth w5).mono ?_
              rintro e w6 ⟨rfl, hb6⟩
              unfold Ak.stC
              have hbk : Below w6.heap.size w6 (w6.alloc (.cells #[.int .i64 2, .int .i64 3, .string ⟨#[]⟩, .slice none 0 0] 61)) := (Below.refl _ _).alloc (Nat.le_refl _) _
              have HS7 := hide' ((HS5.out.below hP hb6).below hP hbk)
              have HR7 := hide' (show (w6.alloc (.cells #[.int .i64 2, .int .i64 3, .string ⟨#[]⟩, .slice none 0 0] 61)).rangeAt w6.heap.size 0 (Ak.Sv.mk 2 3 ⟨#[]⟩ none 0 []).enc from Ak.range_of (Ak.heap_new w6 (.cells #[.int .i64 2, .int .i64 3, .string ⟨#[]⟩, .slice none 0 0] 61)))
              have HY7 := hide' (Ak.OkS.of (ax := 2) (te := 3) (nm := ⟨#[]⟩) (Ak.RowX.nil (w6.alloc (.cells #[.int .i64 2, .int .i64 3, .string ⟨#[]⟩, .slice none 0 0] 61))))
              have HYD7 : Hid (∀ b ∈ Ak.fS (.mk 2 3 ⟨#[]⟩ none 0 []), B ≤ b ∧ v'.ownBlock ≠ some b) := hide' (fun b hb => by simp [Ak.fS, Ak.pb, Ak.fXs] at hb)
              have HLb7 := hide' (show (lv ++ [y]).length + 1 ≤ 2097152 by have := HL4.out; omega)
              have HB7 : Hid (B ≤ (w6.alloc (.cells #[.int .i64 2, .int .i64 3, .string ⟨#[]⟩, .slice none 0 0] 61)).heap.size) := hide' (by have := HB5.out; have := hb6.size; simp; omega)
              clear hb6 hbk HS5
              go_wp2_with (refine Ak.wpList_appS rfl (.tmp 15) (.tmp 17) rfl v' (lv ++ [y]) (.mk 2 3 ⟨#[]⟩ none 0 []) w6.heap.size 1 rfl rfl HS7.out.l.own HR7.out HLb7.out ?_; intro vx wx ho hg hv)
              have HS8 := hide' (HS7.out.app hP hW0 HB7.out HY7.out HYD7.out ho hg hv HQ.out)
              have HB8 : Hid (B ≤ wx.heap.size) := hide' (Nat.le_trans HB7.out hg.size)
              have HC8 : Hid (Ak.cSs (lv ++ [y] ++ [.mk 2 3 ⟨#[]⟩ none 0 []]) = Ak.cSs lv ++ [s, Ak.anyP]) := hide' (by rw [Ak.cSs_app, HC4.out]; simp [Ak.cSs, Ak.cS, Ak.cXs, Ak.anyP])
              have HL8 : Hid ((lv ++ [y] ++ [Ak.Sv.mk 2 3 ⟨#[]⟩ none 0 []]).length ≤ 2 * i + 4) := hide' (by have := HL4.out; simp at this ⊢; omega)
              clear ho hg hv HS7 HR7 HY7 HYD7 HB7
              refine (C3.out wx HS8.out.p).mono ?_
              rintro e w10 ⟨rfl, hb10⟩
              have HS10 := hide' (HS8.out.below hP hb10)
              have HB10 : Hid (B ≤ w10.heap.size) := hide' (Nat.le_trans HB8.out hb10.size)
              clear hb10 HS8
              go_wp2_with fail
              refine (C4.out w10 HS10.out.p).mono ?_
              rintro e w11 ⟨v, rfl, rfl, hb11, hp11⟩
              have HS11 := hide' (HS10.out.go hP hb11 hp11)
              clear hb11 hp11
              go_wp2_with fail
              go_ret2
              rw [HMR3.out]
              exact Ak.PrE.of_ok ⟨_, _, rfl, HS11.out.l, HC8.out⟩ HS11.out.b HS11.out.p
end Go.Proofs.YtcnagbkdckipnaaGreatDoor
