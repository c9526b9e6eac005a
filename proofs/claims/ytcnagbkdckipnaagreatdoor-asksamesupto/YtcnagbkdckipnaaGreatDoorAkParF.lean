import Derived.Test.YtcnagbkdckipnaaGreatDoorAkParC
/-
  WALKS over the parser's attr, emptyCall, test, compare.
-/
namespace Go.Proofs.YtcnagbkdckipnaaGreatDoor
open Go.RowKit Go.Lib
namespace Ak
def Res.bind {α β : Type} : Res α → (α → Nat → Res β) → Res β
  | .ok x a, f => f x a
  | .bad a why, _ => .bad a why
def attrR (n : Nat) (ws : Nat → Wo) (i : Nat) : Res ByteArray := (needR n ws i ⟨#[64]⟩).bind fun _ a => (takeR n ws a 0).bind fun x a => .ok x.tx a
theorem woText (W : World) (k : Int) (tx : ByteArray) (nu p0 p1 p2 p3 : Int) : (Instr.field 86 (.agg #[.int .i64 k, .string tx, .int .i64 nu, .int .i64 p0, .int .i64 p1, .int .i64 p2, .int .i64 p3]) 1).run Tryz.prog W = .ok (.string tx) W := by kernel_rfl
def txV (x : ByteArray) (v : Value) (_ : World) : Prop := v = .string x
end Ak
set_option maxRecDepth 100000 in
set_option maxHeartbeats 2000000 in
theorem akAttr (W : World) (P : Nat) (qv wv : Value) (n : Nat) (ws : Nat → Ak.Wo) (en : Ak.Wo) (at_ op mo : Nat) (h : Ak.Ps W P qv wv n ws at_ op mo) (hg : Ak.GU P qv wv n ws en) :
    Calls Tryz.prog 75 #[.pointer (some ⟨P, 0, none⟩)] W (Ak.PrE P qv wv n ws en op mo W Ak.txV (Ak.attrR n ws at_)) := by
  have C := hide' (akNeed W P qv wv n ws en at_ op mo h hg ⟨#[64]⟩)
  have CT := hide' (fun (w1 : World) (a : Nat) (hp : Ak.Ps w1 P qv wv n ws a op mo) => akTake w1 P qv wv n ws en a op mo hp hg 0)
  unfold Ak.attrR
  obtain ⟨R, hR⟩ : ∃ R, Ak.needR n ws at_ ⟨#[64]⟩ = R := ⟨_, rfl⟩
  rw [hR] at C ⊢
  clear h hg hR
  cases R with
  | bad a why =>
    go_enter Tryz.func75, Tryz.ntmps75
    go_wp2_with fail
    refine C.out.mono ?_
    rintro e w2 hv
    obtain ⟨d, rfl, h1, h2, h3⟩ := hv
    have HV := hide' (Ak.PrE.of_bad (qv := qv) (wv := wv) (op := op) (mo := mo) (V := Ak.txV) ⟨d, rfl, h1, h2, h3⟩)
    clear C h1 h2 h3
    go_wp2_with fail
    exact ⟨rfl, HV.out⟩
  | ok x a =>
    show Calls _ _ _ _ (Ak.PrE P qv wv n ws en op mo W Ak.txV ((Ak.takeR n ws a 0).bind fun x a => .ok x.tx a))
    obtain ⟨R, hR⟩ : ∃ R, Ak.takeR n ws a 0 = R := ⟨_, rfl⟩
    rw [hR]
    have HR := hide' hR
    clear hR
    cases R with
    | bad a2 why =>
      go_enter Tryz.func75, Tryz.ntmps75
      go_wp2_with fail
      refine C.out.mono ?_
      rintro e w1 ⟨v, rfl, rfl, hb, hp⟩
      have D := hide' (HR.out ▸ CT.out w1 a hp)
      have HB := hide' hb
      clear hb hp C CT
      go_wp2_with fail
      refine D.out.mono ?_
      rintro e w2 hv
      obtain ⟨d, rfl, h1, h2, h3⟩ := hv
      have HV := hide' (Ak.PrE.of_bad (qv := qv) (wv := wv) (op := op) (mo := mo) (V := Ak.txV) (Ak.GvE.pre ⟨d, rfl, h1, h2, h3⟩ HB.out))
      clear D h1 h2 h3
      go_wp2_with fail
      exact ⟨rfl, HV.out⟩
    | ok x2 a2 =>
      go_enter Tryz.func75, Tryz.ntmps75
      go_wp2_with fail
      refine C.out.mono ?_
      rintro e w1 ⟨v, rfl, rfl, hb, hp⟩
      have D := hide' (HR.out ▸ CT.out w1 a hp)
      have HB := hide' hb
      clear hb hp C CT
      go_wp2_with fail
      refine D.out.mono ?_
      rintro e w2 ⟨v, rfl, rfl, hb2, hp2⟩
      have HV := hide' (Ak.PrE.of_ok (en := en) (V := Ak.txV) (x := x2.tx) (v := .string x2.tx) rfl (HB.out.trans hb2) hp2)
      clear D hb2 hp2
      obtain ⟨k, tx, nu, p0, p1, p2, p3⟩ := x2
      unfold Ak.Wo.cs
      dsimp only at HV ⊢
      have fo := Ak.woText w2 k tx nu p0 p1 p2 p3
      go_wp2_with fail
      go_ret
      exact HV.out
namespace Ak
def emptyR (n : Nat) (ws : Nat → Wo) (i : Nat) : Res Unit := needR n ws (i + 2) ⟨#[41]⟩
end Ak
set_option maxRecDepth 100000 in
set_option maxHeartbeats 2000000 in
theorem akEmpty (W : World) (P : Nat) (qv wv : Value) (n : Nat) (ws : Nat → Ak.Wo) (en : Ak.Wo) (at_ op mo : Nat) (h : Ak.Ps W P qv wv n ws at_ op mo) (hg : Ak.GU P qv wv n ws en) (h2 : at_ + 2 ≤ n) :
    Calls Tryz.prog 123 #[.pointer (some ⟨P, 0, none⟩)] W (Ak.PrE P qv wv n ws en op mo W Ak.noV (Ak.emptyR n ws at_)) := by
  unfold Ak.emptyR
  have hq := Ak.Pb.set W P 2 (.int .i64 ((at_ + 2 : Nat) : Int))
  have hp := h.go hq (h.c.set2 (at_ + 2)) h2 h.opm
  have C := hide' (akNeed _ P qv wv n ws en (at_ + 2) op mo hp hg ⟨#[41]⟩)
  have HQ := hide' hq
  obtain ⟨_, _, c2, _, _, c5⟩ := h.c.cells
  have f2 := c5 2
  have tw : IntKind.i64.wrap ((at_ : Int) + 2) = ((at_ + 2 : Nat) : Int) := by have := h.nn; rw [IntKind.wrap_i64]; omega
  obtain ⟨R, hR⟩ : ∃ R, Ak.needR n ws (at_ + 2) ⟨#[41]⟩ = R := ⟨_, rfl⟩
  rw [hR] at C ⊢
  clear h hg hR hp hq h2 c5
  cases R with
  | bad a why =>
    go_enter Tryz.func123, Tryz.ntmps123
    go_wp2_with fail
    refine C.out.mono ?_
    rintro e w2 hv
    obtain ⟨d, rfl, h1, h2, h3⟩ := hv
    have HV := hide' (Ak.PrE.of_bad (qv := qv) (wv := wv) (op := op) (mo := mo) (V := Ak.noV (α := Unit)) (Ak.GvE.pre ⟨d, rfl, h1, h2, h3⟩ HQ.out))
    clear C h1 h2 h3
    go_wp2_with fail
    exact ⟨rfl, HV.out⟩
  | ok x a =>
    go_enter Tryz.func123, Tryz.ntmps123
    go_wp2_with fail
    refine C.out.mono ?_
    rintro e w2 ⟨v, rfl, rfl, hb2, hp2⟩
    have HV := hide' (Ak.PrE.of_ok (en := en) (V := Ak.noV) (x := x) (v := .tuple #[]) rfl (HQ.out.trans hb2) hp2)
    clear C hb2 hp2
    go_wp2_with fail
    go_end0
    exact HV.out
end Go.Proofs.YtcnagbkdckipnaaGreatDoor
/-
  WALKS over the parser's test.
-/
namespace Go.Proofs.YtcnagbkdckipnaaGreatDoor
open Go.RowKit Go.Lib
namespace Ak
def tmV (x : Int × ByteArray) (v : Value) (_ : World) : Prop := v = .tuple #[.int .i64 x.1, .string x.2]
def testR (n : Nat) (ws : Nat → Wo) (i : Nat) : Res (Int × ByteArray) :=
  if sgB n ws i ⟨#[42]⟩ = true then .ok (1, ⟨#[]⟩) (i + 1)
  else if clB n ws i ⟨#[116, 101, 120, 116]⟩ = true then (emptyR n ws i).bind fun _ a => .ok (2, ⟨#[]⟩) a
  else if clB n ws i ⟨#[110, 111, 100, 101]⟩ = true then (emptyR n ws i).bind fun _ a => .ok (3, ⟨#[]⟩) a
  else (takeR n ws i 0).bind fun x a => .ok (0, x.tx) a
theorem clB_lt {n : Nat} {ws : Nat → Wo} {i : Nat} {s : ByteArray} (h : clB n ws i s = true) : i + 2 ≤ n := by
  unfold clB sgB at h
  simp at h
  omega
end Ak
set_option maxRecDepth 100000 in
set_option maxHeartbeats 4000000 in
theorem akTest (W : World) (P : Nat) (qv wv : Value) (n : Nat) (ws : Nat → Ak.Wo) (en : Ak.Wo) (at_ op mo : Nat) (h : Ak.Ps W P qv wv n ws at_ op mo) (hg : Ak.GU P qv wv n ws en) :
    Calls Tryz.prog 99 #[.pointer (some ⟨P, 0, none⟩)] W (Ak.PrE P qv wv n ws en op mo W Ak.tmV (Ak.testR n ws at_)) := by
  have C := hide' (akSkip W P qv wv n ws at_ op mo h ⟨#[42]⟩)
  have C1 := hide' (fun (w1 : World) (hp : Ak.Ps w1 P qv wv n ws at_ op mo) => akCalls w1 P qv wv n ws at_ op mo hp ⟨#[116, 101, 120, 116]⟩)
  have C2 := hide' (fun (w1 : World) (hp : Ak.Ps w1 P qv wv n ws at_ op mo) => akCalls w1 P qv wv n ws at_ op mo hp ⟨#[110, 111, 100, 101]⟩)
  have CE := hide' (fun (w1 : World) (hp : Ak.Ps w1 P qv wv n ws at_ op mo) (h2 : at_ + 2 ≤ n) => akEmpty w1 P qv wv n ws en at_ op mo hp hg h2)
  have CT := hide' (fun (w1 : World) (hp : Ak.Ps w1 P qv wv n ws at_ op mo) => akTake w1 P qv wv n ws en at_ op mo hp hg 0)
  have L1 := hide' (fun h : Ak.clB n ws at_ ⟨#[116, 101, 120, 116]⟩ = true => Ak.clB_lt h)
  have L2 := hide' (fun h : Ak.clB n ws at_ ⟨#[110, 111, 100, 101]⟩ = true => Ak.clB_lt h)
  unfold Ak.testR
  obtain ⟨t0, ht0⟩ : ∃ t, Ak.sgB n ws at_ ⟨#[42]⟩ = t := ⟨_, rfl⟩
  obtain ⟨t1, ht1⟩ : ∃ t, Ak.clB n ws at_ ⟨#[116, 101, 120, 116]⟩ = t := ⟨_, rfl⟩
  obtain ⟨t2, ht2⟩ : ∃ t, Ak.clB n ws at_ ⟨#[110, 111, 100, 101]⟩ = t := ⟨_, rfl⟩
  rw [ht0] at C ⊢
  rw [ht1] at C1 L1 ⊢
  rw [ht2] at C2 L2 ⊢
  obtain ⟨RE, hRE⟩ : ∃ R, Ak.emptyR n ws at_ = R := ⟨_, rfl⟩
  obtain ⟨RT, hRT⟩ : ∃ R, Ak.takeR n ws at_ 0 = R := ⟨_, rfl⟩
  rw [hRE] at CE ⊢
  rw [hRT] at CT ⊢
  clear h hg ht0 ht1 ht2 hRE hRT
  cases t0
  · rw [if_neg (by decide)]
    cases t1
    · rw [if_neg (by decide)]
      cases t2
      · rw [if_neg (by decide)]
        cases RT with
        | bad a why =>
          go_enter Tryz.func99, Tryz.ntmps99
          go_wp2_with fail
          refine C.out.mono ?_
          rintro e w1 ⟨rfl, hb, hp⟩
          have HB := hide' hb
          have HP := hide' hp
          clear hb hp C
          go_wp2_with fail
          refine (C1.out _ HP.out).mono ?_
          rintro e w2 ⟨rfl, hb⟩
          have HP := hide' (HP.out.below hb)
          have HB := hide' (HB.out.trans (.of_below (b := P) hb))
          clear hb C1
          go_wp2_with fail
          refine (C2.out _ HP.out).mono ?_
          rintro e w3 ⟨rfl, hb⟩
          have HP := hide' (HP.out.below hb)
          have HB := hide' (HB.out.trans (.of_below (b := P) hb))
          clear hb C2
          go_wp2_with fail
          refine (CT.out _ HP.out).mono ?_
          rintro e w9 hv
          obtain ⟨d, rfl, h1, h2, h3⟩ := hv
          have HV := hide' (Ak.PrE.of_bad (qv := qv) (wv := wv) (op := op) (mo := mo) (V := Ak.tmV) (Ak.GvE.pre ⟨d, rfl, h1, h2, h3⟩ HB.out))
          clear h1 h2 h3
          go_wp2_with fail
          exact ⟨rfl, HV.out⟩
        | ok x2 a =>
          go_enter Tryz.func99, Tryz.ntmps99
          go_wp2_with fail
          refine C.out.mono ?_
          rintro e w1 ⟨rfl, hb, hp⟩
          have HB := hide' hb
          have HP := hide' hp
          clear hb hp C
          go_wp2_with fail
          refine (C1.out _ HP.out).mono ?_
          rintro e w2 ⟨rfl, hb⟩
          have HP := hide' (HP.out.below hb)
          have HB := hide' (HB.out.trans (.of_below (b := P) hb))
          clear hb C1
          go_wp2_with fail
          refine (C2.out _ HP.out).mono ?_
          rintro e w3 ⟨rfl, hb⟩
          have HP := hide' (HP.out.below hb)
          have HB := hide' (HB.out.trans (.of_below (b := P) hb))
          clear hb C2
          go_wp2_with fail
          refine (CT.out _ HP.out).mono ?_
          rintro e w9 ⟨v, rfl, rfl, hb2, hp2⟩
          have HV := hide' (Ak.PrE.of_ok (en := en) (V := Ak.tmV) (x := ((0 : Int), x2.tx)) (v := .tuple #[.int .i64 (((0 : Int), x2.tx)).1, .string (((0 : Int), x2.tx)).2]) rfl (HB.out.trans hb2) hp2)
          clear hb2 hp2
          obtain ⟨k, tx, nu, p0, p1, p2, p3⟩ := x2
          unfold Ak.Wo.cs
          dsimp only at HV ⊢
          have fo := Ak.woText w9 k tx nu p0 p1 p2 p3
          go_wp2_with fail
          go_ret2
          exact HV.out
      · rw [if_pos rfl]
        cases RE with
        | bad a why =>
          go_enter Tryz.func99, Tryz.ntmps99
          go_wp2_with fail
          refine C.out.mono ?_
          rintro e w1 ⟨rfl, hb, hp⟩
          have HB := hide' hb
          have HP := hide' hp
          clear hb hp C
          go_wp2_with fail
          refine (C1.out _ HP.out).mono ?_
          rintro e w2 ⟨rfl, hb⟩
          have HP := hide' (HP.out.below hb)
          have HB := hide' (HB.out.trans (.of_below (b := P) hb))
          clear hb C1
          go_wp2_with fail
          refine (C2.out _ HP.out).mono ?_
          rintro e w3 ⟨rfl, hb⟩
          have HP := hide' (HP.out.below hb)
          have HB := hide' (HB.out.trans (.of_below (b := P) hb))
          clear hb C2
          go_wp2_with fail
          refine (CE.out _ HP.out (L2.out trivial)).mono ?_
          rintro e w9 hv
          obtain ⟨d, rfl, h1, h2, h3⟩ := hv
          have HV := hide' (Ak.PrE.of_bad (qv := qv) (wv := wv) (op := op) (mo := mo) (V := Ak.tmV) (Ak.GvE.pre ⟨d, rfl, h1, h2, h3⟩ HB.out))
          clear h1 h2 h3
          go_wp2_with fail
          exact ⟨rfl, HV.out⟩
        | ok x2 a =>
          go_enter Tryz.func99, Tryz.ntmps99
          go_wp2_with fail
          refine C.out.mono ?_
          rintro e w1 ⟨rfl, hb, hp⟩
          have HB := hide' hb
          have HP := hide' hp
          clear hb hp C
          go_wp2_with fail
          refine (C1.out _ HP.out).mono ?_
          rintro e w2 ⟨rfl, hb⟩
          have HP := hide' (HP.out.below hb)
          have HB := hide' (HB.out.trans (.of_below (b := P) hb))
          clear hb C1
          go_wp2_with fail
          refine (C2.out _ HP.out).mono ?_
          rintro e w3 ⟨rfl, hb⟩
          have HP := hide' (HP.out.below hb)
          have HB := hide' (HB.out.trans (.of_below (b := P) hb))
          clear hb C2
          go_wp2_with fail
          refine (CE.out _ HP.out (L2.out trivial)).mono ?_
          rintro e w9 ⟨v, rfl, rfl, hb2, hp2⟩
          have HV := hide' (Ak.PrE.of_ok (en := en) (V := Ak.tmV) (x := ((3 : Int), (⟨#[]⟩ : ByteArray))) (v := .tuple #[.int .i64 (((3 : Int), (⟨#[]⟩ : ByteArray))).1, .string (((3 : Int), (⟨#[]⟩ : ByteArray))).2]) rfl (HB.out.trans hb2) hp2)
          clear hb2 hp2
          dsimp only at HV ⊢
          go_wp2_with fail
          go_ret2
          exact HV.out
    · rw [if_pos rfl]
      cases RE with
      | bad a why =>
        go_enter Tryz.func99, Tryz.ntmps99
        go_wp2_with fail
        refine C.out.mono ?_
        rintro e w1 ⟨rfl, hb, hp⟩
        have HB := hide' hb
        have HP := hide' hp
        clear hb hp C
        go_wp2_with fail
        refine (C1.out _ HP.out).mono ?_
        rintro e w2 ⟨rfl, hb⟩
        have HP := hide' (HP.out.below hb)
        have HB := hide' (HB.out.trans (.of_below (b := P) hb))
        clear hb C1
        go_wp2_with fail
        refine (CE.out _ HP.out (L1.out trivial)).mono ?_
        rintro e w9 hv
        obtain ⟨d, rfl, h1, h2, h3⟩ := hv
        have HV := hide' (Ak.PrE.of_bad (qv := qv) (wv := wv) (op := op) (mo := mo) (V := Ak.tmV) (Ak.GvE.pre ⟨d, rfl, h1, h2, h3⟩ HB.out))
        clear h1 h2 h3
        go_wp2_with fail
        exact ⟨rfl, HV.out⟩
      | ok x2 a =>
        go_enter Tryz.func99, Tryz.ntmps99
        go_wp2_with fail
        refine C.out.mono ?_
        rintro e w1 ⟨rfl, hb, hp⟩
        have HB := hide' hb
        have HP := hide' hp
        clear hb hp C
        go_wp2_with fail
        refine (C1.out _ HP.out).mono ?_
        rintro e w2 ⟨rfl, hb⟩
        have HP := hide' (HP.out.below hb)
        have HB := hide' (HB.out.trans (.of_below (b := P) hb))
        clear hb C1
        go_wp2_with fail
        refine (CE.out _ HP.out (L1.out trivial)).mono ?_
        rintro e w9 ⟨v, rfl, rfl, hb2, hp2⟩
        have HV := hide' (Ak.PrE.of_ok (en := en) (V := Ak.tmV) (x := ((2 : Int), (⟨#[]⟩ : ByteArray))) (v := .tuple #[.int .i64 (((2 : Int), (⟨#[]⟩ : ByteArray))).1, .string (((2 : Int), (⟨#[]⟩ : ByteArray))).2]) rfl (HB.out.trans hb2) hp2)
        clear hb2 hp2
        dsimp only at HV ⊢
        go_wp2_with fail
        go_ret2
        exact HV.out
  · rw [if_pos rfl]
    go_enter Tryz.func99, Tryz.ntmps99
    go_wp2_with fail
    refine C.out.mono ?_
    rintro e w1 ⟨rfl, hb, hp⟩
    have HV := hide' (Ak.PrE.of_ok (en := en) (V := Ak.tmV) (x := ((1 : Int), (⟨#[]⟩ : ByteArray))) (v := .tuple #[.int .i64 1, .string ⟨#[]⟩]) rfl hb hp)
    clear hb hp C
    go_wp2_with fail
    go_ret2
    exact HV.out
end Go.Proofs.YtcnagbkdckipnaaGreatDoor
/-
  THE TABLES in memory; WALKS over the parser's compare, axis.
-/
namespace Go.Proofs.YtcnagbkdckipnaaGreatDoor
open Go.RowKit Go.Lib
namespace Ak
def bs (l : List Nat) : ByteArray := ⟨(l.map Nat.toUInt8).toArray⟩
def cms : List ByteArray := [bs [], bs [61], bs [33, 61], bs [115, 116, 97, 114, 116, 115, 45, 119, 105, 116, 104], bs [101, 110, 100, 115, 45, 119, 105, 116, 104], bs [99, 111, 110, 116, 97, 105, 110, 115], bs [61], bs [62], bs [60]]
def axs : List ByteArray := [bs [99, 104, 105, 108, 100], bs [100, 101, 115, 99, 101, 110, 100, 97, 110, 116], bs [100, 101, 115, 99, 101, 110, 100, 97, 110, 116, 45, 111, 114, 45, 115, 101, 108, 102], bs [115, 101, 108, 102]]
/-- the tables lie in memory -/
structure Tb (w : World) : Prop where
  cm : ∀ i s, cms[i]? = some s → w.cell? ⟨7, i, none⟩ = some (.string s)
  ax : ∀ i s, axs[i]? = some s → w.cell? ⟨5, i, none⟩ = some (.string s)
theorem Tb.pb {w w' : World} {P : Nat} {qv wv : Value} {at_ op mo : Nat} (h : Tb w) (hc : PC w P qv wv at_ op mo) (hp : Pb P w w') : Tb w' := by
  have hx : ∀ (g : Nat) (s : ByteArray), w.cell? ⟨g, 2, none⟩ = some (.string s) → g ≠ P := by
    rintro g s e rfl
    rw [hc.cells.2.2.1] at e
    cases e
  have g1 := hx _ _ (h.cm 2 _ rfl)
  have g2 := hx _ _ (h.ax 2 _ rfl)
  exact ⟨fun i s hs => hp.cell (h.cm i s hs) g1, fun i s hs => hp.cell (h.ax i s hs) g2⟩
/-- the first comparison from j on, of so many, whose sign stands here -/
def cmF (n : Nat) (ws : Nat → Wo) (i : Nat) : Nat → Nat → Option Nat
  | _, 0 => none
  | j, m + 1 => if sgB n ws i ((cms[j]?).getD ⟨#[]⟩) = true then some j else cmF n ws i (j + 1) m
/-- what compare answers -/
def CmE (P : Nat) (qv wv : Value) (n : Nat) (ws : Nat → Wo) (at_ op mo : Nat) (W : World) : Option Nat → Ending → World → Prop
  | some j, r, w' => r = .returned (.tuple #[.int .i64 (j : Nat), .bool true]) ∧ Pb P W w' ∧ Ps w' P qv wv n ws (at_ + 1) op mo
  | none, r, w' => r = .returned (.tuple #[.int .i64 0, .bool false]) ∧ Pb P W w' ∧ Ps w' P qv wv n ws at_ op mo
end Ak
set_option maxRecDepth 100000 in
set_option maxHeartbeats 4000000 in
theorem akCompare (W : World) (P : Nat) (qv wv : Value) (n : Nat) (ws : Nat → Ak.Wo) (at_ op mo : Nat) (h : Ak.Ps W P qv wv n ws at_ op mo) (ht : Ak.Tb W) (fr to_ : Nat) (h1 : fr ≤ to_) (h2 : to_ ≤ 8) :
    Calls Tryz.prog 148 #[.pointer (some ⟨P, 0, none⟩), .int .i64 (fr : Nat), .int .i64 (to_ : Nat)] W (Ak.CmE P qv wv n ws at_ op mo W (Ak.cmF n ws at_ fr (to_ + 1 - fr))) := by
  have CM := hide' (fun (wr : World) (hp : Ak.Pb P W wr) => (ht.pb h.c hp).cm)
  have CS := hide' (fun (w1 : World) (hp : Ak.Ps w1 P qv wv n ws at_ op mo) (s : ByteArray) => akSkip w1 P qv wv n ws at_ op mo hp s)
  obtain ⟨ans, hans⟩ : ∃ a, Ak.cmF n ws at_ fr (to_ + 1 - fr) = a := ⟨_, rfl⟩
  rw [hans]
  have H0 := hide' h
  have HA0 := hide' hans
  have HB0 := hide' (Ak.Pb.refl P W)
  clear h ht hans
  go_enter Tryz.func148, Tryz.ntmps148
  go_wp2_with fail
  go_loopw [8] (fun v wr => ∃ j : Nat, v = .int .i64 j ∧ j ≤ to_ + 1 ∧ Hid (Ak.cmF n ws at_ j (to_ + 1 - j) = ans) ∧ Hid (Ak.Pb P W wr) ∧ Hid (Ak.Ps wr P qv wv n ws at_ op mo)) (fun v _ => to_ + 1 - (RowKit.intOf v).toNat)
  case atStart => exact ⟨fr, rfl, by omega, HA0, HB0, H0⟩
  case round =>
    obtain ⟨j, rfl, hj, HA, HB, HP⟩ := hrel
    clear HA0 HB0 H0
    by_cases hlt : j ≤ to_
    · have t1 : (j : Int) ≤ (to_ : Int) := by omega
      have t0 : (0 : Int) ≤ j := by omega
      have t9 : (j : Int) < 9 := by omega
      have tw : IntKind.i64.wrap ((j : Int) + 1) = ((j + 1 : Nat) : Int) := by rw [IntKind.wrap_i64]; omega
      obtain ⟨s, hs⟩ : ∃ s, Ak.cms[j]? = some s := ⟨_, List.getElem?_eq_getElem (by simp [Ak.cms]; omega)⟩
      have q := CM.out wr HB.out j s hs
      have C := hide' (CS.out wr HP.out s)
      have ha := HA.out
      rw [show to_ + 1 - j = (to_ - j) + 1 by omega] at ha
      unfold Ak.cmF at ha
      rw [hs, Option.getD_some] at ha
      obtain ⟨t, htt⟩ : ∃ t, Ak.sgB n ws at_ s = t := ⟨_, rfl⟩
      rw [htt] at C ha
      clear hs htt HA
      cases t
      · rw [if_neg (by decide)] at ha
        have HA := hide' ha
        clear ha
        go_wp2_with fail
        refine C.out.mono ?_
        rintro e w1 ⟨rfl, hb, hp⟩
        have HB := hide' (HB.out.trans hb)
        have HP := hide' hp
        clear hb hp C q
        go_wp2_with fail
        refine ⟨⟨j + 1, by simp, by omega, ?_, HB, HP⟩, ?_⟩
        · rw [show to_ + 1 - (j + 1) = to_ - j by omega]
          exact HA
        · simp [RowKit.intOf]
          omega
      · rw [if_pos rfl] at ha
        subst ha
        go_wp2_with fail
        refine C.out.mono ?_
        rintro e w1 ⟨rfl, hb, hp⟩
        have HB := hide' (HB.out.trans hb)
        have HP := hide' hp
        clear hb hp C q
        go_wp2_with fail
        go_ret2
        exact ⟨rfl, HB.out, HP.out⟩
    · have t1 : ¬ (j : Int) ≤ (to_ : Int) := by omega
      have ha := HA.out
      rw [show to_ + 1 - j = 0 by omega] at ha
      unfold Ak.cmF at ha
      subst ha
      go_wp2_with fail
      go_ret2
      exact ⟨rfl, HB.out, HP.out⟩
end Go.Proofs.YtcnagbkdckipnaaGreatDoor
