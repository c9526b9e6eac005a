import Derived.Test.YtcnagbkdckipnaaGreatDoorAkRd
import Derived.Test.YtcnagbkdckipnaaGreatDoorAkPa
/-
  WHAT THE PARSER COMES TO never goes back.
-/
namespace Go.Proofs.YtcnagbkdckipnaaGreatDoor
open Go.RowKit Go.Lib
namespace Ak
def Mo {α : Type} (r : Nat → Res α) : Prop := ∀ i x a, r i = .ok x a → i ≤ a
theorem bind_ok {α β : Type} {r : Res α} {f : α → Nat → Res β} {y : β} {b : Nat} (h : r.bind f = .ok y b) : ∃ x a, r = .ok x a ∧ f x a = .ok y b := by
  cases r with
  | ok x a => exact ⟨x, a, rfl, h⟩
  | bad a w => exact nomatch h
theorem needR_ok {n : Nat} {ws : Nat → Wo} {i : Nat} {s : ByteArray} {x : Unit} {a : Nat} (h : needR n ws i s = .ok x a) : a = i + 1 := by
  unfold needR at h
  split at h
  · cases h; rfl
  · exact nomatch h
theorem takeR_ok {n : Nat} {ws : Nat → Wo} {i : Nat} {k : Int} {x : Wo} {a : Nat} (h : takeR n ws i k = .ok x a) : a = i + 1 := by
  unfold takeR at h
  split at h
  · cases h; rfl
  · exact nomatch h
theorem attrR_mo (n : Nat) (ws : Nat → Wo) : Mo (attrR n ws) := fun i x a h => by
  obtain ⟨_, a1, h1, h⟩ := bind_ok h
  obtain ⟨_, a2, h2, h⟩ := bind_ok h
  have e1 := needR_ok h1
  have e2 := takeR_ok h2
  cases h
  omega
theorem testR_mo (n : Nat) (ws : Nat → Wo) : Mo (testR n ws) := fun i x a h => by
  unfold testR at h
  split at h
  · cases h; omega
  · split at h
    · obtain ⟨_, a1, h1, h⟩ := bind_ok h
      have e1 := needR_ok h1
      cases h
      omega
    · split at h
      · obtain ⟨_, a1, h1, h⟩ := bind_ok h
        have e1 := needR_ok h1
        cases h
        omega
      · obtain ⟨_, a1, h1, h⟩ := bind_ok h
        have e1 := takeR_ok h1
        cases h
        omega
theorem withinR_mo {n : Nat} {ws : Nat → Wo} {inner : Option RX} {last : ByteArray} (hi : ∀ f, inner = some f → Mo f) : Mo (withinR n ws inner last) := fun i x a h => by
  unfold withinR at h
  cases inner with
  | none => exact nomatch h
  | some f =>
    obtain ⟨_, a1, h1, h⟩ := bind_ok h
    obtain ⟨_, a2, h2, h⟩ := bind_ok h
    have e1 := hi f rfl _ _ _ h1
    have e2 := needR_ok h2
    cases h
    omega
/-- it goes on by two words at least -/
theorem withinR_lt {n : Nat} {ws : Nat → Wo} {inner : Option RX} {last : ByteArray} (hi : ∀ f, inner = some f → Mo f) : ∀ i x a, withinR n ws inner last i = .ok x a → i + 1 ≤ a := fun i x a h => by
  unfold withinR at h
  cases inner with
  | none => exact nomatch h
  | some f =>
    obtain ⟨_, a1, h1, h⟩ := bind_ok h
    obtain ⟨_, a2, h2, h⟩ := bind_ok h
    have e1 := hi f rfl _ _ _ h1
    have e2 := needR_ok h2
    cases h
    omega
theorem whR_mo {n : Nat} {ws : Nat → Wo} {wi : RX} (hw : Mo wi) : ∀ (f i : Nat) (acc : List Xp) (x : List Xp) (a : Nat), whR n ws wi f i acc = .ok x a → i ≤ a
  | 0, i, acc, x, a, h => by unfold whR at h; cases h; omega
  | f + 1, i, acc, x, a, h => by
    unfold whR at h
    split at h
    · obtain ⟨_, a1, h1, h⟩ := bind_ok h
      have e1 := hw _ _ _ h1
      have e2 := whR_mo hw f _ _ _ _ h
      omega
    · cases h; omega
theorem axR_le (n : Nat) (ws : Nat → Wo) (i : Nat) : i ≤ (axR n ws i).2 := by
  unfold axR
  split <;> simp
theorem stepR_mo {n : Nat} {ws : Nat → Wo} {wi : RX} (hw : Mo wi) : Mo (stepR n ws wi) := fun i x a h => by
  unfold stepR at h
  split at h
  · cases h; omega
  · obtain ⟨_, a1, h1, h⟩ := bind_ok h
    obtain ⟨_, a2, h2, h⟩ := bind_ok h
    have e0 := axR_le n ws i
    have e1 := testR_mo n ws _ _ _ h1
    have e2 := whR_mo hw _ _ _ _ _ h2
    cases h
    omega
theorem pathR_mo {n : Nat} {ws : Nat → Wo} {wi : RX} (hw : Mo wi) (attrs : Bool) : ∀ (f i : Nat) (acc : List Sp) (x : List Sp × ByteArray) (a : Nat), pathR n ws wi attrs f i acc = .ok x a → i ≤ a
  | 0, i, acc, x, a, h => by unfold pathR at h; cases h; omega
  | f + 1, i, acc, x, a, h => by
    unfold pathR at h
    obtain ⟨_, a1, h1, h⟩ := bind_ok h
    have e1 := stepR_mo hw _ _ _ h1
    split at h
    · split at h
      · obtain ⟨_, a2, h2, h⟩ := bind_ok h
        have e2 := attrR_mo n ws _ _ _ h2
        cases h
        omega
      · have := pathR_mo hw attrs f _ _ _ _ h
        omega
    · split at h
      · split at h
        · obtain ⟨_, a2, h2, h⟩ := bind_ok h
          have e2 := attrR_mo n ws _ _ _ h2
          cases h
          omega
        · have := pathR_mo hw attrs f _ _ _ _ h
          omega
      · cases h; omega
theorem someR_mo {n : Nat} {ws : Nat → Wo} {wi : RX} (hw : Mo wi) : Mo (someR n ws wi) := fun i x a h => by
  unfold someR at h
  split at h
  · obtain ⟨_, a2, h2, h⟩ := bind_ok h
    have e2 := attrR_mo n ws _ _ _ h2
    cases h
    omega
  · obtain ⟨_, a2, h2, h⟩ := bind_ok h
    have e2 := pathR_mo hw true _ _ _ _ _ h2
    cases h
    omega
theorem argsR_mo {n : Nat} {ws : Nat → Wo} {so : RX} (hs : Mo so) (c : Nat) : Mo (argsR n ws so c) := fun i x a h => by
  unfold argsR at h
  obtain ⟨_, a1, h1, h⟩ := bind_ok h
  obtain ⟨_, a2, h2, h⟩ := bind_ok h
  obtain ⟨_, a3, h3, h⟩ := bind_ok h
  have e1 := hs _ _ _ h1
  have e2 := needR_ok h2
  have e3 := takeR_ok h3
  cases h
  omega
/-- neither of the two at one depth goes back -/
def MoL (inner : Option Lv) : Prop := ∀ l, inner = some l → Mo l.ei ∧ Mo l.so
theorem MoL.ei {inner : Option Lv} (h : MoL inner) : ∀ f, inner.map Lv.ei = some f → Mo f := fun f hf => by
  obtain ⟨l, hl, rfl⟩ := Option.map_eq_some_iff.1 hf
  exact (h l hl).1
theorem MoL.so {inner : Option Lv} (h : MoL inner) : ∀ f, inner.map Lv.so = some f → Mo f := fun f hf => by
  obtain ⟨l, hl, rfl⟩ := Option.map_eq_some_iff.1 hf
  exact (h l hl).2
theorem oneR_mo {n : Nat} {ws : Nat → Wo} {inner : Option Lv} (hl : MoL inner) : Mo (oneR n ws inner) := fun i x a h => by
  unfold oneR at h
  split at h
  · exact withinR_mo hl.ei _ _ _ h
  · split at h
    · obtain ⟨_, a1, h1, h⟩ := bind_ok h
      have e1 := withinR_mo hl.ei _ _ _ h1
      cases h
      omega
    · split at h
      · obtain ⟨_, a1, h1, h⟩ := bind_ok h
        have e1 := withinR_mo hl.so _ _ _ h1
        split at h
        · obtain ⟨_, a2, h2, h⟩ := bind_ok h
          have e2 := takeR_ok h2
          cases h
          omega
        · exact nomatch h
      · split at h
        · have e1 := withinR_mo (fun f hf => by
            obtain ⟨l, hl2, rfl⟩ := Option.map_eq_some_iff.1 hf
            exact argsR_mo (hl l hl2).2 _) _ _ _ h
          omega
        · obtain ⟨_, a1, h1, h⟩ := bind_ok h
          have e1 := someR_mo (withinR_mo hl.ei) _ _ _ h1
          split at h
          · obtain ⟨_, a2, h2, h⟩ := bind_ok h
            have e2 := takeR_ok h2
            cases h
            omega
          · cases h; omega
theorem moreR_mo {n : Nat} {ws : Nat → Wo} {part : RX} {name : ByteArray} (hp : Mo part) : ∀ (f i : Nat) (acc : List Xp) (x : List Xp) (a : Nat), moreR n ws part name f i acc = .ok x a → i ≤ a
  | 0, i, acc, x, a, h => by unfold moreR at h; cases h; omega
  | f + 1, i, acc, x, a, h => by
    unfold moreR at h
    split at h
    · obtain ⟨_, a1, h1, h⟩ := bind_ok h
      have e1 := hp _ _ _ h1
      have e2 := moreR_mo hp f _ _ _ _ h
      omega
    · cases h; omega
theorem joinedR_mo {n : Nat} {ws : Nat → Wo} {op : Int} {name : ByteArray} {part : RX} (hp : Mo part) : Mo (joinedR n ws op name part) := fun i x a h => by
  unfold joinedR at h
  obtain ⟨_, a1, h1, h⟩ := bind_ok h
  have e1 := hp _ _ _ h1
  split at h
  · obtain ⟨_, a2, h2, h⟩ := bind_ok h
    have e2 := moreR_mo hp _ _ _ _ _ h2
    cases h
    omega
  · cases h; omega
theorem mkLv_mo {n : Nat} {ws : Nat → Wo} {inner : Option Lv} (hl : MoL inner) : Mo (mkLv n ws inner).ei ∧ Mo (mkLv n ws inner).so :=
  ⟨joinedR_mo (joinedR_mo (oneR_mo hl)), someR_mo (withinR_mo hl.ei)⟩
theorem lev_mo (n : Nat) (ws : Nat → Wo) : ∀ d, MoL (lev n ws d)
  | 0 => fun _ h => nomatch h
  | d + 1 => fun l h => by
    unfold lev at h
    cases h
    exact mkLv_mo (lev_mo n ws d)
end Ak
end Go.Proofs.YtcnagbkdckipnaaGreatDoor
/-
  THE WALK over the parser's step (gen_akst.py writes this text).
-/
namespace Go.Proofs.YtcnagbkdckipnaaGreatDoor
open Go.RowKit Go.Lib Go.Sort
namespace Ak
theorem set4 {w : World} {N : Nat} {a0 a1 a2 a3 : Value} {t : TypeId} {f : Nat × Nat} (h : w.heap[N]? = some (.cells #[a0, a1, a2, a3] t f)) (b0 b1 b2 b3 : Value) :
    ((((w.setCell ⟨N, 0, none⟩ b0).setCell ⟨N, 1, none⟩ b1).setCell ⟨N, 2, none⟩ b2).setCell ⟨N, 3, none⟩ b3).heap[N]? = some (.cells #[b0, b1, b2, b3] t f) := by
  have h0 := Go.Joins.block_setCell (i := 0) h b0
  simp only [List.setIfInBounds_toArray, List.set_cons_zero] at h0
  have h1 := Go.Joins.block_setCell (i := 1) h0 b1
  simp only [List.setIfInBounds_toArray, List.set_cons_succ, List.set_cons_zero] at h1
  have h2 := Go.Joins.block_setCell (i := 2) h1 b2
  simp only [List.setIfInBounds_toArray, List.set_cons_succ, List.set_cons_zero] at h2
  have h3 := Go.Joins.block_setCell (i := 3) h2 b3
  simp only [List.setIfInBounds_toArray, List.set_cons_succ, List.set_cons_zero] at h3
  exact h3
theorem load4 {w : World} {N : Nat} {a0 a1 a2 a3 : Value} (h : w.heap[N]? = some (.cells #[a0, a1, a2, a3] 61 (0, 0))) (b0 b1 b2 b3 : Value) :
    (loadVar 61 ⟨N, 0, none⟩).run Tryz.prog ((((w.setCell ⟨N, 0, none⟩ b0).setCell ⟨N, 1, none⟩ b1).setCell ⟨N, 2, none⟩ b2).setCell ⟨N, 3, none⟩ b3) = .ok (.agg #[b0, b1, b2, b3]) ((((w.setCell ⟨N, 0, none⟩ b0).setCell ⟨N, 1, none⟩ b1).setCell ⟨N, 2, none⟩ b2).setCell ⟨N, 3, none⟩ b3) := by
  have s := set4 h b0 b1 b2 b3
  generalize ((((w.setCell ⟨N, 0, none⟩ b0).setCell ⟨N, 1, none⟩ b1).setCell ⟨N, 2, none⟩ b2).setCell ⟨N, 3, none⟩ b3) = W at s ⊢
  exact load_st (w := W) s rfl
theorem far4 {w w0 : World} {P N : Nat} (h : Pb P w0 w) (hN : w0.heap.size ≤ N) {qv wv : Value} {at_ op mo : Nat} (hc : PC w P qv wv at_ op mo) (hP : P ≠ N) (b0 b1 b2 b3 : Value) :
    Pb P w0 ((((w.setCell ⟨N, 0, none⟩ b0).setCell ⟨N, 1, none⟩ b1).setCell ⟨N, 2, none⟩ b2).setCell ⟨N, 3, none⟩ b3) ∧ PC ((((w.setCell ⟨N, 0, none⟩ b0).setCell ⟨N, 1, none⟩ b1).setCell ⟨N, 2, none⟩ b2).setCell ⟨N, 3, none⟩ b3) P qv wv at_ op mo ∧ ∀ k, k ≠ N → ((((w.setCell ⟨N, 0, none⟩ b0).setCell ⟨N, 1, none⟩ b1).setCell ⟨N, 2, none⟩ b2).setCell ⟨N, 3, none⟩ b3).heap[k]? = w.heap[k]? :=
  ⟨(((h.far hN 0 b0).far hN 1 b1).far hN 2 b2).far hN 3 b3, (PC.far (PC.far (PC.far (PC.far hc hP 0 b0) hP 1 b1) hP 2 b2) hP 3 b3), fun k hk => ((Below.heap_setCell (((w.setCell ⟨N, 0, none⟩ b0).setCell ⟨N, 1, none⟩ b1).setCell ⟨N, 2, none⟩ b2) ⟨N, 3, none⟩ b3 k hk).trans ((Below.heap_setCell ((w.setCell ⟨N, 0, none⟩ b0).setCell ⟨N, 1, none⟩ b1) ⟨N, 2, none⟩ b2 k hk).trans ((Below.heap_setCell (w.setCell ⟨N, 0, none⟩ b0) ⟨N, 1, none⟩ b1 k hk).trans (Below.heap_setCell w ⟨N, 0, none⟩ b0 k hk))))⟩
theorem step_appX {w : World} {ops : Array Oper} {o : Oper} {a : Act} {K : Act → World → Prop} {Q : Exit → Act → World → Prop} {F : Prop} (hgd : o.guard = none) (s x : Operand)
    (ho : o.op = .call { callee := .builtin .append, args := #[s, x], argTypes := #[59, 59] }) (v : Value) (l : List Xv) (y : Xv) (b c : Nat) (hs : a.eval s = v) (hx : a.eval x = .slice (some ⟨b, 0, none⟩) 1 c) (hv : OX w v l) (hu : w.rangeAt b 0 y.enc) (hb : l.length + 1 ≤ 2097152)
    (h : ∀ v' w', OX w' v' (l ++ [y]) → w.grownBy w' v.ownBlock → (v'.ownBlock = v.ownBlock ∨ v'.ownBlock = some w.heap.size) → K (a.put o.dst v') w') : if Region.wanted o (yielded ops a.tmps) = true then Oper.wp Tryz.prog o a w K Q else F := by
  have hw : Region.wanted o (yielded ops a.tmps) = true := by simp [Region.wanted, hgd]
  rw [if_pos hw]
  obtain ⟨i0, hi0, hz0, hz1, hz2⟩ := partsX
  obtain ⟨v', w', hr, h2, h3, _, h5⟩ := run_append_own_at (P := Tryz.prog) w 0 59 o.type 121 i0 zXv 7 104 Tryz.underlying59 hi0 hz0 hz1 hz2 rfl (by decide) v l.length (flX l) hv ⟨b, 0, none⟩ 1 c (flX [y]) (by rw [flX_len]; rfl)
      (fun j x hj => by
        have := hu j x (by simpa [flX] using hj)
        unfold Addr.add
        split
        · rename_i e; subst e; simpa using this
        · simpa using this) (flX_one [y]) (by unfold maxLen; omega) (by omega) (Nat.zero_le _)
  unfold Oper.wp execOp
  simp only [ho, resolve, invoke, builtin, Sem.run_bind, Sem.run_pure, Result.andThen_ok, List.map_toArray, List.map_cons, List.map_nil, hs, hx, hr]
  refine h v' w' ?_ h3 h5
  unfold OX
  rw [List.length_append, show flX (l ++ [y]) = flX l ++ flX [y] by simp [flX]]
  exact h2
theorem SV.here (w : World) (B : Nat) : SV B hereP (.agg (stC 3 3 ⟨#[]⟩ (.slice none 0 0))) w := ⟨.mk 3 3 ⟨#[]⟩ none 0 [], by simp [cS, cXs, hereP], rfl, OkS.of (RowX.nil w), fun b hb => by simp [fS, Ak.pb, fXs] at hb⟩
/-- a state of the walk: the step that is being made lies at M, what is to be answered at N -/
structure StS (P : Nat) (qv wv : Value) (n : Nat) (ws : Nat → Wo) (op mo : Nat) (W0 : World) (N M : Nat) (ka te : Int) (nm : ByteArray) (w : World) (v : Value) (lv : List Xv) (a : Nat) : Prop where
  p : Ps w P qv wv n ws a op mo
  b : Pb P W0 w
  m : w.heap[M]? = some (.cells #[.int .i64 ka, .int .i64 te, .string nm, v] 61 (0, 0))
  z : w.heap[N]? = some (.cells #[.int .i64 0, .int .i64 0, .string ⟨#[]⟩, .slice none 0 0] 61 (0, 0))
  l : LX (M + 1) w v lv
theorem whR_no {n : Nat} {ws : Nat → Wo} {wi : RX} {f i : Nat} {acc : List Xp} (h : sgB n ws i ⟨#[91]⟩ = false) : whR n ws wi f i acc = .ok acc i := by
  cases f with
  | zero => rfl
  | succ f => unfold whR; rw [h]; rfl
theorem whR_yes {n : Nat} {ws : Nat → Wo} {wi : RX} {f i : Nat} {acc : List Xp} (h : sgB n ws i ⟨#[91]⟩ = true) (hf : n ≤ f + i) : i < n ∧ whR n ws wi f i acc = (wi i).bind fun x a => whR n ws wi (f - 1) a (acc ++ [x]) := by
  have hi : i < n := by
    unfold sgB at h
    simp at h
    exact h.1
  refine ⟨hi, ?_⟩
  cases f with
  | zero => omega
  | succ f => rw [whR, if_pos h]; rfl
/-- a step with its predicates, in memory -/
theorem SV.made {B : Nat} {w w' : World} {p : Option Addr} {k c : Nat} {l : List Xv} (h : LX B w (.slice p k c) l) (hk : ∀ (a : Addr) v, B ≤ a.block → w.cell? a = some v → w'.cell? a = some v) (ax te : Int) (nm : ByteArray) : SV B (.mk ax te nm (cXs l)) (.agg #[.int .i64 ax, .int .i64 te, .string nm, .slice p k c]) w' := by
  obtain ⟨rfl, h1, h2, h3⟩ := h.row
  have hlo : ∀ b ∈ fS (.mk ax te nm p c l), B ≤ b := fun b hb => by
    unfold fS at hb
    rcases List.mem_append.1 hb with hb | hb
    · exact h2 b hb
    · obtain ⟨x, hx, hb⟩ := (fXs_mem l b).1 hb
      exact h3 x hx b hb
  exact ⟨.mk ax te nm p c l, by simp [cS], rfl, (OkS.of h1).imp _ fun a v ha e => hk a v (hlo _ ha) e, hlo⟩
theorem StS.below {P : Nat} {qv wv : Value} {n : Nat} {ws : Nat → Wo} {op mo : Nat} {W0 : World} {N M : Nat} {ka te : Int} {nm : ByteArray} {w w' : World} {v : Value} {lv : List Xv} {a : Nat} (h : StS P qv wv n ws op mo W0 N M ka te nm w v lv a) (hP : P < M) (hb : Below w.heap.size w w') : StS P qv wv n ws op mo W0 N M ka te nm w' v lv a :=
  ⟨h.p.below hb, h.b.trans (.of_below hb), (hb.block M (Array.getElem?_eq_some_iff.1 h.m).1).trans h.m, (hb.block N (Array.getElem?_eq_some_iff.1 h.z).1).trans h.z, h.l.keepP (.of_below (b := P) hb) (by omega)⟩
theorem StS.go {P : Nat} {qv wv : Value} {n : Nat} {ws : Nat → Wo} {op mo : Nat} {W0 : World} {N M : Nat} {ka te : Int} {nm : ByteArray} {w w' : World} {v : Value} {lv : List Xv} {a a' : Nat} (h : StS P qv wv n ws op mo W0 N M ka te nm w v lv a) (hP : P < M) (hN : P ≠ N) (hb : Pb P w w') (hp : Ps w' P qv wv n ws a' op mo) : StS P qv wv n ws op mo W0 N M ka te nm w' v lv a' :=
  ⟨hp, h.b.trans hb, (hb.block M (Array.getElem?_eq_some_iff.1 h.m).1 (by omega)).trans h.m, (hb.block N (Array.getElem?_eq_some_iff.1 h.z).1 (Ne.symm hN)).trans h.z, h.l.keepP hb (by omega)⟩
/-- one predicate more -/
theorem StS.more {P : Nat} {qv wv : Value} {n : Nat} {ws : Nat → Wo} {op mo : Nat} {W0 : World} {N M : Nat} {ka te : Int} {nm : ByteArray} {w w' : World} {v v' : Value} {lv : List Xv} {y : Xv} {a c0 : Nat} (h : StS P qv wv n ws op mo W0 N M ka te nm w v lv a) (hP : P < M) (hNM : N < M) (hW : W0.heap.size ≤ N) (hMw : M < w.heap.size) (hy : OkX w y) (hd : ∀ b ∈ fX y, M + 1 ≤ b ∧ v.ownBlock ≠ some b)
    (ho : OX w' v' (lv ++ [y])) (hg : w.grownBy w' v.ownBlock) (hv : v'.ownBlock = v.ownBlock ∨ v'.ownBlock = some w.heap.size) (hq : Ps W0 P qv wv n ws c0 op mo) : StS P qv wv n ws op mo W0 N M ka te nm (w'.setCell ⟨M, 3, none⟩ v') v' (lv ++ [y]) a := by
  have hlo := h.l.own_lo
  have hl := h.l.app hy hd ho hg hv hMw
  have hb := (h.b.grown hg (fun b hb => by have := hlo b hb; omega)).far (N := M) (by omega) 3 v'
  have hc : PC w' P qv wv a op mo := (hg.block P h.p.c.lt (fun e => by have := hlo P e.symm; omega)).trans h.p.c
  have hm := (hg.block M hMw (fun e => by have := hlo M e.symm; omega)).trans h.m
  have hz := (hg.block N (Array.getElem?_eq_some_iff.1 h.z).1 (fun e => by have := hlo N e.symm; omega)).trans h.z
  have hm2 := Go.Joins.block_setCell (i := 3) hm v'
  simp only [List.setIfInBounds_toArray, List.set_cons_succ, List.set_cons_zero] at hm2
  have keep : ∀ k, k ≠ M → (w'.setCell ⟨M, 3, none⟩ v').heap[k]? = w'.heap[k]? := fun k hk => Below.heap_setCell w' ⟨M, 3, none⟩ v' k hk
  refine ⟨hq.go hb (hc.far (by omega) 3 v') h.p.atn hq.opm, hb, hm2, (keep N (by omega)).trans hz, ?_⟩
  have hll := hl.own_lo
  exact ⟨hl.own.keep fun b hb _ => keep b (by have := hll b hb; omega), fun x hx => (hl.ok x hx).imp x fun a v ha e => (World.cell?_of_block (keep a.block (by have := (hl.lo x hx _ ha).1; omega))).trans e, hl.lo, hll⟩
end Ak
theorem akAxisR (W : World) (P : Nat) (qv wv : Value) (n : Nat) (ws : Nat → Ak.Wo) (at_ op mo : Nat) (h : Ak.Ps W P qv wv n ws at_ op mo) (ht : Ak.Tb W) :
    Calls Tryz.prog 98 #[.pointer (some ⟨P, 0, none⟩)] W fun r w' => r = .returned (.int .i64 ((Ak.axR n ws at_).1 : Nat)) ∧ Ak.Pb P W w' ∧ Ak.Ps w' P qv wv n ws (Ak.axR n ws at_).2 op mo := by
  have C := akAxis W P qv wv n ws at_ op mo h ht
  unfold Ak.axR
  obtain ⟨R, hR⟩ : ∃ r, Ak.axF n ws at_ 0 4 = r := ⟨_, rfl⟩
  rw [hR] at C ⊢
  cases R with
  | none => exact C
  | some j => exact C
set_option maxRecDepth 100000 in
set_option maxHeartbeats 16000000 in
theorem akStep (W : World) (P : Nat) (qv wv : Value) (n : Nat) (ws : Nat → Ak.Wo) (en : Ak.Wo) (at_ op mo : Nat) (h0 : Ak.Ps W P qv wv n ws at_ op mo) (ht : Ak.Tb W) (hg : Ak.GU P qv wv n ws en) (wi : Ak.RX) (hmw : ∀ i x a, wi i = .ok x a → i + 1 ≤ a)
    (hwi : ∀ W1 a, Ak.Pb P W W1 → Ak.Ps W1 P qv wv n ws a op mo → a < n → Calls Tryz.prog 100 #[.pointer (some ⟨P, 0, none⟩), .string ⟨#[93]⟩, .func (.func 101) #[.pointer (some ⟨P, 0, none⟩)] #[]] W1 (Ak.PrE P qv wv n ws en op mo W1 (Ak.XV W1.heap.size) (wi a))) :
    Calls Tryz.prog 74 #[.pointer (some ⟨P, 0, none⟩)] W (Ak.PrE P qv wv n ws en op mo W (Ak.SV W.heap.size) (Ak.stepR n ws wi at_)) := by
  obtain ⟨W1, hW1⟩ : ∃ X, X = W.alloc (.cells #[.int .i64 0, .int .i64 0, .string ⟨#[]⟩, .slice none 0 0] 61) := ⟨_, rfl⟩
  have hb : Below W.heap.size W W1 := by rw [hW1]; exact (Below.refl _ _).alloc (Nat.le_refl _) _
  have hs : W1.heap.size = W.heap.size + 1 := by rw [hW1]; simp
  have hnew : W1.heap[W.heap.size]? = some (.cells #[.int .i64 0, .int .i64 0, .string ⟨#[]⟩, .slice none 0 0] 61 (0, 0)) := by rw [hW1]; exact Ak.heap_new _ _
  have HT := hide' (fun (w : World) (hp : Ak.Pb P W w) => ht.pb h0.c hp)
  have H0 := hide' h0
  have HW1 := hide' hW1
  have HB := hide' hb
  have hPl : P < W.heap.size := h0.c.lt
  obtain ⟨N, hN⟩ : ∃ N, W.heap.size = N := ⟨_, rfl⟩
  rw [hN] at hnew
  have HN := hide' hnew
  have HWI := hide' hwi
  have HMW := hide' hmw
  have HG := hide' hg
  have hnn := h0.nn
  have hPN : P ≠ N := by omega
  have hmf : ∀ (fn : Fn) (first cap : Array Value) (w : World), (Instr.makeFunc fn first cap).run Tryz.prog w = .ok (.func fn first cap) w := fun _ _ _ _ => rfl
  have C := akSkip W1 P qv wv n ws at_ op mo (h0.below hb) ⟨#[46]⟩
  obtain ⟨J, hJ⟩ : ∃ J, Ak.stepR n ws wi at_ = J := ⟨_, rfl⟩
  rw [hJ]
  unfold Ak.stepR at hJ
  obtain ⟨t, htt⟩ : ∃ t, Ak.sgB n ws at_ ⟨#[46]⟩ = t := ⟨_, rfl⟩
  rw [htt] at C hJ
  have HC := hide' C
  clear hW1 hb hnew h0 hwi hmw hg ht C htt
  cases t
  · rw [if_neg (by decide)] at hJ
    obtain ⟨AR, hAR⟩ : ∃ r, Ak.axR n ws at_ = r := ⟨_, rfl⟩
    have CA := hide' (fun (w : World) (hp : Ak.Ps w P qv wv n ws at_ op mo) (hq : Ak.Pb P W w) => hAR ▸ akAxisR w P qv wv n ws at_ op mo hp (HT.out w hq))
    rw [hAR] at hJ
    clear hAR
    obtain ⟨ka, i1⟩ := AR
    dsimp only at hJ CA
    obtain ⟨RT, hRT⟩ : ∃ r, Ak.testR n ws i1 = r := ⟨_, rfl⟩
    have CT := hide' (fun (w : World) (hp : Ak.Ps w P qv wv n ws i1 op mo) => hRT ▸ akTest w P qv wv n ws en i1 op mo hp HG.out)
    rw [hRT] at hJ
    have HMT := hide' (fun x a e => Ak.testR_mo n ws i1 x a (hRT.trans e))
    clear hRT
    cases RT with
    | bad a why =>
      have HJ : Hid (Ak.Res.bad a why = J) := hide' hJ
      clear hJ
      obtain rfl := HJ.out
      go_enter Tryz.func74, Tryz.ntmps74
      go_wp2_with fail
      change Calls _ _ _ (W.alloc (.cells #[.int .i64 0, .int .i64 0, .string ⟨#[]⟩, .slice none 0 0] 61)) _
      rw [← HW1.out]
      refine HC.out.mono ?_
      rintro e w5 ⟨rfl, hb5, hp5⟩
      obtain ⟨M, hM⟩ : ∃ M, w5.heap.size = M := ⟨_, rfl⟩
      have hs5 := hb5.size
      have hPM : P ≠ M := by omega
      have hbk : Below w5.heap.size w5 (w5.alloc (.cells #[.int .i64 0, .int .i64 0, .string ⟨#[]⟩, .slice none 0 0] 61)) := (Below.refl _ _).alloc (Nat.le_refl _) _
      have HB5 := hide' (((Ak.Pb.of_below (b := P) HB.out).trans hb5).trans (.of_below hbk))
      have HN5 := hide' ((hbk.block N (by omega)).trans ((hb5.block N (by omega) (by omega)).trans HN.out))
      have HM5 : Hid ((w5.alloc (.cells #[.int .i64 0, .int .i64 0, .string ⟨#[]⟩, .slice none 0 0] 61)).heap[M]? = some (.cells #[.int .i64 0, .int .i64 0, .string ⟨#[]⟩, .slice none 0 0] 61 (0, 0))) := hide' (by rw [← hM]; exact Ak.heap_new _ _)
      have HP5 := hide' (hp5.below hbk)
      have sA : (w5.alloc (.cells #[.int .i64 0, .int .i64 0, .string ⟨#[]⟩, .slice none 0 0] 61)).heap.size = M + 1 := by simp [hM]
      clear hb5 hp5 hbk HC
      go_wp2_with fail
      refine (CA.out _ HP5.out HB5.out).mono ?_
      rintro e w6 ⟨rfl, hb6, hp6⟩
      have hs6 := hb6.size
      have hm6 := (hb6.block M (by omega) (Ne.symm hPM)).trans HM5.out
      have hn6 := (hb6.block N (by omega) (Ne.symm hPN)).trans HN5.out
      have hm7 := Go.Joins.block_setCell (i := 0) hm6 (.int .i64 (ka : Nat))
      simp only [List.setIfInBounds_toArray, List.set_cons_zero] at hm7
      have HM7 := hide' hm7
      have HN7 := hide' ((Below.heap_setCell w6 ⟨M, 0, none⟩ (.int .i64 (ka : Nat)) N (by show N ≠ M; omega)).trans hn6)
      have hM7 : M < (w6.setCell ⟨M, 0, none⟩ (.int .i64 (ka : Nat))).heap.size := by simp; omega
      have hN7 : N < (w6.setCell ⟨M, 0, none⟩ (.int .i64 (ka : Nat))).heap.size := by simp; omega
      have hq7 := (HB5.out.trans hb6).far (N := M) (by omega) 0 (.int .i64 (ka : Nat))
      have HB7 := hide' hq7
      have HP7 := hide' (H0.out.go hq7 (hp6.c.far hPM 0 _) hp6.atn hp6.opm)
      have m0 : w6.cell? ⟨M, 0, none⟩ = some (.int .i64 0) := by rw [Lib.cell_of_heap hm6]; rfl
      have mf0 : w6.frozen? ⟨M, 0, none⟩ = false := Lib.frozen_of_heap hm6 0
      have m1 : w6.cell? ⟨M, 1, none⟩ = some (.int .i64 0) := by rw [Lib.cell_of_heap hm6]; rfl
      have mf1 : w6.frozen? ⟨M, 1, none⟩ = false := Lib.frozen_of_heap hm6 1
      have m2 : w6.cell? ⟨M, 2, none⟩ = some (.string ⟨#[]⟩) := by rw [Lib.cell_of_heap hm6]; rfl
      have mf2 : w6.frozen? ⟨M, 2, none⟩ = false := Lib.frozen_of_heap hm6 2
      have m3 : w6.cell? ⟨M, 3, none⟩ = some (.slice none 0 0) := by rw [Lib.cell_of_heap hm6]; rfl
      have mf3 : w6.frozen? ⟨M, 3, none⟩ = false := Lib.frozen_of_heap hm6 3
      clear hb6 hp6 hm6 hn6 hm7 hq7 HP5 HB5 HN5 HM5 sA
      go_wp2_with fail
      refine (CT.out _ HP7.out).mono ?_
      rintro e w8 hv
      obtain ⟨d, rfl, h1, h2, h3⟩ := hv
      have HV := hide' (Ak.PrE.of_bad (qv := qv) (wv := wv) (op := op) (mo := mo) (V := Ak.SV W.heap.size) (Ak.GvE.pre ⟨d, rfl, h1, h2, h3⟩ HB7.out))
      clear h1 h2 h3
      go_wp2_with fail
      exact ⟨rfl, HV.out⟩
    | ok tt a =>
      dsimp only [Ak.Res.bind] at hJ
      obtain ⟨te, nm⟩ := tt
      have HJ := hide' hJ
      have hia : i1 ≤ a := HMT.out _ _ rfl
      clear hJ
      go_enter Tryz.func74, Tryz.ntmps74
      go_wp2_with fail
      change Calls _ _ _ (W.alloc (.cells #[.int .i64 0, .int .i64 0, .string ⟨#[]⟩, .slice none 0 0] 61)) _
      rw [← HW1.out]
      refine HC.out.mono ?_
      rintro e w5 ⟨rfl, hb5, hp5⟩
      obtain ⟨M, hM⟩ : ∃ M, w5.heap.size = M := ⟨_, rfl⟩
      have hs5 := hb5.size
      have hPM : P ≠ M := by omega
      have hbk : Below w5.heap.size w5 (w5.alloc (.cells #[.int .i64 0, .int .i64 0, .string ⟨#[]⟩, .slice none 0 0] 61)) := (Below.refl _ _).alloc (Nat.le_refl _) _
      have HB5 := hide' (((Ak.Pb.of_below (b := P) HB.out).trans hb5).trans (.of_below hbk))
      have HN5 := hide' ((hbk.block N (by omega)).trans ((hb5.block N (by omega) (by omega)).trans HN.out))
      have HM5 : Hid ((w5.alloc (.cells #[.int .i64 0, .int .i64 0, .string ⟨#[]⟩, .slice none 0 0] 61)).heap[M]? = some (.cells #[.int .i64 0, .int .i64 0, .string ⟨#[]⟩, .slice none 0 0] 61 (0, 0))) := hide' (by rw [← hM]; exact Ak.heap_new _ _)
      have HP5 := hide' (hp5.below hbk)
      have sA : (w5.alloc (.cells #[.int .i64 0, .int .i64 0, .string ⟨#[]⟩, .slice none 0 0] 61)).heap.size = M + 1 := by simp [hM]
      clear hb5 hp5 hbk HC
      go_wp2_with fail
      refine (CA.out _ HP5.out HB5.out).mono ?_
      rintro e w6 ⟨rfl, hb6, hp6⟩
      have hs6 := hb6.size
      have hm6 := (hb6.block M (by omega) (Ne.symm hPM)).trans HM5.out
      have hn6 := (hb6.block N (by omega) (Ne.symm hPN)).trans HN5.out
      have hm7 := Go.Joins.block_setCell (i := 0) hm6 (.int .i64 (ka : Nat))
      simp only [List.setIfInBounds_toArray, List.set_cons_zero] at hm7
      have HM7 := hide' hm7
      have HN7 := hide' ((Below.heap_setCell w6 ⟨M, 0, none⟩ (.int .i64 (ka : Nat)) N (by show N ≠ M; omega)).trans hn6)
      have hM7 : M < (w6.setCell ⟨M, 0, none⟩ (.int .i64 (ka : Nat))).heap.size := by simp; omega
      have hN7 : N < (w6.setCell ⟨M, 0, none⟩ (.int .i64 (ka : Nat))).heap.size := by simp; omega
      have hq7 := (HB5.out.trans hb6).far (N := M) (by omega) 0 (.int .i64 (ka : Nat))
      have HB7 := hide' hq7
      have HP7 := hide' (H0.out.go hq7 (hp6.c.far hPM 0 _) hp6.atn hp6.opm)
      have m0 : w6.cell? ⟨M, 0, none⟩ = some (.int .i64 0) := by rw [Lib.cell_of_heap hm6]; rfl
      have mf0 : w6.frozen? ⟨M, 0, none⟩ = false := Lib.frozen_of_heap hm6 0
      have m1 : w6.cell? ⟨M, 1, none⟩ = some (.int .i64 0) := by rw [Lib.cell_of_heap hm6]; rfl
      have mf1 : w6.frozen? ⟨M, 1, none⟩ = false := Lib.frozen_of_heap hm6 1
      have m2 : w6.cell? ⟨M, 2, none⟩ = some (.string ⟨#[]⟩) := by rw [Lib.cell_of_heap hm6]; rfl
      have mf2 : w6.frozen? ⟨M, 2, none⟩ = false := Lib.frozen_of_heap hm6 2
      have m3 : w6.cell? ⟨M, 3, none⟩ = some (.slice none 0 0) := by rw [Lib.cell_of_heap hm6]; rfl
      have mf3 : w6.frozen? ⟨M, 3, none⟩ = false := Lib.frozen_of_heap hm6 3
      clear hb6 hp6 hm6 hn6 hm7 hq7 HP5 HB5 HN5 HM5 sA
      go_wp2_with fail
      refine (CT.out _ HP7.out).mono ?_
      rintro e w8 ⟨v, rfl, rfl, hb8, hp8⟩
      have hm8 := (hb8.block M hM7 (Ne.symm hPM)).trans HM7.out
      have hn8 := (hb8.block N hN7 (Ne.symm hPN)).trans HN7.out
      have HB8 := hide' (HB7.out.trans hb8)
      have HP8 := hide' hp8
      have hs8 := hb8.size
      have m0 : w8.cell? ⟨M, 0, none⟩ = some (.int .i64 (ka : Nat)) := by rw [Lib.cell_of_heap hm8]; rfl
      have mf0 : w8.frozen? ⟨M, 0, none⟩ = false := Lib.frozen_of_heap hm8 0
      have m1 : w8.cell? ⟨M, 1, none⟩ = some (.int .i64 0) := by rw [Lib.cell_of_heap hm8]; rfl
      have mf1 : w8.frozen? ⟨M, 1, none⟩ = false := Lib.frozen_of_heap hm8 1
      have m2 : w8.cell? ⟨M, 2, none⟩ = some (.string ⟨#[]⟩) := by rw [Lib.cell_of_heap hm8]; rfl
      have mf2 : w8.frozen? ⟨M, 2, none⟩ = false := Lib.frozen_of_heap hm8 2
      have m3 : w8.cell? ⟨M, 3, none⟩ = some (.slice none 0 0) := by rw [Lib.cell_of_heap hm8]; rfl
      have mf3 : w8.frozen? ⟨M, 3, none⟩ = false := Lib.frozen_of_heap hm8 3
      dsimp only
      have hWM : W.heap.size ≤ M := by omega
      have hNM : N ≠ M := by omega
      have hm9 := Go.Joins.block_setCell (i := 1) hm8 (.int .i64 te)
      simp only [List.setIfInBounds_toArray, List.set_cons_succ, List.set_cons_zero] at hm9
      have hm10 := Go.Joins.block_setCell (i := 2) hm9 (.string nm)
      simp only [List.setIfInBounds_toArray, List.set_cons_succ, List.set_cons_zero] at hm10
      have q10 := (HB8.out.far hWM 1 (.int .i64 te)).far hWM 2 (.string nm)
      have hS10 : Ak.StS P qv wv n ws op mo W N M (ka : Nat) te nm ((w8.setCell ⟨M, 1, none⟩ (.int .i64 te)).setCell ⟨M, 2, none⟩ (.string nm)) (.slice none 0 0) [] a :=
        ⟨H0.out.go q10 ((HP8.out.c.far hPM 1 _).far hPM 2 _) HP8.out.atn HP8.out.opm, q10, hm10, (Below.heap_setCell _ ⟨M, 2, none⟩ _ N hNM).trans ((Below.heap_setCell w8 ⟨M, 1, none⟩ _ N hNM).trans hn8), Ak.LX.nil _ _⟩
      have HS10 := hide' hS10
      have hMl : M < ((w8.setCell ⟨M, 1, none⟩ (.int .i64 te)).setCell ⟨M, 2, none⟩ (.string nm)).heap.size := (Array.getElem?_eq_some_iff.1 hm10).1
      clear hm8 hn8 hb8 hp8 hm9 hm10 q10 hS10 CA CT
      obtain ⟨ans, hans⟩ : ∃ r, Ak.whR n ws wi n a [] = r := ⟨_, rfl⟩
      have HA0 : Hid (Ak.whR n ws wi n a (Ak.cXs []) = ans) := hide' (by rw [show Ak.cXs [] = [] by simp [Ak.cXs]]; exact hans)
      have HJ2 := hide' (hans ▸ HJ.out)
      have hPM2 : P < M := by omega
      have hNM2 : N < M := by omega
      have hWN : W.heap.size ≤ N := by omega
      clear hans HJ
      go_wp2_with fail
      go_loopw [] (fun wr => ∃ (i f : Nat) (lv : List Ak.Xv) (v : Value), Hid (Ak.StS P qv wv n ws op mo W N M (ka : Nat) te nm wr v lv i) ∧ Hid (Ak.whR n ws wi f i (Ak.cXs lv) = ans) ∧ Hid (n ≤ f + i) ∧ Hid (lv.length ≤ i)) (fun wr => n - Ak.atOf P wr)
      case atStart => exact ⟨a, n, [], .slice none 0 0, HS10, HA0, hide' (by omega), hide' (by simp)⟩
      case round =>
        obtain ⟨i, f, lv, v, HS, HA, HFu, HLn⟩ := hrel
        clear HS10 HA0
        obtain ⟨pv, cv, rfl, hvl⟩ := HS.out.l.own.form
        obtain ⟨t2, ht2⟩ : ∃ t, Ak.sgB n ws i ⟨#[91]⟩ = t := ⟨_, rfl⟩
        have CI := hide' (ht2 ▸ akIs wr P qv wv n ws i op mo HS.out.p ⟨#[91]⟩)
        have HT2 := hide' ht2
        clear ht2
        cases t2
        · have HJ3 : Hid (J = .ok (.mk (ka : Nat) te nm (Ak.cXs lv)) i) := hide' (by rw [← HJ2.out, ← HA.out, Ak.whR_no HT2.out])
          go_wp2_with fail
          refine CI.out.mono ?_
          rintro e w7 ⟨rfl, hb7⟩
          have HS7 := hide' (HS.out.below hPM2 hb7)
          have hm7 := HS7.out.m
          have hz7 := HS7.out.z
          have m0 : w7.cell? ⟨M, 0, none⟩ = some (.int .i64 (ka : Nat)) := by rw [Lib.cell_of_heap hm7]; rfl
          have mf0 : w7.frozen? ⟨M, 0, none⟩ = false := Lib.frozen_of_heap hm7 0
          have m1 : w7.cell? ⟨M, 1, none⟩ = some (.int .i64 te) := by rw [Lib.cell_of_heap hm7]; rfl
          have mf1 : w7.frozen? ⟨M, 1, none⟩ = false := Lib.frozen_of_heap hm7 1
          have m2 : w7.cell? ⟨M, 2, none⟩ = some (.string nm) := by rw [Lib.cell_of_heap hm7]; rfl
          have mf2 : w7.frozen? ⟨M, 2, none⟩ = false := Lib.frozen_of_heap hm7 2
          have m3 : w7.cell? ⟨M, 3, none⟩ = some (.slice pv lv.length cv) := by rw [Lib.cell_of_heap hm7]; rfl
          have mf3 : w7.frozen? ⟨M, 3, none⟩ = false := Lib.frozen_of_heap hm7 3
          have z0 : w7.cell? ⟨N, 0, none⟩ = some (.int .i64 0) := by rw [Lib.cell_of_heap hz7]; rfl
          have zf0 : w7.frozen? ⟨N, 0, none⟩ = false := Lib.frozen_of_heap hz7 0
          have z1 : w7.cell? ⟨N, 1, none⟩ = some (.int .i64 0) := by rw [Lib.cell_of_heap hz7]; rfl
          have zf1 : w7.frozen? ⟨N, 1, none⟩ = false := Lib.frozen_of_heap hz7 1
          have z2 : w7.cell? ⟨N, 2, none⟩ = some (.string ⟨#[]⟩) := by rw [Lib.cell_of_heap hz7]; rfl
          have zf2 : w7.frozen? ⟨N, 2, none⟩ = false := Lib.frozen_of_heap hz7 2
          have z3 : w7.cell? ⟨N, 3, none⟩ = some (.slice none 0 0) := by rw [Lib.cell_of_heap hz7]; rfl
          have zf3 : w7.frozen? ⟨N, 3, none⟩ = false := Lib.frozen_of_heap hz7 3
          clear hb7 hm7 hz7 CI
          go_wp2_with fail
          obtain ⟨f1, f2, f3⟩ := Ak.far4 HS7.out.b hWN HS7.out.p.c hPN (.int .i64 (ka : Nat)) (.int .i64 te) (.string nm) (.slice pv lv.length cv)
          have l7 := Ak.load4 HS7.out.z (.int .i64 (ka : Nat)) (.int .i64 te) (.string nm) (.slice pv lv.length cv)
          revert f1 f2 f3 l7
          generalize World.setCell _ ⟨N, 3, none⟩ (.slice pv lv.length cv) = WF
          intro f1 f2 f3 l7
          refine bodyPost_ret (Ak.results_cell Tryz.results74 _ ⟨N, 0, none⟩ rfl _ _ l7) rfl ?_
          rw [HJ3.out]
          refine Ak.PrE.of_ok ?_ f1 (H0.out.go f1 f2 HS7.out.p.atn HS7.out.p.opm)
          exact (Ak.SV.made HS7.out.l (fun a v ha e => (World.cell?_of_block (f3 a.block (by omega))).trans e) (ka : Nat) te nm).mono (by omega)
        · obtain ⟨hil, hmr⟩ := Ak.whR_yes (wi := wi) (acc := Ak.cXs lv) HT2.out HFu.out
          obtain ⟨R2, hR2⟩ : ∃ R, wi i = R := ⟨_, rfl⟩
          rw [hR2, HA.out] at hmr
          have HMR := hide' hmr
          have HR2 := hide' hR2
          have CW := hide' (fun W8 (q : Ak.Pb P W W8) (h8 : Ak.Ps W8 P qv wv n ws i op mo) => hR2 ▸ HWI.out W8 i q h8 hil)
          clear hmr hR2
          cases R2 with
          | bad a2 why =>
            have HJ3 : Hid (J = .bad a2 why) := hide' (by rw [← HJ2.out, HMR.out]; rfl)
            go_wp2_with fail
            refine CI.out.mono ?_
            rintro e w7 ⟨rfl, hb7⟩
            have HS7 := hide' (HS.out.below hPM2 hb7)
            have HS8 := hide' (HS7.out.below hPM2 (Below.refl _ w7).drew)
            have hm8 := HS8.out.m
            have x3 : w7.drew.cell? ⟨M, 3, none⟩ = some (.slice pv lv.length cv) := by rw [Lib.cell_of_heap hm8]; rfl
            clear hb7 hm8 CI
            go_wp2_with fail
            go_region_dies
            all_goals
              refine (CW.out _ HS8.out.b HS8.out.p).mono ?_
              rintro e w9 hv
              obtain ⟨d, rfl, h1, h2, h3⟩ := hv
              have HV := hide' (Ak.PrE.of_bad (qv := qv) (wv := wv) (op := op) (mo := mo) (V := Ak.SV W.heap.size) (Ak.GvE.pre ⟨d, rfl, h1, h2, h3⟩ HS8.out.b))
              refine ⟨rfl, ?_⟩
              rw [HJ3.out]
              exact HV.out
          | ok x2 a2 =>
            have hma2 : i + 1 ≤ a2 := HMW.out _ _ _ HR2.out
            go_wp2_with fail
            refine CI.out.mono ?_
            rintro e w7 ⟨rfl, hb7⟩
            have HS7 := hide' (HS.out.below hPM2 hb7)
            have HS8 := hide' (HS7.out.below hPM2 (Below.refl _ w7).drew)
            have hm8 := HS8.out.m
            have x3 : w7.drew.cell? ⟨M, 3, none⟩ = some (.slice pv lv.length cv) := by rw [Lib.cell_of_heap hm8]; rfl
            have HLb := hide' (show lv.length + 1 ≤ 2097152 by have := HLn.out; omega)
            clear hb7 hm8 CI
            go_wp2_with fail
            go_region_law (first
              | (rw [if_pos (by simp [Region.wanted])]; go_simp; refine (CW.out _ HS8.out.b HS8.out.p).mono ?_; rintro e w9 ⟨vv, rfl, hx, hb9, hp9⟩; obtain ⟨y2, xo, xp, xl, xc, sp, sl, sc, xa, xm, xt, xn, hy, hye, rfl, hyo, hyl⟩ := hx.opened; have HS9 := hide' (HS8.out.go hPM2 hPN hb9 hp9); have m9 := HS9.out.m; have y3 : w9.cell? ⟨M, 3, none⟩ = some (.slice pv lv.length cv) := (by rw [Lib.cell_of_heap m9]; rfl); have m10 := (HS9.out.below (w' := w9.alloc (.cells #[.int .i64 xo, .slice xp xl xc, .slice sp sl sc, .string xa, .int .i64 xm, .string xt, .int .i64 xn] 121)) hPM2 ((Below.refl _ _).alloc (Nat.le_refl _) _)).m; have y4 : (w9.alloc (.cells #[.int .i64 xo, .slice xp xl xc, .slice sp sl sc, .string xa, .int .i64 xm, .string xt, .int .i64 xn] 121)).cell? ⟨M, 3, none⟩ = some (.slice pv lv.length cv) := (by rw [Lib.cell_of_heap m10]; rfl); have HYO := hide' hyo; have HYL := hide' hyl; have HYE := hide' hye; have HYC := hide' hy; have HS8s := hide' hb9.size; clear hx hb9 hp9 hyo hyl hye hy m9 m10)
              | (have hbk : Below w9.heap.size w9 (w9.alloc (.cells #[.int .i64 xo, .slice xp xl xc, .slice sp sl sc, .string xa, .int .i64 xm, .string xt, .int .i64 xn] 121)) := (Below.refl _ _).alloc (Nat.le_refl _) _; have HS10 := hide' (HS9.out.below hPM2 hbk); have HR10 := hide' (show (w9.alloc (.cells #[.int .i64 xo, .slice xp xl xc, .slice sp sl sc, .string xa, .int .i64 xm, .string xt, .int .i64 xn] 121)).rangeAt w9.heap.size 0 y2.enc from (by rw [HYE.out]; exact Ak.range_of (Ak.heap_new w9 (.cells #[.int .i64 xo, .slice xp xl xc, .slice sp sl sc, .string xa, .int .i64 xm, .string xt, .int .i64 xn] 121)))); have HY10 := hide' (HYO.out.below hbk); refine Ak.step_appX rfl (.tmp 20) (.tmp 25) rfl (.slice pv lv.length cv) lv y2 w9.heap.size 1 (by simp [Act.eval]) (by simp [Act.eval]) HS10.out.l.own HR10.out HLb.out ?_; intro v' w' ho hg hv; obtain ⟨pv2, cv2, rfl, _⟩ := ho.form; have hml : M < (w9.alloc (.cells #[.int .i64 xo, .slice xp xl xc, .slice sp sl sc, .string xa, .int .i64 xm, .string xt, .int .i64 xn] 121)).heap.size := (Array.getElem?_eq_some_iff.1 HS10.out.m).1; have m11 := (hg.block M hml (fun e => by have := HS10.out.l.own_lo M e.symm; omega)).trans HS10.out.m; have z3 : w'.cell? ⟨M, 3, none⟩ = some (.slice pv lv.length cv) := (by rw [Lib.cell_of_heap m11]; rfl); have zf := Lib.frozen_of_heap m11 3; have HML := hide' hml; have HO := hide' ho; have HGR := hide' hg; have HV := hide' hv; clear hbk hml m11 ho hg hv))
            all_goals
              go_wp2_with fail
              have hM7 := (Array.getElem?_eq_some_iff.1 HS8.out.m).1
              have hsn := (HS10.out.more hPM2 hNM2 hWN HML.out HY10.out (fun b hb => ⟨by have := HYL.out b hb; omega, fun e => by have := HYL.out b hb; have := HS8.out.l.lt b e; omega⟩) HO.out HGR.out HV.out H0.out)
              rw [show (lv ++ [y2]).length = lv.length + 1 by simp] at hsn
              have HSn := hide' hsn
              have HA11 : Hid (Ak.whR n ws wi (f - 1) a2 (Ak.cXs (lv ++ [y2])) = ans) := hide' (by rw [show Ak.cXs (lv ++ [y2]) = Ak.cXs lv ++ [x2] by rw [Ak.cXs_map, List.map_append, ← Ak.cXs_map]; simp [HYC.out]]; exact HMR.out.symm)
              refine ⟨⟨a2, f - 1, lv ++ [y2], _, HSn, HA11, hide' (by have := HFu.out; omega), hide' (by have := HLn.out; simp; omega)⟩, ?_⟩
              rw [HSn.out.p.atOf, HS.out.p.atOf]
              omega
  · rw [if_pos rfl] at hJ
    subst hJ
    go_enter Tryz.func74, Tryz.ntmps74
    go_wp2_with fail
    change Calls _ _ _ (W.alloc (.cells #[.int .i64 0, .int .i64 0, .string ⟨#[]⟩, .slice none 0 0] 61)) _
    rw [← HW1.out]
    refine HC.out.mono ?_
    rintro e w5 ⟨rfl, hb5, hp5⟩
    have HB5 := hide' ((Ak.Pb.of_below (b := P) HB.out).trans hb5)
    have HN5 := hide' ((hb5.block N (by omega) (by omega)).trans HN.out)
    have HP5 := hide' hp5
    clear hb5 hp5 HC
    go_wp2_with fail
    refine (akHere w5).mono ?_
    rintro e w6 ⟨rfl, hb6⟩
    have hn6 := (hb6.block N (by have := (Array.getElem?_eq_some_iff.1 HN5.out).1; exact this)).trans HN5.out
    have HN6 := hide' hn6
    have HB6 := hide' (HB5.out.trans (.of_below (b := P) hb6))
    have HP6 := hide' (HP5.out.below hb6)
    have z0 : w6.cell? ⟨N, 0, none⟩ = some (.int .i64 0) := by rw [Lib.cell_of_heap hn6]; rfl
    have zf0 : w6.frozen? ⟨N, 0, none⟩ = false := Lib.frozen_of_heap hn6 0
    have z1 : w6.cell? ⟨N, 1, none⟩ = some (.int .i64 0) := by rw [Lib.cell_of_heap hn6]; rfl
    have zf1 : w6.frozen? ⟨N, 1, none⟩ = false := Lib.frozen_of_heap hn6 1
    have z2 : w6.cell? ⟨N, 2, none⟩ = some (.string ⟨#[]⟩) := by rw [Lib.cell_of_heap hn6]; rfl
    have zf2 : w6.frozen? ⟨N, 2, none⟩ = false := Lib.frozen_of_heap hn6 2
    have z3 : w6.cell? ⟨N, 3, none⟩ = some (.slice none 0 0) := by rw [Lib.cell_of_heap hn6]; rfl
    have zf3 : w6.frozen? ⟨N, 3, none⟩ = false := Lib.frozen_of_heap hn6 3
    clear hb6 hn6
    unfold Ak.stC
    go_wp2_with fail
    have hWN : W.heap.size ≤ N := by omega
    obtain ⟨f1, f2, f3⟩ := Ak.far4 HB6.out hWN HP6.out.c hPN (.int .i64 3) (.int .i64 3) (.string ⟨#[]⟩) (.slice none 0 0)
    have l7 := Ak.load4 HN6.out (.int .i64 3) (.int .i64 3) (.string ⟨#[]⟩) (.slice none 0 0)
    revert f1 f2 f3 l7
    generalize World.setCell _ ⟨N, 3, none⟩ (.slice none 0 0) = WF
    intro f1 f2 f3 l7
    refine bodyPost_ret (Ak.results_cell Tryz.results74 _ ⟨N, 0, none⟩ rfl _ _ l7) rfl ?_
    exact Ak.PrE.of_ok (Ak.SV.here WF _) f1 (H0.out.go f1 f2 HP6.out.atn HP6.out.opm)
end Go.Proofs.YtcnagbkdckipnaaGreatDoor
