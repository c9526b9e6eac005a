import Derived.Test.YtgbldbohadacmaaHtRefG
import Derived.Test.YtgbldbohadacmaaHtRefH
import Derived.Test.YtgbldbohadacmaaHtKept
import Derived.Test.YtgbldbohadacmaaHtNew
import Derived.Deep.RegionHeld
import Derived.Deep.QuietTactic
import Derived.BigQuiet
import Derived.BigGuard
/-
  TWO HUNTS of one comparison, the program's and the document's: what both keep, and their calls.
-/
namespace Go.Proofs.Ytgbldbohadacmaa
open Go.RowKit Go.Lib
namespace Ht
/-- but for these blocks all stays -/
structure Onl (S : Nat → Prop) (w w' : World) : Prop where
  os : w'.os = w.os
  tape : w'.tape = w.tape
  output : w'.output = w.output
  size : w.heap.size ≤ w'.heap.size
  block : ∀ k, k < w.heap.size → ¬ S k → w'.heap[k]? = w.heap[k]?
theorem Onl.refl (S : Nat → Prop) (w : World) : Onl S w w := ⟨rfl, rfl, rfl, Nat.le_refl _, fun _ _ _ => rfl⟩
theorem Onl.trans {S : Nat → Prop} {x y z : World} (h : Onl S x y) (k : Onl S y z) : Onl S x z :=
  ⟨k.os.trans h.os, k.tape.trans h.tape, k.output.trans h.output, Nat.le_trans h.size k.size, fun i hi hn => (k.block i (Nat.lt_of_lt_of_le hi h.size) hn).trans (h.block i hi hn)⟩
theorem Onl.drewN {S : Nat → Prop} {w w' : World} (h : Onl S w w') (n : Nat) : Onl S w (w'.drewN n) := ⟨h.os, h.tape, h.output, h.size, h.block⟩
theorem Onl.of_below {S : Nat → Prop} {w w' : World} (h : Below w.heap.size w w') : Onl S w w' := ⟨h.os, h.tape, h.output, h.size, fun k hk _ => h.block k hk⟩
theorem Onl.of_hb {S : Nat → Prop} {b : Nat} {w w' : World} (h : Hb b w w') (hs : S b) : Onl S w w' := ⟨h.os, h.tape, h.output, h.size, fun k hk hn => h.block k hk fun e => hn (e ▸ hs)⟩
theorem Onl.of_rb {S : Nat → Prop} {b : Nat} {vc : Value} {w w' : World} (h : Rb b vc w w') (hs : S b) (hv : ∀ k, vc.ownBlock = some k → S k) : Onl S w w' :=
  ⟨h.1, h.2.1, h.2.2.1, h.2.2.2.1, fun k hk hn => h.2.2.2.2 k hk (fun e => hn (e ▸ hs)) fun e => hn (hv k e)⟩
/-- rows of characters and of numbers that were there stay -/
def Ks (W0 w : World) : Prop := W0.heap.size ≤ w.heap.size ∧ ∀ (k : Nat) (cs : Array Value) (t : TypeId), W0.heap[k]? = some (Obj.cells cs t (0, 0)) → t = 3 ∨ t = 21 → w.heap[k]? = W0.heap[k]?
theorem Ks.refl (w : World) : Ks w w := ⟨Nat.le_refl _, fun _ _ _ _ _ => rfl⟩
theorem Ks.rws {W0 w : World} (h : Ks W0 w) {c : Int} {T : List Nat} {xt xb : Value} (hR : Rws W0 c T xt xb) : Rws w c T xt xb := by
  refine ⟨hR.1, fun k => ?_, fun k => ?_⟩
  · obtain ⟨g, cap, cur, h1, h2, h3, h4, h5⟩ := hR.2.1 k
    have e1 := h.2 g _ _ h5 (.inr rfl)
    exact ⟨g, cap, cur, h1, h2, h3, fun j hj => (World.cell?_of_block (a := ⟨g, 0 + j, none⟩) e1).trans (h4 j hj), e1.trans h5⟩
  · obtain ⟨g, bf, cur, h1, h2, h3⟩ := hR.2.2 k
    have e1 := h.2 g _ _ h2.blk (.inl rfl)
    exact ⟨g, bf, cur, h1, ⟨e1.trans h2.blk, h2.size, h2.get⟩, h3⟩
theorem own_keep {w w' : World} {B : Nat} {e : TypeId} {k : Nat} {v : Value} {n : Nat} {xs : List Value} (h : w.ownsRow B e k v n xs) (hb : ∀ g, v.ownBlock = some g → w'.heap[g]? = w.heap[g]?) : w'.ownsRow B e k v n xs := by
  refine ⟨h.1, ?_⟩
  rcases h.2 with a | ⟨g, cap, cur, rfl, b, c, d⟩
  · exact .inl a
  · exact .inr ⟨g, cap, cur, rfl, b, (hb g rfl).trans c, d⟩
theorem Ks.own {W0 w : World} (h : Ks W0 w) {B : Nat} {v : Value} {n : Nat} {xs : List Value} (ho : W0.ownsRow B 3 1 v n xs) : w.ownsRow B 3 1 v n xs := by
  refine ⟨ho.1, ?_⟩
  rcases ho.2 with a | ⟨g, cap, cur, a, b, c, d⟩
  · exact .inl a
  · exact .inr ⟨g, cap, cur, a, b, (h.2 g _ _ c (.inl rfl)).trans c, d⟩
theorem cok_cc {C : Nat} (h : C < 9) : cok (cc C) := by
  rcases (show C = 0 ∨ C = 1 ∨ C = 2 ∨ C = 3 ∨ C = 4 ∨ C = 5 ∨ C = 6 ∨ C = 7 ∨ C = 8 by omega) with rfl | rfl | rfl | rfl | rfl | rfl | rfl | rfl | rfl <;> simp [cok, cc]
/-- both Hunts of one comparison: L came -/
structure Pr (W0 : World) (B0 D M C : Nat) (N : Int) (T : List Nat) (xt xb va vc : Value) (L : List Nat) (wh : Bool) (w : World) : Prop where
  c9 : C < 9
  dl : D < W0.heap.size
  ml : M < W0.heap.size
  rw : Rws W0 (cc C) T xt xb
  ow : W0.ownsRow B0 3 1 va T.length (ic T)
  ks : Ks W0 w
  hq : Hq w D (cc C) (tdc C) (cn C N) xt xb T L wh
  rc : RC w M C N va vc wh
  ov : w.ownsRow W0.heap.size 3 1 vc L.length (ic L)
/-- their blocks -/
def Mn (D M : Nat) (vc : Value) (k : Nat) : Prop := k = D ∨ k = M ∨ vc.ownBlock = some k
section
variable {W0 w w' : World} {B0 D M C : Nat} {N : Int} {T : List Nat} {xt xb va vc : Value} {L : List Nat} {wh : Bool}
theorem Pr.ty (h : Pr W0 B0 D M C N T xt xb va vc L wh w) {k : Nat} (hk : k = D ∨ k = M) {cs : Array Value} {t : TypeId} (e : w.heap[k]? = some (.cells cs t (0, 0))) : ¬ (t = 3 ∨ t = 21) := by
  intro ht
  rcases hk with rfl | rfl
  · obtain ⟨q, t', hc, _⟩ := h.hq
    unfold HC at hc
    rw [e] at hc
    rcases ht with rfl | rfl <;> simp at hc
  · have hc := h.rc
    unfold RC at hc
    rw [e] at hc
    rcases ht with rfl | rfl <;> simp at hc
theorem Pr.ne (h : Pr W0 B0 D M C N T xt xb va vc L wh w) : D ≠ M := by
  rintro rfl
  obtain ⟨q, t', hc, _⟩ := h.hq
  have hr := h.rc
  unfold HC at hc
  unfold RC at hr
  rw [hr] at hc
  simp at hc
theorem Pr.ks2 (h : Pr W0 B0 D M C N T xt xb va vc L wh w) (e : Onl (Mn D M vc) w w') : Ks W0 w' := by
  refine ⟨Nat.le_trans h.ks.1 e.size, fun k cs t hk ht => ?_⟩
  have e1 := h.ks.2 k cs t hk ht
  have hl : k < W0.heap.size := (Array.getElem?_eq_some_iff.1 hk).1
  refine (e.block k (Nat.lt_of_lt_of_le hl h.ks.1) ?_).trans e1
  rintro (c | c | c)
  · exact h.ty (.inl c) (e1.trans hk) ht
  · exact h.ty (.inr c) (e1.trans hk) ht
  · have := (h.ov.lt k c).1
    omega
theorem Pr.hu (h : Pr W0 B0 D M C N T xt xb va vc L wh w) : Hu w D (cc C) (tdc C) (cn C N) T L wh := h.hq.hu (cok_cc h.c9) (h.ks.rws h.rw)
theorem Pr.nva (h : Pr W0 B0 D M C N T xt xb va vc L wh w) : Ni w va T := ni_of (h.ks.own h.ow)
theorem Pr.nvc (h : Pr W0 B0 D M C N T xt xb va vc L wh w) : Ni w vc L := ni_of h.ov
theorem Pr.drewN (h : Pr W0 B0 D M C N T xt xb va vc L wh w) (n : Nat) : Pr W0 B0 D M C N T xt xb va vc L wh (w.drewN n) := ⟨h.c9, h.dl, h.ml, h.rw, h.ow, h.ks, h.hq, h.rc, h.ov⟩
theorem Pr.lt (h : Pr W0 B0 D M C N T xt xb va vc L wh w) {k : Nat} (hk : Mn D M vc k) : k < w.heap.size := by
  rcases hk with rfl | rfl | e
  · exact Nat.lt_of_lt_of_le h.dl h.ks.1
  · exact Nat.lt_of_lt_of_le h.ml h.ks.1
  · exact (h.ov.lt k e).2
/-- where these blocks stay -/
theorem Pr.keep (h : Pr W0 B0 D M C N T xt xb va vc L wh w) (hn : ∀ k, Mn D M vc k → w'.heap[k]? = w.heap[k]?) (ks : Ks W0 w') : Pr W0 B0 D M C N T xt xb va vc L wh w' := by
  refine ⟨h.c9, h.dl, h.ml, h.rw, h.ow, ks, ?_, h.rc.of_block (hn M (.inr (.inl rfl))), own_keep h.ov fun g e => hn g (.inr (.inr e))⟩
  obtain ⟨q, t, h1, h2⟩ := h.hq
  exact ⟨q, t, h1.of_block (hn D (.inl rfl)), h2⟩
theorem Pr.below (h : Pr W0 B0 D M C N T xt xb va vc L wh w) (hb : Below w.heap.size w w') : Pr W0 B0 D M C N T xt xb va vc L wh w' :=
  h.keep (fun _ hk => hb.block _ (h.lt hk)) (h.ks2 (.of_below hb))
end
/-- between the program's call and the document's -/
def Md (D C : Nat) (N : Int) (T : List Nat) (xt xb : Value) (L : List Nat) (wh : Bool) (w w' : World) : Prop := Hq w' D (cc C) (tdc C) (cn C N) xt xb T L wh ∧ Hb D w w'
/-- behind both calls -/
def Bt (W0 : World) (B0 D M C : Nat) (N : Int) (T : List Nat) (xt xb va vc : Value) (L : List Nat) (wh : Bool) (w w' : World) : Prop :=
  ∃ v', Pr W0 B0 D M C N T xt xb va v' L wh w' ∧ Onl (Mn D M vc) w w' ∧ (v'.ownBlock = vc.ownBlock ∨ ∃ g, w.heap.size ≤ g ∧ v'.ownBlock = some g)
/-- what one call of both answers -/
def OneE (W0 : World) (B0 D M C : Nat) (N : Int) (T : List Nat) (xt xb va vc : Value) (L : List Nat) (n : Nat) (w : World) (e : Ending) (w' : World) : Prop :=
  e = .returned (.bool true) ∧ ∃ L' wh', L'.length ≤ L.length + n ∧ Bt W0 B0 D M C N T xt xb va vc L' wh' w w'
section
variable {W0 w w' : World} {B0 D M C : Nat} {N : Int} {T : List Nat} {xt xb va vc : Value} {L L' : List Nat} {wh wh' : Bool}
theorem Pr.bt (h : Pr W0 B0 D M C N T xt xb va vc L wh w) (hb : Below w.heap.size w w') : Bt W0 B0 D M C N T xt xb va vc L wh w w' := ⟨vc, h.below hb, .of_below hb, .inl rfl⟩
theorem Pr.md (h : Pr W0 B0 D M C N T xt xb va vc L wh w) (m : Md D C N T xt xb L' wh' w w') : Ks W0 w' ∧ RC w' M C N va vc wh ∧ w'.ownsRow W0.heap.size 3 1 vc L.length (ic L) := by
  have hn : ∀ k, k = M ∨ vc.ownBlock = some k → w'.heap[k]? = w.heap[k]? := fun k hk => by
    refine m.2.block k (h.lt (.inr hk)) ?_
    rintro rfl
    rcases hk with e | e
    · exact h.ne e
    · have := (h.ov.lt _ e).1
      have := h.dl
      omega
  exact ⟨h.ks2 (.of_hb m.2 (.inl rfl)), h.rc.of_block (hn M (.inl rfl)), own_keep h.ov fun g e => hn g (.inr e)⟩
theorem Md.up (m : Md D C N T xt xb L wh w w') {w2 : World} {S : Nat → Prop} (e : Onl S w' w2) (hn : ¬ S D) : Hq w2 D (cc C) (tdc C) (cn C N) xt xb T L wh := by
  obtain ⟨q, t, h1, h2⟩ := m.1
  exact ⟨q, t, h1.of_block (e.block D h1.lt hn), h2⟩
end
end Ht
section
variable {W0 w : World} {B0 D M C : Nat} {N : Int} {T : List Nat} {xt xb va vc : Value} {L : List Nat}
theorem prAdd (h : Ht.Pr W0 B0 D M C N T xt xb va vc L false w) (f : Nat → Nat) (n : Nat) (hf : ∀ j, f j < 256) (hL : L.length + n ≤ 1099511627776) :
    Calls Try.prog 10 #[.pointer (some ⟨D, 0, none⟩), .string (Rn.arr f n)] w fun e w' => e = .returned (.int .i64 0) ∧ Ht.Md D C N T xt xb (L ++ Wd.R f n 0) false w w' :=
  (htAddX (Ht.cok_cc h.c9) h.hq (h.ks.rws h.rw) f n hf (by omega)).mono fun _ _ ⟨h1, h2, h3⟩ => ⟨h1, h2, h3⟩
theorem prRefAdd (h : Ht.Pr W0 B0 D M C N T xt xb va vc L false w) (f : Nat → Nat) (n : Nat) (hf : ∀ j, f j < 256) (hL : L.length + n ≤ 1099511627776) {w1 : World} (m : Ht.Md D C N T xt xb (L ++ Wd.R f n 0) false w w1) :
    Calls Try.prog 16 #[.pointer (some ⟨M, 0, none⟩), .string (Rn.arr f n)] w1 fun e w' => e = .returned (.int .i64 0) ∧ Ht.Bt W0 B0 D M C N T xt xb va vc (L ++ Wd.R f n 0) false w w' := by
  obtain ⟨k1, r1, o1⟩ := h.md m
  refine (htRefAdd r1 o1 h.ml k1.1 f n hf (by omega) (by omega)).mono ?_
  rintro e w2 ⟨rfl, v', r2, o2, f2, b2⟩
  have hO : Ht.Onl (Ht.Mn D M vc) w w2 := (Ht.Onl.of_hb m.2 (.inl rfl)).trans (.of_rb b2 (.inr (.inl rfl)) fun k e => .inr (.inr e))
  refine ⟨rfl, v', ⟨h.c9, h.dl, h.ml, h.rw, h.ow, h.ks2 hO, ?_, r2, o2⟩, hO, f2.imp id fun ⟨g, a, b⟩ => ⟨g, Nat.le_trans m.2.size a, b⟩⟩
  refine m.up (Ht.Onl.of_rb (S := fun k => k = M ∨ vc.ownBlock = some k) b2 (.inl rfl) fun k e => .inr e) ?_
  rintro (e | e)
  · exact h.ne e
  · have := (o1.lt _ e).1
    have := h.dl
    omega
theorem prClose (h : Ht.Pr W0 B0 D M C N T xt xb va vc L false w) :
    Calls Try.prog 11 #[.pointer (some ⟨D, 0, none⟩)] w fun e w' => e = .returned (.int .i64 0) ∧ Ht.Md D C N T xt xb L true w w' :=
  (htCloseX (Ht.cok_cc h.c9) h.hq (h.ks.rws h.rw)).mono fun _ _ ⟨h1, h2, h3⟩ => ⟨h1, h2, h3⟩
theorem prRefClose {wh : Bool} (h : Ht.Pr W0 B0 D M C N T xt xb va vc L wh w) {w1 : World} (m : Ht.Md D C N T xt xb L true w w1) :
    Calls Try.prog 17 #[.pointer (some ⟨M, 0, none⟩)] w1 fun e w' => e = .returned (.int .i64 (if wh then 5 else 0)) ∧ Ht.Bt W0 B0 D M C N T xt xb va vc L true w w' := by
  obtain ⟨k1, r1, o1⟩ := h.md m
  refine (htRefClose r1).mono ?_
  rintro e w2 ⟨rfl, r2, b2⟩
  have hO : Ht.Onl (Ht.Mn D M vc) w w2 := (Ht.Onl.of_hb m.2 (.inl rfl)).trans (.of_hb b2 (.inr (.inl rfl)))
  refine ⟨rfl, vc, ⟨h.c9, h.dl, h.ml, h.rw, h.ow, h.ks2 hO, ?_, r2, Ht.own_keep o1 fun g e => b2.block g (o1.lt g e).2 ?_⟩, hO, .inl rfl⟩
  · exact m.up (Ht.Onl.of_hb (S := fun k => k = M) b2 rfl) h.ne
  · have := (o1.lt g e).1
    have := h.ml
    omega
end
end Go.Proofs.Ytgbldbohadacmaa
/-
  THE WALK over gimletlaw16.one (gen_plays.py).
-/
namespace Go.Proofs.Ytgbldbohadacmaa
open Go.RowKit Go.Lib
namespace Ht
variable {W0 w w' : World} {B0 D M C : Nat} {N : Int} {T : List Nat} {xt xb va vc : Value} {L L' : List Nat} {wh wh' : Bool}
theorem Bt.drewN (h : Bt W0 B0 D M C N T xt xb va vc L wh w w') (n : Nat) : Bt W0 B0 D M C N T xt xb va vc L wh w (w'.drewN n) := by
  obtain ⟨v, h1, h2, h3⟩ := h
  exact ⟨v, h1.drewN n, h2.drewN n, h3⟩
theorem Bt.from {w0 : World} (h : Bt W0 B0 D M C N T xt xb va vc L wh w w') (hb : Below w0.heap.size w0 w) : Bt W0 B0 D M C N T xt xb va vc L wh w0 w' := by
  obtain ⟨v, h1, h2, h3⟩ := h
  exact ⟨v, h1, (Onl.of_below hb).trans h2, h3.imp id fun ⟨g, a, b⟩ => ⟨g, Nat.le_trans hb.size a, b⟩⟩
theorem Pr.drew (h : Pr W0 B0 D M C N T xt xb va vc L wh w) : Pr W0 B0 D M C N T xt xb va vc L wh w.drew := ⟨h.c9, h.dl, h.ml, h.rw, h.ow, h.ks, h.hq, h.rc, h.ov⟩
end Ht
section
variable {W0 w : World} {B0 D M C : Nat} {N : Int} {T : List Nat} {xt xb va vc : Value} {L : List Nat} {wh : Bool}
theorem prTruth (h : Ht.Pr W0 B0 D M C N T xt xb va vc L wh w) (n : Nat) :
    Calls Try.prog 8 #[.pointer (some ⟨D, 0, none⟩)] (w.drewN n) fun e w' => e = .returned (.int .i64 (Ht.tru (Ht.cc C) (Ht.tdc C) (Ht.cn C N) T L wh)) ∧ w' = w.drewN n := htTruth (h.drewN n).hu
theorem prRefTruth (h : Ht.Pr W0 B0 D M C N T xt xb va vc L wh w) (hL : L.length ≤ 1099511627776) (hT : T.length ≤ 1099511627776) (n : Nat) :
    Calls Try.prog 9 #[.pointer (some ⟨M, 0, none⟩)] (w.drewN n) fun e w' => e = .returned (.int .i64 (Ht.tru (Ht.cc C) (Ht.tdc C) (Ht.cn C N) T L wh)) ∧ ∃ k, w' = (w.drewN n).drewN k := htRefTr (h.drewN n).rc h.c9 (h.drewN n).nva (h.drewN n).nvc hL hT
theorem prAddEnd (h : Ht.Pr W0 B0 D M C N T xt xb va vc L true w) (s : ByteArray) (n : Nat) :
    Calls Try.prog 10 #[.pointer (some ⟨D, 0, none⟩), .string s] (w.drewN n) fun e w' => e = .returned (.int .i64 5) ∧ w' = w.drewN n := htAddEnd (h.drewN n).hu s
theorem prRefAddEnd (h : Ht.Pr W0 B0 D M C N T xt xb va vc L true w) (s : ByteArray) (n : Nat) :
    Calls Try.prog 16 #[.pointer (some ⟨M, 0, none⟩), .string s] (w.drewN n) fun e w' => e = .returned (.int .i64 5) ∧ w' = w.drewN n := htRefAddEnd (h.drewN n).rc s
theorem prCloseEnd (h : Ht.Pr W0 B0 D M C N T xt xb va vc L true w) :
    Calls Try.prog 11 #[.pointer (some ⟨D, 0, none⟩)] w fun e w' => e = .returned (.int .i64 5) ∧ w' = w := htCloseEnd h.hu
theorem prClose5 (h : Ht.Pr W0 B0 D M C N T xt xb va vc L true w) :
    Calls Try.prog 17 #[.pointer (some ⟨M, 0, none⟩)] w fun e w' => e = .returned (.int .i64 5) ∧ Ht.Bt W0 B0 D M C N T xt xb va vc L true w w' := (prRefClose h ⟨h.hq, .refl _ _⟩).mono fun _ _ k => k
theorem prClose0 (h : Ht.Pr W0 B0 D M C N T xt xb va vc L false w) {w1 : World} (m : Ht.Md D C N T xt xb L true w w1) :
    Calls Try.prog 17 #[.pointer (some ⟨M, 0, none⟩)] w1 fun e w' => e = .returned (.int .i64 0) ∧ Ht.Bt W0 B0 D M C N T xt xb va vc L true w w' := (prRefClose h m).mono fun _ _ k => k
set_option maxRecDepth 100000 in
set_option maxHeartbeats 4000000 in
theorem htOneAdd (h : Ht.Pr W0 B0 D M C N T xt xb va vc L false w) (O : Bool) (f : Nat → Nat) (n : Nat) (hf : ∀ j, f j < 256) (hL : L.length + n ≤ 1099511627776) (hT : T.length ≤ 1099511627776) :
    Calls Try.prog 7 #[.pointer (some ⟨D, 0, none⟩), .pointer (some ⟨M, 0, none⟩), .agg #[.int .i64 1, .bool O, .string (Rn.arr f n)]] w (Ht.OneE W0 B0 D M C N T xt xb va vc L n w) := by
  obtain ⟨W, hW⟩ : ∃ W, w.alloc (.cells #[.int .i64 1, .bool O, .string (Rn.arr f n)] 35) = W := ⟨_, rfl⟩
  have hB : Below w.heap.size w W := by rw [← hW]; exact (Below.refl _ _).alloc (Nat.le_refl _) _
  have hlt : w.heap.size < W.heap.size := by rw [← hW]; simp
  have q2 : W.cell? ⟨w.heap.size, 2, none⟩ = some (.string (Rn.arr f n)) := by rw [← hW]; simp
  have p0 := h.below hB
  have hDn : w.heap.size ≠ D := fun e => by have := h.lt (k := D) (.inl rfl); omega
  have hMn : ¬ Ht.Mn D M vc w.heap.size := fun e => by have := h.lt e; omega
  obtain ⟨pa, ca, rfl, -⟩ := h.nva
  obtain ⟨m, hm⟩ : ∃ m : Nat, T.length = m := ⟨_, rfl⟩
  have HM := hide' hm
  have hT' := hT
  rw [hm] at hT'
  have HT := hide' hT
  have HL := hide' hL
  have HWd := hide' hW
  have HB := hide' hB
  have CK := hide' (fun w1 => htKept w1 D)
  have g9 : decide ((2 : Int) ≤ (m : Int) + 4) = true := decide_eq_true (by omega)
  have HF := hide' hf
  have CA := hide' (prAdd p0.drew f n hf hL)
  have CB := hide' (fun w1 (m : Ht.Md D C N T xt xb (L ++ Wd.R f n 0) false W.drew w1) => prRefAdd p0.drew f n hf hL m)
  have K1 := hide' (fun w1 (m : Ht.Md D C N T xt xb (L ++ Wd.R f n 0) false W.drew w1) => (World.cell?_of_block (a := ⟨w.heap.size, 2, none⟩) (m.2.block _ hlt hDn)).trans q2)
  have K2 := hide' (fun w1 (m : Ht.Bt W0 B0 D M C N T xt xb (.slice pa T.length ca) vc (L ++ Wd.R f n 0) false W.drew w1) => (World.cell?_of_block (a := ⟨w.heap.size, 2, none⟩) (m.choose_spec.2.1.block _ hlt hMn)).trans q2)
  have xx : W.drew.cell? ⟨w.heap.size, 2, none⟩ = some (.string (Rn.arr f n)) := q2
  clear hW hB hlt q2 p0 hDn hMn hm hT hL h hf
  go_enter Try.func7, Try.ntmps7
  go_wp2_with fail
  rw [HWd.out]
  go_region_held (fun w' => w'.cell? ⟨w.heap.size, 2, none⟩ = some (.string (Rn.arr f n))) (first | (with_reducible exact xx) | (with_reducible exact yy) | (with_reducible exact zz)) (first | (go_at_call 10; refine CA.out.mono ?_; rintro r w1 ⟨rfl, m1⟩; have yy := K1.out _ m1; have HM1 := hide' m1) | (go_at_call 16; refine (CB.out _ HM1.out).mono ?_; rintro r w2 ⟨rfl, b2⟩; have zz := K2.out _ b2; have HB2 := hide' b2))
  all_goals
    clear CA CB K1 K2 xx yy zz m1 b2 HM1
    obtain ⟨v2, p2, -, -⟩ := HB2.out
    have CT := hide' (prTruth p2)
    have CR := hide' (prRefTruth p2 (by have := HL.out; have := Wd.R_length f n 0 HF.out; simp only [List.length_append]; omega) HT.out)
    have m2 : w2.cell? ⟨M, 2, none⟩ = some (.slice pa m ca) := by rw [← HM.out]; exact p2.rc.cells.2.2.1
    obtain ⟨v, hV⟩ : ∃ v : Int, Ht.tru (Ht.cc C) (Ht.tdc C) (Ht.cn C N) T (L ++ Wd.R f n 0) false = v := ⟨_, rfl⟩
    rw [hV] at CT CR
    clear hV p2
    go_wp2_with fail
    go_quiet (first | (go_at_call 12; refine Calls.quiet_of_same (CK.out _)) | (go_at_call 8; refine Calls.quiet_of_same (CT.out _)) | (go_at_call 9; refine Calls.quiet_of (CR.out _)))
    go_wp2_with fail
    go_ret
    exact ⟨rfl, (L ++ Wd.R f n 0), false, by have := HL.out; have := Wd.R_length f n 0 HF.out; simp only [List.length_append]; omega, (Ht.Bt.drewN HB2.out _).from HB.out.drew⟩
set_option maxRecDepth 100000 in
set_option maxHeartbeats 4000000 in
theorem htOneAddEnd (h : Ht.Pr W0 B0 D M C N T xt xb va vc L true w) (O : Bool) (s : ByteArray) (n : Nat) (hL : L.length + n ≤ 1099511627776) (hT : T.length ≤ 1099511627776) :
    Calls Try.prog 7 #[.pointer (some ⟨D, 0, none⟩), .pointer (some ⟨M, 0, none⟩), .agg #[.int .i64 1, .bool O, .string s]] w (Ht.OneE W0 B0 D M C N T xt xb va vc L n w) := by
  obtain ⟨W, hW⟩ : ∃ W, w.alloc (.cells #[.int .i64 1, .bool O, .string s] 35) = W := ⟨_, rfl⟩
  have hB : Below w.heap.size w W := by rw [← hW]; exact (Below.refl _ _).alloc (Nat.le_refl _) _
  have hlt : w.heap.size < W.heap.size := by rw [← hW]; simp
  have q2 : W.cell? ⟨w.heap.size, 2, none⟩ = some (.string s) := by rw [← hW]; simp
  have p0 := h.below hB
  have hDn : w.heap.size ≠ D := fun e => by have := h.lt (k := D) (.inl rfl); omega
  have hMn : ¬ Ht.Mn D M vc w.heap.size := fun e => by have := h.lt e; omega
  obtain ⟨pa, ca, rfl, -⟩ := h.nva
  obtain ⟨m, hm⟩ : ∃ m : Nat, T.length = m := ⟨_, rfl⟩
  have HM := hide' hm
  have hT' := hT
  rw [hm] at hT'
  have HT := hide' hT
  have HL := hide' hL
  have HWd := hide' hW
  have HB := hide' hB
  have CK := hide' (fun w1 => htKept w1 D)
  have g9 : decide ((2 : Int) ≤ (m : Int) + 4) = true := decide_eq_true (by omega)
  have CA := hide' (prAddEnd p0 s)
  have CB := hide' (prRefAddEnd p0 s)
  have HBW := hide' (p0.bt (Below.refl _ _))
  clear hW hB hlt p0 hDn hMn hm hT hL h
  go_enter Try.func7, Try.ntmps7
  go_wp2_with fail
  rw [HWd.out]
  go_quiet (first | (go_at_call 10; refine Calls.quiet_of_same (CA.out _)) | (go_at_call 16; refine Calls.quiet_of_same (CB.out _)))
  generalize hnq : W.drewN _ = w2
  have HB2 : Hid (Ht.Bt W0 B0 D M C N T xt xb (.slice pa T.length ca) vc L true W w2) := by rw [← hnq]; exact HBW.out.drewN _
  clear CA CB HBW hnq
  obtain ⟨v2, p2, -, -⟩ := HB2.out
  have CT := hide' (prTruth p2)
  have CR := hide' (prRefTruth p2 (by have := HL.out; omega) HT.out)
  have m2 : w2.cell? ⟨M, 2, none⟩ = some (.slice pa m ca) := by rw [← HM.out]; exact p2.rc.cells.2.2.1
  obtain ⟨v, hV⟩ : ∃ v : Int, Ht.tru (Ht.cc C) (Ht.tdc C) (Ht.cn C N) T L true = v := ⟨_, rfl⟩
  rw [hV] at CT CR
  clear hV p2
  go_wp2_with fail
  go_quiet (first | (go_at_call 12; refine Calls.quiet_of_same (CK.out _)) | (go_at_call 8; refine Calls.quiet_of_same (CT.out _)) | (go_at_call 9; refine Calls.quiet_of (CR.out _)))
  go_wp2_with fail
  go_ret
  exact ⟨rfl, L, true, by have := HL.out; omega, (Ht.Bt.drewN HB2.out _).from HB.out⟩
set_option maxRecDepth 100000 in
set_option maxHeartbeats 4000000 in
theorem htOneClose (h : Ht.Pr W0 B0 D M C N T xt xb va vc L false w) (O : Bool) (s : ByteArray) (n : Nat) (hL : L.length + n ≤ 1099511627776) (hT : T.length ≤ 1099511627776) :
    Calls Try.prog 7 #[.pointer (some ⟨D, 0, none⟩), .pointer (some ⟨M, 0, none⟩), .agg #[.int .i64 2, .bool O, .string s]] w (Ht.OneE W0 B0 D M C N T xt xb va vc L n w) := by
  obtain ⟨W, hW⟩ : ∃ W, w.alloc (.cells #[.int .i64 2, .bool O, .string s] 35) = W := ⟨_, rfl⟩
  have hB : Below w.heap.size w W := by rw [← hW]; exact (Below.refl _ _).alloc (Nat.le_refl _) _
  have hlt : w.heap.size < W.heap.size := by rw [← hW]; simp
  have q2 : W.cell? ⟨w.heap.size, 2, none⟩ = some (.string s) := by rw [← hW]; simp
  have p0 := h.below hB
  have hDn : w.heap.size ≠ D := fun e => by have := h.lt (k := D) (.inl rfl); omega
  have hMn : ¬ Ht.Mn D M vc w.heap.size := fun e => by have := h.lt e; omega
  obtain ⟨pa, ca, rfl, -⟩ := h.nva
  obtain ⟨m, hm⟩ : ∃ m : Nat, T.length = m := ⟨_, rfl⟩
  have HM := hide' hm
  have hT' := hT
  rw [hm] at hT'
  have HT := hide' hT
  have HL := hide' hL
  have HWd := hide' hW
  have HB := hide' hB
  have CK := hide' (fun w1 => htKept w1 D)
  have g9 : decide ((2 : Int) ≤ (m : Int) + 4) = true := decide_eq_true (by omega)
  have CA := hide' (prClose p0)
  have CB := hide' (fun w1 (m : Ht.Md D C N T xt xb L true W w1) => prClose0 p0 m)
  clear hW hB hlt q2 p0 hDn hMn hm hT hL h
  go_enter Try.func7, Try.ntmps7
  go_wp2_with fail
  rw [HWd.out]
  refine CA.out.mono ?_
  rintro e w1 ⟨rfl, m1⟩
  have HM1 := hide' m1
  clear m1 CA
  go_wp2_with fail
  refine (CB.out _ HM1.out).mono ?_
  rintro e w2 ⟨rfl, b2⟩
  have HB2 := hide' b2
  clear b2 CB HM1
  obtain ⟨v2, p2, -, -⟩ := HB2.out
  have CT := hide' (prTruth p2)
  have CR := hide' (prRefTruth p2 (by have := HL.out; omega) HT.out)
  have m2 : w2.cell? ⟨M, 2, none⟩ = some (.slice pa m ca) := by rw [← HM.out]; exact p2.rc.cells.2.2.1
  obtain ⟨v, hV⟩ : ∃ v : Int, Ht.tru (Ht.cc C) (Ht.tdc C) (Ht.cn C N) T L true = v := ⟨_, rfl⟩
  rw [hV] at CT CR
  clear hV p2
  go_wp2_with fail
  go_quiet (first | (go_at_call 12; refine Calls.quiet_of_same (CK.out _)) | (go_at_call 8; refine Calls.quiet_of_same (CT.out _)) | (go_at_call 9; refine Calls.quiet_of (CR.out _)))
  go_wp2_with fail
  go_ret
  exact ⟨rfl, L, true, by have := HL.out; omega, (Ht.Bt.drewN HB2.out _).from HB.out⟩
set_option maxRecDepth 100000 in
set_option maxHeartbeats 4000000 in
theorem htOneCloseEnd (h : Ht.Pr W0 B0 D M C N T xt xb va vc L true w) (O : Bool) (s : ByteArray) (n : Nat) (hL : L.length + n ≤ 1099511627776) (hT : T.length ≤ 1099511627776) :
    Calls Try.prog 7 #[.pointer (some ⟨D, 0, none⟩), .pointer (some ⟨M, 0, none⟩), .agg #[.int .i64 2, .bool O, .string s]] w (Ht.OneE W0 B0 D M C N T xt xb va vc L n w) := by
  obtain ⟨W, hW⟩ : ∃ W, w.alloc (.cells #[.int .i64 2, .bool O, .string s] 35) = W := ⟨_, rfl⟩
  have hB : Below w.heap.size w W := by rw [← hW]; exact (Below.refl _ _).alloc (Nat.le_refl _) _
  have hlt : w.heap.size < W.heap.size := by rw [← hW]; simp
  have q2 : W.cell? ⟨w.heap.size, 2, none⟩ = some (.string s) := by rw [← hW]; simp
  have p0 := h.below hB
  have hDn : w.heap.size ≠ D := fun e => by have := h.lt (k := D) (.inl rfl); omega
  have hMn : ¬ Ht.Mn D M vc w.heap.size := fun e => by have := h.lt e; omega
  obtain ⟨pa, ca, rfl, -⟩ := h.nva
  obtain ⟨m, hm⟩ : ∃ m : Nat, T.length = m := ⟨_, rfl⟩
  have HM := hide' hm
  have hT' := hT
  rw [hm] at hT'
  have HT := hide' hT
  have HL := hide' hL
  have HWd := hide' hW
  have HB := hide' hB
  have CK := hide' (fun w1 => htKept w1 D)
  have g9 : decide ((2 : Int) ≤ (m : Int) + 4) = true := decide_eq_true (by omega)
  have CA := hide' (prCloseEnd p0)
  have CB := hide' (prClose5 p0)
  clear hW hB hlt q2 p0 hDn hMn hm hT hL h
  go_enter Try.func7, Try.ntmps7
  go_wp2_with fail
  rw [HWd.out]
  refine CA.out.mono ?_
  rintro e w1 ⟨rfl, rfl⟩
  clear CA
  go_wp2_with fail
  refine CB.out.mono ?_
  rintro e w2 ⟨rfl, b2⟩
  have HB2 := hide' b2
  clear b2 CB
  obtain ⟨v2, p2, -, -⟩ := HB2.out
  have CT := hide' (prTruth p2)
  have CR := hide' (prRefTruth p2 (by have := HL.out; omega) HT.out)
  have m2 : w2.cell? ⟨M, 2, none⟩ = some (.slice pa m ca) := by rw [← HM.out]; exact p2.rc.cells.2.2.1
  obtain ⟨v, hV⟩ : ∃ v : Int, Ht.tru (Ht.cc C) (Ht.tdc C) (Ht.cn C N) T L true = v := ⟨_, rfl⟩
  rw [hV] at CT CR
  clear hV p2
  go_wp2_with fail
  go_quiet (first | (go_at_call 12; refine Calls.quiet_of_same (CK.out _)) | (go_at_call 8; refine Calls.quiet_of_same (CT.out _)) | (go_at_call 9; refine Calls.quiet_of (CR.out _)))
  go_wp2_with fail
  go_ret
  exact ⟨rfl, L, true, by have := HL.out; omega, (Ht.Bt.drewN HB2.out _).from HB.out⟩
set_option maxRecDepth 100000 in
set_option maxHeartbeats 4000000 in
theorem htOneTruth (h : Ht.Pr W0 B0 D M C N T xt xb va vc L wh w) (O : Bool) (s : ByteArray) (n : Nat) (hL : L.length + n ≤ 1099511627776) (hT : T.length ≤ 1099511627776) :
    Calls Try.prog 7 #[.pointer (some ⟨D, 0, none⟩), .pointer (some ⟨M, 0, none⟩), .agg #[.int .i64 3, .bool O, .string s]] w (Ht.OneE W0 B0 D M C N T xt xb va vc L n w) := by
  obtain ⟨W, hW⟩ : ∃ W, w.alloc (.cells #[.int .i64 3, .bool O, .string s] 35) = W := ⟨_, rfl⟩
  have hB : Below w.heap.size w W := by rw [← hW]; exact (Below.refl _ _).alloc (Nat.le_refl _) _
  have hlt : w.heap.size < W.heap.size := by rw [← hW]; simp
  have q2 : W.cell? ⟨w.heap.size, 2, none⟩ = some (.string s) := by rw [← hW]; simp
  have p0 := h.below hB
  have hDn : w.heap.size ≠ D := fun e => by have := h.lt (k := D) (.inl rfl); omega
  have hMn : ¬ Ht.Mn D M vc w.heap.size := fun e => by have := h.lt e; omega
  obtain ⟨pa, ca, rfl, -⟩ := h.nva
  obtain ⟨m, hm⟩ : ∃ m : Nat, T.length = m := ⟨_, rfl⟩
  have HM := hide' hm
  have hT' := hT
  rw [hm] at hT'
  have HT := hide' hT
  have HL := hide' hL
  have HWd := hide' hW
  have HB := hide' hB
  have CK := hide' (fun w1 => htKept w1 D)
  have g9 : decide ((2 : Int) ≤ (m : Int) + 4) = true := decide_eq_true (by omega)
  have CA := hide' (prTruth p0 0)
  have CB := hide' (prRefTruth p0 (by omega) hT 0)
  obtain ⟨t0, hV0⟩ : ∃ v : Int, Ht.tru (Ht.cc C) (Ht.tdc C) (Ht.cn C N) T L wh = v := ⟨_, rfl⟩
  rw [hV0] at CA CB
  have HBW := hide' (p0.bt (Below.refl _ _))
  have z0 : W.drewN 0 = W := rfl
  rw [z0] at CA CB
  clear hW hB hlt q2 p0 hDn hMn hm hT hL h hV0 z0
  go_enter Try.func7, Try.ntmps7
  go_wp2_with fail
  rw [HWd.out]
  refine CA.out.mono ?_
  rintro e w1 ⟨rfl, hw1⟩
  rw [hw1]
  clear hw1
  go_wp2_with fail
  refine CB.out.mono ?_
  rintro e w2 ⟨rfl, k, hk⟩
  have HB2 : Hid (Ht.Bt W0 B0 D M C N T xt xb (.slice pa T.length ca) vc L wh W w2) := by rw [hk]; exact HBW.out.drewN _
  clear CA CB HBW hk
  obtain ⟨v2, p2, -, -⟩ := HB2.out
  have CT := hide' (prTruth p2)
  have CR := hide' (prRefTruth p2 (by have := HL.out; omega) HT.out)
  have m2 : w2.cell? ⟨M, 2, none⟩ = some (.slice pa m ca) := by rw [← HM.out]; exact p2.rc.cells.2.2.1
  obtain ⟨v, hV⟩ : ∃ v : Int, Ht.tru (Ht.cc C) (Ht.tdc C) (Ht.cn C N) T L wh = v := ⟨_, rfl⟩
  rw [hV] at CT CR
  clear hV p2
  go_wp2_with fail
  go_quiet (first | (go_at_call 12; refine Calls.quiet_of_same (CK.out _)) | (go_at_call 8; refine Calls.quiet_of_same (CT.out _)) | (go_at_call 9; refine Calls.quiet_of (CR.out _)))
  go_wp2_with fail
  go_ret
  exact ⟨rfl, L, wh, by have := HL.out; omega, (Ht.Bt.drewN HB2.out _).from HB.out⟩
set_option maxRecDepth 100000 in
set_option maxHeartbeats 4000000 in
theorem htOneNone (h : Ht.Pr W0 B0 D M C N T xt xb va vc L wh w) (O : Bool) (s : ByteArray) (n : Nat) (K : Int) (h1 : K ≠ 1) (h2 : K ≠ 2) (h3 : K ≠ 3) (hL : L.length + n ≤ 1099511627776) (hT : T.length ≤ 1099511627776) :
    Calls Try.prog 7 #[.pointer (some ⟨D, 0, none⟩), .pointer (some ⟨M, 0, none⟩), .agg #[.int .i64 K, .bool O, .string s]] w (Ht.OneE W0 B0 D M C N T xt xb va vc L n w) := by
  obtain ⟨W, hW⟩ : ∃ W, w.alloc (.cells #[.int .i64 K, .bool O, .string s] 35) = W := ⟨_, rfl⟩
  have hB : Below w.heap.size w W := by rw [← hW]; exact (Below.refl _ _).alloc (Nat.le_refl _) _
  have hlt : w.heap.size < W.heap.size := by rw [← hW]; simp
  have q2 : W.cell? ⟨w.heap.size, 2, none⟩ = some (.string s) := by rw [← hW]; simp
  have p0 := h.below hB
  have hDn : w.heap.size ≠ D := fun e => by have := h.lt (k := D) (.inl rfl); omega
  have hMn : ¬ Ht.Mn D M vc w.heap.size := fun e => by have := h.lt e; omega
  obtain ⟨pa, ca, rfl, -⟩ := h.nva
  obtain ⟨m, hm⟩ : ∃ m : Nat, T.length = m := ⟨_, rfl⟩
  have HM := hide' hm
  have hT' := hT
  rw [hm] at hT'
  have HT := hide' hT
  have HL := hide' hL
  have HWd := hide' hW
  have HB := hide' hB
  have CK := hide' (fun w1 => htKept w1 D)
  have g9 : decide ((2 : Int) ≤ (m : Int) + 4) = true := decide_eq_true (by omega)
  have e1 : (K == 1) = false := by simpa using h1
  have e2 : (K == 2) = false := by simpa using h2
  have e3 : (K == 3) = false := by simpa using h3
  have HB2 := hide' (p0.bt (Below.refl _ _))
  clear hW hB hlt q2 p0 hDn hMn hm hT hL h h1 h2 h3
  obtain ⟨v2, p2, -, -⟩ := HB2.out
  have CT := hide' (prTruth p2)
  have CR := hide' (prRefTruth p2 (by have := HL.out; omega) HT.out)
  have m2 : W.cell? ⟨M, 2, none⟩ = some (.slice pa m ca) := by rw [← HM.out]; exact p2.rc.cells.2.2.1
  obtain ⟨v, hV⟩ : ∃ v : Int, Ht.tru (Ht.cc C) (Ht.tdc C) (Ht.cn C N) T L wh = v := ⟨_, rfl⟩
  rw [hV] at CT CR
  clear hV p2
  go_enter Try.func7, Try.ntmps7
  go_wp2_with fail
  rw [HWd.out]
  go_quiet (first | (go_at_call 12; refine Calls.quiet_of_same (CK.out _)) | (go_at_call 8; refine Calls.quiet_of_same (CT.out _)) | (go_at_call 9; refine Calls.quiet_of (CR.out _)))
  go_wp2_with fail
  go_ret
  exact ⟨rfl, L, wh, by have := HL.out; omega, (Ht.Bt.drewN HB2.out _).from HB.out⟩
theorem htOne (h : Ht.Pr W0 B0 D M C N T xt xb va vc L wh w) (K : Int) (O : Bool) (f : Nat → Nat) (n : Nat) (hf : ∀ j, f j < 256) (hL : L.length + n ≤ 1099511627776) (hT : T.length ≤ 1099511627776) :
    Calls Try.prog 7 #[.pointer (some ⟨D, 0, none⟩), .pointer (some ⟨M, 0, none⟩), .agg #[.int .i64 K, .bool O, .string (Rn.arr f n)]] w (Ht.OneE W0 B0 D M C N T xt xb va vc L n w) := by
  by_cases h1 : K = 1
  · subst h1
    cases wh
    · exact htOneAdd h O f n hf hL hT
    · exact htOneAddEnd h O _ n hL hT
  by_cases h2 : K = 2
  · subst h2
    cases wh
    · exact htOneClose h O _ n hL hT
    · exact htOneCloseEnd h O _ n hL hT
  by_cases h3 : K = 3
  · subst h3
    exact htOneTruth h O _ n hL hT
  exact htOneNone h O _ n K h1 h2 h3 hL hT
end
end Go.Proofs.Ytgbldbohadacmaa
