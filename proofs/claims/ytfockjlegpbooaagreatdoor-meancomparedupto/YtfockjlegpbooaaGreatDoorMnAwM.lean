import Derived.Test.YtfockjlegpbooaaGreatDoorRfBld
import Derived.Test.YtfockjlegpbooaaGreatDoorTrDocC
import Derived.Test.YtfockjlegpbooaaGreatDoorTrVal
import Derived.Test.YtfockjlegpbooaaGreatDoorMnSel
/-
  WALKS over refs.inText, inValue, escape, Text and Value.
-/
namespace Go.Proofs.YtfockjlegpbooaaGreatDoor
open Go.RowKit Go.Lib

namespace Rf
/-- how a byte is written in a text, or in a value, where it isn't written as it is; else nothing -/
def inT (x : Nat) : List UInt8 := if x = 38 then [38, 97, 109, 112, 59] else if x = 60 then [38, 108, 116, 59] else if x = 62 then [38, 103, 116, 59] else if x = 13 then [38, 35, 120, 68, 59] else []
def inV (x : Nat) : List UInt8 := if x = 38 then [38, 97, 109, 112, 59] else if x = 60 then [38, 108, 116, 59] else if x = 34 then [38, 113, 117, 111, 116, 59] else if x = 9 then [38, 35, 120, 57, 59] else if x = 10 then [38, 35, 120, 65, 59] else if x = 13 then [38, 35, 120, 68, 59] else []
theorem inT_le (x : Nat) : (inT x).length ≤ 6 := by unfold inT; repeat' split
                                                    all_goals decide
theorem inV_le (x : Nat) : (inV x).length ≤ 6 := by unfold inV; repeat' split
                                                    all_goals decide
/-- a text's bytes, written so -/
def one (form : Nat → List UInt8) (x : UInt8) : List UInt8 := if form x.toNat = [] then [x] else form x.toNat
def esc (form : Nat → List UInt8) (l : List UInt8) : List UInt8 := l.flatMap (one form)
theorem esc_append (form : Nat → List UInt8) (a b : List UInt8) : esc form (a ++ b) = esc form a ++ esc form b := by simp [esc]
theorem esc_take (form : Nat → List UInt8) (l : List UInt8) (k : Nat) (h : k < l.length) : esc form (l.take (k + 1)) = esc form (l.take k) ++ one form l[k] := by
  rw [List.take_succ_eq_append_getElem h, esc_append]
  simp [esc]
theorem esc_le (form : Nat → List UInt8) (hf : ∀ x, (form x).length ≤ 6) (l : List UInt8) : (esc form l).length ≤ 6 * l.length := by
  induction l with
  | nil => simp [esc]
  | cons a l ih =>
    have e : esc form (a :: l) = one form a ++ esc form l := by simp [esc]
    have h6 : (one form a).length ≤ 6 := by
      unfold one
      split
      · simp
      · exact hf _
    rw [e, List.length_append, List.length_cons]
    omega
end Rf

theorem builder_below' {N b : Nat} {bs : List Value} {W W' : World} (h : Lib.IsBuilderF 144 5 N b bs W) (hb : Below W.heap.size W W') : Lib.IsBuilderF 144 5 N b bs W' := by
  have go : ∀ {p : Value}, Lib.BuilderAtF 144 5 N b p bs W → Lib.BuilderAtF 144 5 N b p bs W' := by
    rintro p ⟨hB, v, hb0, hown, hne⟩
    have k : ∀ {q : Nat} {o : Obj}, W.heap[q]? = some o → W'.heap[q]? = some o := fun {q o} e => (hb.block q (Array.getElem?_eq_some_iff.1 e).1).trans e
    refine ⟨hB, v, k hb0, ⟨hown.1, ?_⟩, hne⟩
    rcases hown.2 with hn | ⟨g, cap, cur, fz, hv, hbg, hg, rest⟩
    · exact .inl hn
    · exact .inr ⟨g, cap, cur, fz, hv, hbg, k hg, rest⟩
  exact h.elim (fun x => .inl (go x)) (fun x => .inr (go x))

theorem strCells_mk (m : List UInt8) : Lib.strCells ⟨m.toArray⟩ = Lib.byteCells m := rfl
theorem strIndex (l : List UInt8) (k : Nat) (hk : k < l.length) (y : UInt8) (hy : l[k]'hk = y) (h : k < (ByteArray.mk l.toArray).size) : (ByteArray.mk l.toArray)[k]'h = y := hy
theorem strExtract (l : List UInt8) (a b : Nat) : (ByteArray.mk l.toArray).extract a b = ⟨((l.drop a).take (b - a)).toArray⟩ := by
  have e : ((ByteArray.mk l.toArray).extract a b).data = ((l.drop a).take (b - a)).toArray := by
    rw [ByteArray.data_extract]
    apply Array.ext'
    simp [List.extract_eq_take_drop]
  exact congrArg ByteArray.mk e

end Go.Proofs.YtfockjlegpbooaaGreatDoor
/-
  WALKS over canon.startTag, canon.Event and canon.Print.
-/
namespace Go.Proofs.YtfockjlegpbooaaGreatDoor
open Go.RowKit Go.Lib
namespace Tr
/-- a Builder of one's own: all lies from the block N on -/
structure Bld (N : Nat) (w : World) (l : List UInt8) (W : World) : Prop where
  out : Lib.IsBuilderF 144 5 N N (Lib.byteCells l) W
  bel : Below N w W
  lt : N < W.heap.size
theorem Bld.below {N : Nat} {w W W' : World} {l : List UInt8} (h : Bld N w l W) (hb : Below W.heap.size W W') : Bld N w l W' := by
  refine ⟨?_, h.bel.trans (hb.mono (Nat.le_of_lt h.lt)), Nat.lt_of_lt_of_le h.lt hb.size⟩
  have go : ∀ {p : Value}, Lib.BuilderAtF 144 5 N N p (Lib.byteCells l) W → Lib.BuilderAtF 144 5 N N p (Lib.byteCells l) W' := by
    rintro p ⟨hB, v, hbk, hown, hne⟩
    refine ⟨hB, v, (hb.block _ h.lt).trans hbk, ⟨hown.1, ?_⟩, hne⟩
    rcases hown.2 with hn | ⟨g, cap, cur, fz, hv, hbg, hg, rest⟩
    · exact .inl hn
    · exact .inr ⟨g, cap, cur, fz, hv, hbg, (hb.block g (Array.getElem?_eq_some_iff.1 hg).1).trans hg, rest⟩
  exact h.out.elim (fun x => .inl (go x)) (fun x => .inr (go x))
theorem Bld.start (w : World) : Bld w.heap.size w [] (w.alloc (.cells #[.pointer none, .slice none 0 0] 144)) :=
  ⟨Lib.IsBuilderF.of (Lib.fresh_isBuilder 144 5 w), (Below.refl _ _).alloc (Nat.le_refl _) _, by simp⟩
end Tr
theorem bldWrite {N : Nat} {w W : World} {l : List UInt8} (h : Tr.Bld N w l W) (s : ByteArray) (hs : l.length + s.size ≤ 140737488355328) :
    Calls Tryz.prog 85 #[.pointer (some ⟨N, 0, none⟩), .string s] W fun e W1 => e = .returned (.tuple #[.int .i64 s.size, .nilIface]) ∧ Tr.Bld N w (l ++ s.data.toList) W1 ∧ (∀ k c t fz, W.heap[k]? = some (.cells c t fz) → k ≠ N → t ≠ 5 → W1.heap[k]? = some (.cells c t fz)) := by
  refine (writeString_k N N (Lib.byteCells l) s W h.out (by rw [Lib.byteCells_length]; exact hs) (Nat.le_of_lt h.lt)).mono ?_
  rintro e W1 ⟨rfl, h2, b1, k1⟩
  refine ⟨rfl, ⟨?_, h.bel.trans b1, Nat.lt_of_lt_of_le h.lt b1.size⟩, fun k c t fz hk hn ht => k1 k _ hk (fun e => hn (Option.some.inj e)) (fun c' fz' e => by cases e; exact ht rfl)⟩
  rw [Lib.byteCells_append]
  exact .inr h2
namespace Tr
/-- how an attribute is written -/
def atB (x : ByteArray × ByteArray) : List UInt8 := [32] ++ x.1.data.toList ++ [61, 34] ++ Rf.esc Rf.inV x.2.data.toList ++ [34]
/-- a start tag up to its i-th attribute -/
def stp (nm : ByteArray) (ats : List (ByteArray × ByteArray)) (i : Nat) : List UInt8 := [60] ++ nm.data.toList ++ (ats.take i).flatMap atB
def stag (nm : ByteArray) (ats : List (ByteArray × ByteArray)) : List UInt8 := stp nm ats ats.length ++ [62]
theorem stp_succ (nm : ByteArray) (ats : List (ByteArray × ByteArray)) (i : Nat) (x : ByteArray × ByteArray) (h : ats[i]? = some x) : stp nm ats (i + 1) = stp nm ats i ++ atB x := by
  obtain ⟨hi, rfl⟩ := List.getElem?_eq_some_iff.1 h
  unfold stp
  rw [List.take_succ_eq_append_getElem hi, List.flatMap_append]
  simp
theorem stp_le (nm : ByteArray) (ats : List (ByteArray × ByteArray)) (i : Nat) : (stp nm ats i).length ≤ (stag nm ats).length := by
  unfold stag stp
  have h : ((ats.take i).flatMap atB).length ≤ (ats.flatMap atB).length := by
    conv => rhs; rw [← List.take_append_drop i ats, List.flatMap_append, List.length_append]
    omega
  simp only [List.length_append, List.take_length]
  omega
/-- an event's bytes -/
def evB (e : Ev Value) : List UInt8 := if e.kind = 0 then stag e.nm e.ats else if e.kind = 1 then Rf.esc Rf.inT e.tx.data.toList else if e.kind = 2 then [60, 47] ++ e.nm.data.toList ++ [62] else []
/-- the bytes of events -/
def evsB (E : Nat → Ev Value) : Nat → List UInt8
  | 0 => []
  | n + 1 => evsB E n ++ evB (E n)
theorem evsB_le (E : Nat → Ev Value) (i : Nat) : ∀ k, (evsB E i).length ≤ (evsB E (i + k)).length
  | 0 => Nat.le_refl _
  | k + 1 => by
    have := evsB_le E i k
    show _ ≤ (evsB E (i + k) ++ _).length
    rw [List.length_append]
    omega
end Tr
end Go.Proofs.YtfockjlegpbooaaGreatDoor
/-
  WALKS over canon.Event and canon.Print.
-/
namespace Go.Proofs.YtfockjlegpbooaaGreatDoor
open Go.RowKit Go.Lib
namespace Tr
theorem mk_self (s : ByteArray) : (ByteArray.mk s.data.toList.toArray) = s := by cases s; rfl
end Tr
end Go.Proofs.YtfockjlegpbooaaGreatDoor
/-
  WALKS over (*tree.Tree).Print of the root above, gimletlaw09.small and awake.
-/
namespace Go.Proofs.YtfockjlegpbooaaGreatDoor
open Go.RowKit Go.Lib
namespace Tr
theorem Alike.evB {n : Nat} {E E' : Nat → Ev Value} (h : Alike n E E') (i : Nat) (hi : i < n) : Tr.evB (E' i) = Tr.evB (E i) := by
  obtain ⟨f1, f2, f3, f4, f5, f6, f7, f8⟩ := h.fields i hi
  unfold Tr.evB
  rw [f1, f4, f5, f6]
theorem Alike.evsB {n : Nat} {E E' : Nat → Ev Value} (h : Alike n E E') : ∀ i, i ≤ n → Tr.evsB E' i = Tr.evsB E i
  | 0, _ => rfl
  | i + 1, hi => by
    show Tr.evsB E' i ++ Tr.evB (E' i) = Tr.evsB E i ++ Tr.evB (E i)
    rw [h.evsB i (by omega), h.evB i (by omega)]
theorem Alike.tx1 {n nd : Nat} {E E' : Nat → Ev Value} (h : Alike n E E') (hs : Shape E (Tr.grun E n) nd n) (k : Int) (hk : k < nd) : Tr.tx1 E' n k = Tr.tx1 E n k := by
  unfold Tr.tx1
  rw [h.grun n (Nat.le_refl _)]
  split
  · obtain ⟨f, e, hf, _⟩ := hs.evt k.toNat (by omega)
    rw [e, Int.toNat_natCast, (h.fields f hf).2.2.2.2.2.1]
  · rfl
theorem Alike.vtx {n nd : Nat} {E E' : Nat → Ev Value} (h : Alike n E E') (hs : Shape E (Tr.grun E n) nd n) (l : List Int) (hl : ∀ k ∈ l, k < (nd : Int)) : Tr.vtx E' n l = Tr.vtx E n l := by
  unfold Tr.vtx
  induction l with
  | nil => rfl
  | cons k l ih =>
    rw [List.flatMap_cons, List.flatMap_cons, ih (fun x hx => hl x (List.mem_cons_of_mem _ hx)), h.tx1 hs k (hl k (List.mem_cons_self ..))]
theorem Alike.small {n : Nat} {E E' : Nat → Ev Value} (h : Alike n E E') (hs : ∀ i, i < n → Small (E i)) : ∀ i, i < n → Small (E' i) := fun i hi => by
  obtain ⟨f1, f2, f3, f4, f5, f6, f7, f8⟩ := h.fields i hi
  unfold Small
  rw [f4, f5, f6]
  exact hs i hi
theorem Alike.tiny {n : Nat} {E E' : Nat → Ev Value} (h : Alike n E E') (hs : ∀ i, i < n → Tiny (E i)) : ∀ i, i < n → Tiny (E' i) := fun i hi => by
  obtain ⟨f1, f2, f3, f4, f5, f6, f7, f8⟩ := h.fields i hi
  unfold Tiny
  rw [f4, f5, f6]
  exact hs i hi
theorem Alike.symm {n : Nat} {E E' : Nat → Ev Value} (h : Alike n E E') : Alike n E' E := fun i hi => by
  rw [h i hi]
/-- <a>x</a>, as events -/
def smE : Nat → Ev Value
  | 0 => ⟨0, 0, 1, ⟨#[97]⟩, .slice none 0 0, [], ⟨#[]⟩, 0, 3⟩
  | 1 => ⟨1, 1, 2, ⟨#[]⟩, .slice none 0 0, [], ⟨#[120]⟩, 3, 8⟩
  | _ => ⟨2, 0, 1, ⟨#[97]⟩, .slice none 0 0, [], ⟨#[]⟩, 0, 8⟩
def smC : Array Value := #[.int .i64 0, .int .i64 0, .int .i64 1, .string ⟨#[97]⟩, .slice none 0 0, .string ⟨#[]⟩, .int .i64 0, .int .i64 3, .int .i64 1, .int .i64 1, .int .i64 2, .string ⟨#[]⟩, .slice none 0 0, .string ⟨#[120]⟩, .int .i64 3, .int .i64 8, .int .i64 2, .int .i64 0, .int .i64 1, .string ⟨#[97]⟩, .slice none 0 0, .string ⟨#[]⟩, .int .i64 0, .int .i64 8]
theorem name_a : nameB ⟨#[97]⟩ = true := by decide +kernel
theorem text_x : textB ⟨#[120]⟩ = true := by decide +kernel
theorem sm_run : drun okB smE 3 = some ⟨[], 2⟩ := by
  have t0 : (ByteArray.mk #[]).toList = [] := by rw [ByteArray.toList_eq]
  have t1 : (ByteArray.mk #[120]).toList = [120] := by rw [ByteArray.toList_eq]
  have o0 : okB (smE 0) = true := by
    show (if (0 : Int) = 0 then isOpenB (smE 0) else isTextB (smE 0)) = true
    rw [if_pos rfl]
    show (decide ((ByteArray.mk #[]).toList = []) && (nameB ⟨#[97]⟩ && true)) = true
    rw [t0, name_a]
    rfl
  have o1 : okB (smE 1) = true := by
    show (if (1 : Int) = 0 then isOpenB (smE 1) else isTextB (smE 1)) = true
    rw [if_neg (by decide)]
    show (decide ((ByteArray.mk #[]).toList = []) && (true && (!decide ((ByteArray.mk #[120]).toList = []) && textB ⟨#[120]⟩))) = true
    rw [t0, t1, text_x]
    rfl
  have c2 : closes (smE 2) (smE 0) = true := by
    show (true && (true && (decide ((ByteArray.mk #[97]).toList = (ByteArray.mk #[97]).toList) && (true && decide ((ByteArray.mk #[]).toList = []))))) = true
    rw [t0]
    simp
  have s1 : drun okB smE 1 = some ⟨[0], 1⟩ := by
    show dstep okB smE ⟨[], 0⟩ 0 = _
    unfold dstep
    rw [if_neg (by simp), if_pos (show (smE 0).kind = 0 from rfl), if_pos ⟨rfl, rfl, o0⟩]
    rfl
  have s2 : drun okB smE 2 = some ⟨[0], 2⟩ := by
    unfold drun
    rw [s1]
    show dstep okB smE ⟨[0], 1⟩ 1 = _
    unfold dstep
    rw [if_neg (by simp), if_neg (by decide), if_pos (show (smE 1).kind = 1 from rfl), if_pos ⟨by simp, by decide, rfl, rfl, o1⟩]
  unfold drun
  rw [s2]
  show dstep okB smE ⟨[0], 2⟩ 2 = _
  unfold dstep
  rw [if_neg (by simp), if_neg (by decide), if_neg (by decide), if_pos (show (smE 2).kind = 2 from rfl)]
  show (if closes (smE 2) (smE 0) = true then some (Ds.mk [] 2) else none) = _
  rw [if_pos c2]
theorem sm_doc : doc okB smE 3 = true := by
  unfold doc
  rw [sm_run]
  rfl
theorem sm_tiny : ∀ i, i < 3 → Tiny (smE i) := by
  intro i hi
  match i, hi with
  | 0, _ => exact ⟨by decide, by decide, by decide, fun x hx => by cases hx⟩
  | 1, _ => exact ⟨by decide, by decide, by decide, fun x hx => by cases hx⟩
  | 2, _ => exact ⟨by decide, by decide, by decide, fun x hx => by cases hx⟩
theorem sm_small : ∀ i, i < 3 → Small (smE i) := fun i hi => (sm_tiny i hi).small
theorem sm_evs (w : World) : Evs (w.alloc (.cells smC 71)) (.slice (some ⟨w.heap.size, 0, none⟩) 3 3) 3 smE := by
  have hb : (w.alloc (.cells smC 71)).heap[w.heap.size]? = some (.cells smC 71 (0, 0)) := heap_alloc_new w _
  refine ⟨⟨_, 3, rfl, Nat.le_refl _, by decide, (fun e => by cases e), fun _ => ⟨w.heap.size, 0, rfl, fun i j u hi hu => ?_⟩⟩, fun i hi => ?_⟩
  · rw [Lib.cell_of_heap hb]
    have hj : j < 8 := by
      have := (Array.getElem?_eq_some_iff.1 hu).1
      exact this
    rw [← hu]
    have hall : ∀ i : Fin 3, ∀ j : Fin 8, smC[0 + i.val * 8 + j.val]? = (smE i.val).cs[j.val]? := by
      intro i j
      match i, j with
      | 0, 0 | 0, 1 | 0, 2 | 0, 3 | 0, 4 | 0, 5 | 0, 6 | 0, 7 | 1, 0 | 1, 1 | 1, 2 | 1, 3 | 1, 4 | 1, 5 | 1, 6 | 1, 7 | 2, 0 | 2, 1 | 2, 2 | 2, 3 | 2, 4 | 2, 5 | 2, 6 | 2, 7 => rfl
    exact hall ⟨i, hi⟩ ⟨j, hj⟩
  · have e : (smE i).av = .slice none 0 0 ∧ (smE i).ats = [] := by
      match i, hi with
      | 0, _ => exact ⟨rfl, rfl⟩
      | 1, _ => exact ⟨rfl, rfl⟩
      | 2, _ => exact ⟨rfl, rfl⟩
    rw [e.1, e.2]
    exact ⟨none, 0, rfl, Nat.le_refl _, by decide, fun _ => rfl, fun h => absurd h (by decide)⟩
theorem sm_nd : (grun smE 3).ns.length = 2 := by decide +kernel
theorem sm_val : vtx smE 3 (numL 0 2) = [120] := by decide +kernel
theorem sm_bh : bh smE 3 2 0 = 2 := by decide +kernel
theorem sm_txt : evsB smE 3 = [60, 97, 62, 120, 60, 47, 97, 62] := by decide +kernel
end Tr
end Go.Proofs.YtfockjlegpbooaaGreatDoor
/-
  <a>x</a> as gimletlaw12's awake has it: its events, its spots, what its two paths lead to.
-/
namespace Go.Proofs.YtfockjlegpbooaaGreatDoor
open Go.RowKit Go.Lib
namespace Tr
/-- <a>x</a>, as events -/
def mwE : Nat → Ev Value
  | 0 => ⟨0, 0, 1, ⟨#[97]⟩, .slice none 0 0, [], ⟨#[]⟩, 0, 0⟩
  | 1 => ⟨1, 1, 2, ⟨#[]⟩, .slice none 0 0, [], ⟨#[120]⟩, 0, 0⟩
  | _ => ⟨2, 0, 1, ⟨#[97]⟩, .slice none 0 0, [], ⟨#[]⟩, 0, 0⟩
def mwC : Array Value := #[.int .i64 0, .int .i64 0, .int .i64 1, .string ⟨#[97]⟩, .slice none 0 0, .string ⟨#[]⟩, .int .i64 0, .int .i64 0, .int .i64 1, .int .i64 1, .int .i64 2, .string ⟨#[]⟩, .slice none 0 0, .string ⟨#[120]⟩, .int .i64 0, .int .i64 0, .int .i64 2, .int .i64 0, .int .i64 1, .string ⟨#[97]⟩, .slice none 0 0, .string ⟨#[]⟩, .int .i64 0, .int .i64 0]
theorem mw_run : drun okB mwE 3 = some ⟨[], 2⟩ := by
  have t0 : (ByteArray.mk #[]).toList = [] := by rw [ByteArray.toList_eq]
  have t1 : (ByteArray.mk #[120]).toList = [120] := by rw [ByteArray.toList_eq]
  have o0 : okB (mwE 0) = true := by
    show (if (0 : Int) = 0 then isOpenB (mwE 0) else isTextB (mwE 0)) = true
    rw [if_pos rfl]
    show (decide ((ByteArray.mk #[]).toList = []) && (nameB ⟨#[97]⟩ && true)) = true
    rw [t0, name_a]
    rfl
  have o1 : okB (mwE 1) = true := by
    show (if (1 : Int) = 0 then isOpenB (mwE 1) else isTextB (mwE 1)) = true
    rw [if_neg (by decide)]
    show (decide ((ByteArray.mk #[]).toList = []) && (true && (!decide ((ByteArray.mk #[120]).toList = []) && textB ⟨#[120]⟩))) = true
    rw [t0, t1, text_x]
    rfl
  have c2 : closes (mwE 2) (mwE 0) = true := by
    show (true && (true && (decide ((ByteArray.mk #[97]).toList = (ByteArray.mk #[97]).toList) && (true && decide ((ByteArray.mk #[]).toList = []))))) = true
    rw [t0]
    simp
  have s1 : drun okB mwE 1 = some ⟨[0], 1⟩ := by
    show dstep okB mwE ⟨[], 0⟩ 0 = _
    unfold dstep
    rw [if_neg (by simp), if_pos (show (mwE 0).kind = 0 from rfl), if_pos ⟨rfl, rfl, o0⟩]
    rfl
  have s2 : drun okB mwE 2 = some ⟨[0], 2⟩ := by
    unfold drun
    rw [s1]
    show dstep okB mwE ⟨[0], 1⟩ 1 = _
    unfold dstep
    rw [if_neg (by simp), if_neg (by decide), if_pos (show (mwE 1).kind = 1 from rfl), if_pos ⟨by simp, by decide, rfl, rfl, o1⟩]
  unfold drun
  rw [s2]
  show dstep okB mwE ⟨[0], 2⟩ 2 = _
  unfold dstep
  rw [if_neg (by simp), if_neg (by decide), if_neg (by decide), if_pos (show (mwE 2).kind = 2 from rfl)]
  show (if closes (mwE 2) (mwE 0) = true then some (Ds.mk [] 2) else none) = _
  rw [if_pos c2]
theorem mw_doc : doc okB mwE 3 = true := by
  unfold doc
  rw [mw_run]
  rfl
theorem mw_tiny : ∀ i, i < 3 → Tiny (mwE i) := by
  intro i hi
  match i, hi with
  | 0, _ => exact ⟨by decide, by decide, by decide, fun x hx => by cases hx⟩
  | 1, _ => exact ⟨by decide, by decide, by decide, fun x hx => by cases hx⟩
  | 2, _ => exact ⟨by decide, by decide, by decide, fun x hx => by cases hx⟩
theorem mw_small : ∀ i, i < 3 → Small (mwE i) := fun i hi => (mw_tiny i hi).small
theorem mw_evs (w : World) : Evs (w.alloc (.cells mwC 71)) (.slice (some ⟨w.heap.size, 0, none⟩) 3 3) 3 mwE := by
  have hb : (w.alloc (.cells mwC 71)).heap[w.heap.size]? = some (.cells mwC 71 (0, 0)) := heap_alloc_new w _
  refine ⟨⟨_, 3, rfl, Nat.le_refl _, by decide, (fun e => by cases e), fun _ => ⟨w.heap.size, 0, rfl, fun i j u hi hu => ?_⟩⟩, fun i hi => ?_⟩
  · rw [Lib.cell_of_heap hb]
    have hj : j < 8 := by
      have := (Array.getElem?_eq_some_iff.1 hu).1
      exact this
    rw [← hu]
    have hall : ∀ i : Fin 3, ∀ j : Fin 8, mwC[0 + i.val * 8 + j.val]? = (mwE i.val).cs[j.val]? := by
      intro i j
      match i, j with
      | 0, 0 | 0, 1 | 0, 2 | 0, 3 | 0, 4 | 0, 5 | 0, 6 | 0, 7 | 1, 0 | 1, 1 | 1, 2 | 1, 3 | 1, 4 | 1, 5 | 1, 6 | 1, 7 | 2, 0 | 2, 1 | 2, 2 | 2, 3 | 2, 4 | 2, 5 | 2, 6 | 2, 7 => rfl
    exact hall ⟨i, hi⟩ ⟨j, hj⟩
  · have e : (mwE i).av = .slice none 0 0 ∧ (mwE i).ats = [] := by
      match i, hi with
      | 0, _ => exact ⟨rfl, rfl⟩
      | 1, _ => exact ⟨rfl, rfl⟩
      | 2, _ => exact ⟨rfl, rfl⟩
    rw [e.1, e.2]
    exact ⟨none, 0, rfl, Nat.le_refl _, by decide, fun _ => rfl, fun h => absurd h (by decide)⟩
theorem mw_nd : (grun mwE 3).ns.length = 2 := by decide +kernel
end Tr
namespace Mn
theorem mw_f0 : ((Tr.grun Tr.mwE 3).nth 0).fst = 0 := by decide +kernel
theorem mw_f1 : ((Tr.grun Tr.mwE 3).nth 1).fst = 1 := by decide +kernel
theorem mw_p0 : ((Tr.grun Tr.mwE 3).nth 0).par = -1 := by decide +kernel
theorem mw_p1 : ((Tr.grun Tr.mwE 3).nth 1).par = 0 := by decide +kernel
/-- the spots of it -/
theorem mw_sp {E : Nat → Tr.Ev Value} {nd : Nat} (hal : Tr.Alike 3 Tr.mwE E) (hnd : nd = 2) {l : List Sp} (h : SpP E 3 (-1) (Tr.numL (-1) (Tr.bh E 3 nd (-1))) l) :
    ∃ a0 a1 a2 x0 x1 x2 y0 y1 y2, l = [⟨false, false, ⟨#[]⟩, a0, 1, x0, y0⟩, ⟨true, false, ⟨#[97]⟩, a1, 0, x1, y1⟩, ⟨false, true, ⟨#[]⟩, a2, 1, x2, y2⟩] := by
  subst hnd
  have e0 : Tr.numL (-1) (Tr.bh E 3 2 (-1)) = [-1, 0, 1] := rfl
  rw [e0] at h
  have hg := hal.grun 3 (Nat.le_refl _)
  have g0 : evI E 3 0 = 0 := by unfold evI; rw [hg]; show ((Tr.grun Tr.mwE 3).nth 0).fst.toNat = 0; rw [mw_f0]; rfl
  have g1 : evI E 3 1 = 1 := by unfold evI; rw [hg]; show ((Tr.grun Tr.mwE 3).nth 1).fst.toNat = 1; rw [mw_f1]; rfl
  have p0 : parI E 3 0 = -1 := by unfold parI; rw [hg]; exact mw_p0
  have p1 : parI E 3 1 = 0 := by unfold parI; rw [hg]; exact mw_p1
  obtain ⟨f1, _, _, f4, _⟩ := hal.fields 0 (by decide)
  obtain ⟨k1, _, _, k4, _⟩ := hal.fields 1 (by decide)
  obtain ⟨a0, s0⟩ := h.2 0 (-1) rfl
  obtain ⟨a1, s1⟩ := h.2 1 0 rfl
  obtain ⟨a2, s2⟩ := h.2 2 1 rfl
  have hl : l.length = 3 := h.1
  obtain ⟨b0, b1, b2, rfl⟩ : ∃ b0 b1 b2, l = [b0, b1, b2] := by
    match l, hl with
    | [b0, b1, b2], _ => exact ⟨b0, b1, b2, rfl⟩
  have r0 := Option.some.inj s0
  have r1 := Option.some.inj s1
  have r2 := Option.some.inj s2
  unfold spA at r0 r1 r2
  rw [if_pos (by decide)] at r0
  rw [if_neg (by decide), g0, p0, f1, f4] at r1
  rw [if_neg (by decide), g1, p1, k1, k4] at r2
  rw [r0, r1, r2]
  exact ⟨a0, a1, a2, _, _, _, _, _, _, rfl⟩
theorem mw_str (a0 a1 a2 : Value) (x0 x1 x2 y0 y1 y2 : Int) : str [⟨false, false, ⟨#[]⟩, a0, 1, x0, y0⟩, ⟨true, false, ⟨#[97]⟩, a1, 0, x1, y1⟩, ⟨false, true, ⟨#[]⟩, a2, 1, x2, y2⟩] 2 = [⟨false, false, ⟨#[]⟩, a0, 1, x0, max y0 (max y1 y2)⟩, ⟨true, false, ⟨#[97]⟩, a1, 0, x1, max y1 y2⟩, ⟨false, true, ⟨#[]⟩, a2, 1, x2, y2⟩] := rfl
theorem mw_child {E : Nat → Tr.Ev Value} {nd : Nat} (hal : Tr.Alike 3 Tr.mwE E) (hnd : nd = 2) (l : List Sp) (h : SpP E 3 (-1) (Tr.numL (-1) (Tr.bh E 3 nd (-1))) l) : numsB (-1) (reach1 (str l (l.length - 1)) 0 0 ⟨#[97]⟩) l.length = [0] := by
  obtain ⟨a0, a1, a2, x0, x1, x2, y0, y1, y2, rfl⟩ := mw_sp hal hnd h
  show numsB (-1) (reach1 (str _ 2) 0 0 ⟨#[97]⟩) 3 = [0]
  rw [mw_str]
  have e : reach1 [⟨false, false, ⟨#[]⟩, a0, 1, x0, max y0 (max y1 y2)⟩, ⟨true, false, ⟨#[97]⟩, a1, 0, x1, max y1 y2⟩, ⟨false, true, ⟨#[]⟩, a2, 1, x2, y2⟩] 0 0 ⟨#[97]⟩ = [false, (true && ((ByteArray.mk #[97]).toList == (ByteArray.mk #[97]).toList)), false] := rfl
  rw [e, beq_self_eq_true]
  rfl
theorem mw_text {E : Nat → Tr.Ev Value} {nd : Nat} (hal : Tr.Alike 3 Tr.mwE E) (hnd : nd = 2) (l : List Sp) (h : SpP E 3 (-1) (Tr.numL (-1) (Tr.bh E 3 nd (-1))) l) : numsB (-1) (reach1 (str l (l.length - 1)) 1 2 ⟨#[]⟩) l.length = [1] := by
  obtain ⟨a0, a1, a2, x0, x1, x2, y0, y1, y2, rfl⟩ := mw_sp hal hnd h
  show numsB (-1) (reach1 (str _ 2) 1 2 ⟨#[]⟩) 3 = [1]
  rw [mw_str]
  rfl
end Mn
end Go.Proofs.YtfockjlegpbooaaGreatDoor
