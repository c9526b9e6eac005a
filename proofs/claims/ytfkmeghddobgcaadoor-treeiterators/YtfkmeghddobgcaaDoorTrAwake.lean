/-
  WALKS over (*tree.Tree).Print of the root above, gimletlaw09.small and awake.
-/
import Derived.Test.YtfkmeghddobgcaaDoorTrVal
import Derived.Test.YtfkmeghddobgcaaDoorTrCanonB
namespace Go.Proofs.YtfkmeghddobgcaaDoor
open Go.RowKit Go.Lib
namespace Tr
theorem Alike.evB {n : Nat} {E E' : Nat → Ev Value} (h : Alike n E E') (i : Nat) (hi : i < n) : Tr.evB (E' i) = Tr.evB (E i) := by
  obtain ⟨f1, f2, f3, f4, f5, f6, f7, f8⟩ := h.fields i hi
  unfold Tr.evB
  rw [f1, f4, f5, f6]
theorem Alike.evsB {n : Nat} {E E' : Nat → Ev Value} (h : Alike n E E') : ∀ i, i ≤ n → Tr.evsB E' i = Tr.evsB E i
  | 0, _ => rfl
  | i + 1, hi => by
    show Tr.evsB E' i ++ Tr.evB (E' i) = Tr.evsB E i ++ Tr.evB (E i)
    rw [h.evsB i (by omega), h.evB i (by omega)]
theorem Alike.tx1 {n nd : Nat} {E E' : Nat → Ev Value} (h : Alike n E E') (hs : Shape E (Tr.grun E n) nd n) (k : Int) (hk : k < nd) : Tr.tx1 E' n k = Tr.tx1 E n k := by
  unfold Tr.tx1
  rw [h.grun n (Nat.le_refl _)]
  split
  · obtain ⟨f, e, hf, _⟩ := hs.evt k.toNat (by omega)
    rw [e, Int.toNat_natCast, (h.fields f hf).2.2.2.2.2.1]
  · rfl
theorem Alike.vtx {n nd : Nat} {E E' : Nat → Ev Value} (h : Alike n E E') (hs : Shape E (Tr.grun E n) nd n) (l : List Int) (hl : ∀ k ∈ l, k < (nd : Int)) : Tr.vtx E' n l = Tr.vtx E n l := by
  unfold Tr.vtx
  induction l with
  | nil => rfl
  | cons k l ih =>
    rw [List.flatMap_cons, List.flatMap_cons, ih (fun x hx => hl x (List.mem_cons_of_mem _ hx)), h.tx1 hs k (hl k (List.mem_cons_self ..))]
theorem Alike.small {n : Nat} {E E' : Nat → Ev Value} (h : Alike n E E') (hs : ∀ i, i < n → Small (E i)) : ∀ i, i < n → Small (E' i) := fun i hi => by
  obtain ⟨f1, f2, f3, f4, f5, f6, f7, f8⟩ := h.fields i hi
  unfold Small
  rw [f4, f5, f6]
  exact hs i hi
theorem Alike.tiny {n : Nat} {E E' : Nat → Ev Value} (h : Alike n E E') (hs : ∀ i, i < n → Tiny (E i)) : ∀ i, i < n → Tiny (E' i) := fun i hi => by
  obtain ⟨f1, f2, f3, f4, f5, f6, f7, f8⟩ := h.fields i hi
  unfold Tiny
  rw [f4, f5, f6]
  exact hs i hi
theorem Alike.symm {n : Nat} {E E' : Nat → Ev Value} (h : Alike n E E') : Alike n E' E := fun i hi => by
  rw [h i hi]
/-- <a>x</a>, as events -/
def smE : Nat → Ev Value
  | 0 => ⟨0, 0, 1, ⟨#[97]⟩, .slice none 0 0, [], ⟨#[]⟩, 0, 3⟩
  | 1 => ⟨1, 1, 2, ⟨#[]⟩, .slice none 0 0, [], ⟨#[120]⟩, 3, 8⟩
  | _ => ⟨2, 0, 1, ⟨#[97]⟩, .slice none 0 0, [], ⟨#[]⟩, 0, 8⟩
def smC : Array Value := #[.int .i64 0, .int .i64 0, .int .i64 1, .string ⟨#[97]⟩, .slice none 0 0, .string ⟨#[]⟩, .int .i64 0, .int .i64 3, .int .i64 1, .int .i64 1, .int .i64 2, .string ⟨#[]⟩, .slice none 0 0, .string ⟨#[120]⟩, .int .i64 3, .int .i64 8, .int .i64 2, .int .i64 0, .int .i64 1, .string ⟨#[97]⟩, .slice none 0 0, .string ⟨#[]⟩, .int .i64 0, .int .i64 8]
theorem name_a : nameB ⟨#[97]⟩ = true := by decide +kernel
theorem text_x : textB ⟨#[120]⟩ = true := by decide +kernel
theorem sm_run : drun okB smE 3 = some ⟨[], 2⟩ := by
  have t0 : (ByteArray.mk #[]).toList = [] := by rw [ByteArray.toList_eq]
  have t1 : (ByteArray.mk #[120]).toList = [120] := by rw [ByteArray.toList_eq]
  have o0 : okB (smE 0) = true := by
    show (if (0 : Int) = 0 then isOpenB (smE 0) else isTextB (smE 0)) = true
    rw [if_pos rfl]
    show (decide ((ByteArray.mk #[]).toList = []) && (nameB ⟨#[97]⟩ && true)) = true
    rw [t0, name_a]
    rfl
  have o1 : okB (smE 1) = true := by
    show (if (1 : Int) = 0 then isOpenB (smE 1) else isTextB (smE 1)) = true
    rw [if_neg (by decide)]
    show (decide ((ByteArray.mk #[]).toList = []) && (true && (!decide ((ByteArray.mk #[120]).toList = []) && textB ⟨#[120]⟩))) = true
    rw [t0, t1, text_x]
    rfl
  have c2 : closes (smE 2) (smE 0) = true := by
    show (true && (true && (decide ((ByteArray.mk #[97]).toList = (ByteArray.mk #[97]).toList) && (true && decide ((ByteArray.mk #[]).toList = []))))) = true
    rw [t0]
    simp
  have s1 : drun okB smE 1 = some ⟨[0], 1⟩ := by
    show dstep okB smE ⟨[], 0⟩ 0 = _
    unfold dstep
    rw [if_neg (by simp), if_pos (show (smE 0).kind = 0 from rfl), if_pos ⟨rfl, rfl, o0⟩]
    rfl
  have s2 : drun okB smE 2 = some ⟨[0], 2⟩ := by
    unfold drun
    rw [s1]
    show dstep okB smE ⟨[0], 1⟩ 1 = _
    unfold dstep
    rw [if_neg (by simp), if_neg (by decide), if_pos (show (smE 1).kind = 1 from rfl), if_pos ⟨by simp, by decide, rfl, rfl, o1⟩]
  unfold drun
  rw [s2]
  show dstep okB smE ⟨[0], 2⟩ 2 = _
  unfold dstep
  rw [if_neg (by simp), if_neg (by decide), if_neg (by decide), if_pos (show (smE 2).kind = 2 from rfl)]
  show (if closes (smE 2) (smE 0) = true then some (Ds.mk [] 2) else none) = _
  rw [if_pos c2]
theorem sm_doc : doc okB smE 3 = true := by
  unfold doc
  rw [sm_run]
  rfl
theorem sm_tiny : ∀ i, i < 3 → Tiny (smE i) := by
  intro i hi
  match i, hi with
  | 0, _ => exact ⟨by decide, by decide, by decide, fun x hx => by cases hx⟩
  | 1, _ => exact ⟨by decide, by decide, by decide, fun x hx => by cases hx⟩
  | 2, _ => exact ⟨by decide, by decide, by decide, fun x hx => by cases hx⟩
theorem sm_small : ∀ i, i < 3 → Small (smE i) := fun i hi => (sm_tiny i hi).small
theorem sm_evs (w : World) : Evs (w.alloc (.cells smC 39)) (.slice (some ⟨w.heap.size, 0, none⟩) 3 3) 3 smE := by
  have hb : (w.alloc (.cells smC 39)).heap[w.heap.size]? = some (.cells smC 39 (0, 0)) := heap_alloc_new w _
  refine ⟨⟨_, 3, rfl, Nat.le_refl _, by decide, (fun e => by cases e), fun _ => ⟨w.heap.size, 0, rfl, fun i j u hi hu => ?_⟩⟩, fun i hi => ?_⟩
  · rw [Lib.cell_of_heap hb]
    have hj : j < 8 := by
      have := (Array.getElem?_eq_some_iff.1 hu).1
      exact this
    rw [← hu]
    have hall : ∀ i : Fin 3, ∀ j : Fin 8, smC[0 + i.val * 8 + j.val]? = (smE i.val).cs[j.val]? := by
      intro i j
      match i, j with
      | 0, 0 | 0, 1 | 0, 2 | 0, 3 | 0, 4 | 0, 5 | 0, 6 | 0, 7 | 1, 0 | 1, 1 | 1, 2 | 1, 3 | 1, 4 | 1, 5 | 1, 6 | 1, 7 | 2, 0 | 2, 1 | 2, 2 | 2, 3 | 2, 4 | 2, 5 | 2, 6 | 2, 7 => rfl
    exact hall ⟨i, hi⟩ ⟨j, hj⟩
  · have e : (smE i).av = .slice none 0 0 ∧ (smE i).ats = [] := by
      match i, hi with
      | 0, _ => exact ⟨rfl, rfl⟩
      | 1, _ => exact ⟨rfl, rfl⟩
      | 2, _ => exact ⟨rfl, rfl⟩
    rw [e.1, e.2]
    exact ⟨none, 0, rfl, Nat.le_refl _, by decide, fun _ => rfl, fun h => absurd h (by decide)⟩
theorem sm_nd : (grun smE 3).ns.length = 2 := by decide +kernel
theorem sm_val : vtx smE 3 (numL 0 2) = [120] := by decide +kernel
theorem sm_bh : bh smE 3 2 0 = 2 := by decide +kernel
theorem sm_txt : evsB smE 3 = [60, 97, 62, 120, 60, 47, 97, 62] := by decide +kernel
end Tr
set_option maxHeartbeats 1000000 in
theorem trSmall (w : World) : Calls Tryd.prog 27 #[] w fun r w' => r = .returned (.slice (some ⟨w.heap.size, 0, none⟩) 3 3) ∧ w' = w.alloc (.cells Tr.smC 39) := by
  go_enter Tryd.func27, Tryd.ntmps27
  go_wp2
  go_ret
  exact ⟨rfl, rfl⟩
set_option maxHeartbeats 1000000 in
theorem trPrintAll (w : World) (B D n : Nat) (E : Nat → Tr.Ev Value) (L q cap nd : Nat) (h : Tr.TreeR w B D n E L q cap nd) (hs : ∀ i, i < n → Tr.Tiny (E i)) (hn : n ≤ 1048576) (hl : (Tr.evsB E n).length ≤ 70368744177664) :
    Calls Tryd.prog 19 #[.pointer (some ⟨D, 0, none⟩), .int .i64 (-1)] w fun e w' => e = .returned (.tuple #[.string ⟨(Tr.evsB E n).toArray⟩, .int .i64 0]) ∧ Below w.heap.size w w' := by
  have cL := trLacks w B D n E L q cap nd h (-1) (-1)
  rw [if_neg (by omega)] at cL
  have cP := trPrint _ n E w h.evs hs hn hl
  have c0 := h.c0
  have CP := hide' cP
  clear h hs hl cP
  go_enter Tryd.func19, Tryd.ntmps19
  go_wp2_with fail
  refine cL.mono ?_
  rintro e w1 ⟨rfl, rfl⟩
  clear cL
  go_wp2_with fail
  refine CP.out.mono ?_
  rintro e w1 ⟨rfl, hb1⟩
  go_wp2_with fail
  go_ret2
  exact ⟨rfl, hb1⟩
set_option maxHeartbeats 2000000 in
theorem trAwake (w : World) (hS : Spans w) (hT : Lib.Utf8Tabs 1 2 w) :
    Calls Tryd.prog 7 #[] w fun r w' => r = .returned (.bool true) ∧ Below w.heap.size w w' := by
  have c1 := trSmall w
  have hb0 : Below w.heap.size w (w.alloc (.cells Tr.smC 39)) := (Below.refl _ _).alloc (Nat.le_refl _) _
  have c2 := trBuild _ 3 Tr.smE _ (Tr.sm_evs w) Tr.sm_small (by decide) (hS.below hb0 (Nat.le_refl _)) (tabs_below hT hb0 (Nat.le_refl _))
  have HB0 := hide' hb0
  have C2 := hide' c2
  clear c2 hb0 hS hT
  go_enter Tryd.func7, Tryd.ntmps7
  go_wp2_with fail
  refine c1.mono ?_
  rintro e w1 ⟨rfl, rfl⟩
  clear c1
  go_wp2_with fail
  refine C2.out.mono ?_
  rintro e w2 ⟨hb2, hr⟩
  rcases hr with ⟨hd, _⟩ | ⟨_, D, E, L, q, cap, nd, rfl, hA, hR⟩
  · rw [Tr.sm_doc] at hd
    cases hd
  have hnd : nd = 2 := by
    have h1 := hR.shp.len
    rw [hA.grun 3 (Nat.le_refl _), Tr.sm_nd] at h1
    exact h1.symm
  subst hnd
  have hsh : Tr.Shape Tr.smE (Tr.grun Tr.smE 3) 2 3 := by
    obtain ⟨nd, e, h⟩ := Tr.doc_shape Tr.sm_doc
    rw [Tr.sm_run] at e
    cases e
    exact h
  have hsm := hA.tiny Tr.sm_tiny
  have ebh : Tr.bh E 3 2 0 = 2 := by
    rw [← Tr.sm_bh]
    unfold Tr.bh
    rw [hA.grun 3 (Nat.le_refl _)]
  have c3 := trLen w2 _ D 3 E L q cap 2 hR
  have c4 := trValue w2 _ D 3 E L q cap 2 hR hsm (by decide) 0 (by decide) (by decide)
  rw [ebh, hA.vtx hsh _ (fun k hk => by
    simp only [Tr.numL, List.mem_map, List.mem_range] at hk
    obtain ⟨j, h1, rfl⟩ := hk
    omega), Tr.sm_val] at c4
  have etx : Tr.evsB E 3 = [60, 97, 62, 120, 60, 47, 97, 62] := by rw [hA.evsB 3 (Nat.le_refl _), Tr.sm_txt]
  have c5 : ∀ w3, Below w2.heap.size w2 w3 → _ := fun w3 hb => trPrintAll w3 _ D 3 E L q cap 2 (hR.below hb) hsm (by decide) (by rw [etx]; decide)
  rw [etx] at c5
  have HB2 := hide' (HB0.out.trans (hb2.mono HB0.out.size))
  have C3 := hide' c3
  have C4 := hide' c4
  have C5 := hide' c5
  clear c3 c4 c5 hb2 hA hR hsh hsm ebh etx C2
  go_wp2_with fail
  refine C3.out.mono ?_
  rintro e w3 ⟨rfl, rfl⟩
  go_wp2_with fail
  refine C4.out.mono ?_
  rintro e w3 ⟨rfl, hb3⟩
  have HB3 := hide' hb3
  clear hb3
  go_wp2_with fail
  refine (C5.out w3 HB3.out).mono ?_
  rintro e w4 ⟨rfl, hb4⟩
  have HB4 := hide' hb4
  clear hb4
  go_wp2_with fail
  go_ret
  exact ⟨rfl, (HB2.out.trans (HB3.out.mono HB2.out.size)).trans (HB4.out.mono (Nat.le_trans HB2.out.size HB3.out.size))⟩
end Go.Proofs.YtfkmeghddobgcaaDoor
