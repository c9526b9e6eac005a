/-
  WALKS over words.firstPlaces and words.Translate: a map of the call's own.
-/
import Derived.Test.YtfbjkebinbemdaaDoorWdSub
import Derived.Test.YtfbjkebinbemdaaDoorWdSqzW
import Derived.Maps.OwnSet
namespace Go.Proofs.YtfbjkebinbemdaaDoor
open Go.RowKit

namespace Wd
/-- where it stands first -/
def ix : List Nat → Nat → Option Nat
  | [], _ => none
  | a :: L, r => if a = r then some 0 else (ix L r).map (· + 1)
theorem ix_snoc : ∀ (L : List Nat) (a r : Nat), ix (L ++ [a]) r = (match ix L r with | some i => some i | none => if a = r then some L.length else none)
  | [], a, r => by simp [ix]
  | b :: L, a, r => by
    rw [List.cons_append]
    unfold ix
    by_cases h : b = r
    · rw [if_pos h, if_pos h]
    · rw [if_neg h, if_neg h, ix_snoc L a r]
      cases hx : ix L r with
      | some i => simp
      | none =>
        by_cases e : a = r
        · simp [e]
        · simp [e]
theorem ix_lt : ∀ (L : List Nat) (r i : Nat), ix L r = some i → i < L.length ∧ lg L i = r
  | [], _, _, h => by simp [ix] at h
  | a :: L, r, i, h => by
    unfold ix at h
    by_cases e : a = r
    · rw [if_pos e] at h
      cases h
      exact ⟨by simp, e⟩
    · rw [if_neg e] at h
      cases hx : ix L r with
      | none => rw [hx] at h; cases h
      | some j =>
        rw [hx] at h
        simp at h
        subst h
        obtain ⟨h1, h2⟩ := ix_lt L r j hx
        exact ⟨by simp; omega, h2⟩
/-- what becomes of one character, and of all -/
def tr1 (F T : List Nat) (r : Nat) : List Nat := match ix F r with
  | none => [r]
  | some i => if i < T.length then [lg T i] else []
def tr (F T L : List Nat) : List Nat := L.flatMap (tr1 F T)
theorem tr_snoc (F T L : List Nat) (r : Nat) : tr F T (L ++ [r]) = tr F T L ++ tr1 F T r := by simp [tr]
theorem tr1_length (F T : List Nat) (r : Nat) : (tr1 F T r).length ≤ 1 := by
  unfold tr1
  split
  · simp
  · split <;> simp
theorem tr_length (F T L : List Nat) : (tr F T L).length ≤ L.length := by
  induction L with
  | nil => simp [tr]
  | cons r L ih =>
    have : tr F T (r :: L) = tr1 F T r ++ tr F T L := by simp [tr]
    rw [this, List.length_append, List.length_cons]
    have := tr1_length F T r
    omega
theorem tr_scal (F T L : List Nat) (hT : ∀ r ∈ T, Rn.scal r) (hL : ∀ r ∈ L, Rn.scal r) : ∀ r ∈ tr F T L, Rn.scal r := by
  intro r hr
  obtain ⟨q, hq, hr⟩ := List.mem_flatMap.1 hr
  unfold tr1 at hr
  split at hr
  · simp at hr
    subst hr
    exact hL r hq
  · next i hi =>
    split at hr
    · next h =>
      simp at hr
      subst hr
      refine hT _ ?_
      simp [lg, h]
    · cases hr
/-- the map holds these characters' first places -/
structure PM (D : DataW Unit) (F : List Nat) : Prop where
  map : Maps.IsMap D
  has : ∀ r : Nat, Maps.has D (.int .i32 r) = (ix F r).isSome
  at_ : ∀ r i : Nat, ix F r = some i → D.atKey (.int .i32 r) (.lit (.int .i64 0)) = .lit (.int .i64 i)
theorem pm_nil : PM (.map []) [] := ⟨⟨[], rfl⟩, fun _ => rfl, fun _ _ h => by simp [ix] at h⟩
theorem PM.old {D : DataW Unit} {F : List Nat} (h : PM D F) {a i : Nat} (ha : ix F a = some i) : PM D (F ++ [a]) := by
  refine ⟨h.map, fun r => ?_, fun r j hj => ?_⟩
  · rw [h.has, ix_snoc]
    cases hx : ix F r with
    | some j => rfl
    | none =>
      have : a ≠ r := fun e => by rw [e, hx] at ha; cases ha
      simp [this]
  · rw [ix_snoc] at hj
    cases hx : ix F r with
    | some k =>
      rw [hx] at hj
      simp at hj
      subst hj
      exact h.at_ r k hx
    | none =>
      rw [hx] at hj
      have : a ≠ r := fun e => by rw [e, hx] at ha; cases ha
      simp [this] at hj
theorem PM.new {D : DataW Unit} {F : List Nat} (h : PM D F) {a : Nat} (ha : ix F a = none) : PM (D.put (.int .i32 a) (.lit (.int .i64 F.length))) (F ++ [a]) := by
  have hne : ∀ r : Nat, r ≠ a → (Lit.int .i32 (r : Int)) ≠ .int .i32 (a : Int) := by
    intro r hr e
    injection e with _ e
    exact hr (by omega)
  refine ⟨?_, fun r => ?_, fun r j hj => ?_⟩
  · obtain ⟨es, rfl⟩ := h.map
    exact ⟨_, rfl⟩
  · rw [ix_snoc]
    by_cases e : r = a
    · subst e
      rw [Maps.has_put_same (k := .int .i32 (r : Int)) h.map trivial, ha]
      simp
    · rw [Maps.has_put_other (hne r e), h.has]
      cases hx : ix F r with
      | some j => rfl
      | none =>
        have : a ≠ r := fun e2 => e e2.symm
        simp [this]
  · rw [ix_snoc] at hj
    by_cases e : r = a
    · subst e
      rw [ha] at hj
      simp at hj
      subst hj
      exact Maps.atKey_put_same (k := .int .i32 (r : Int)) h.map trivial _ _
    · rw [Maps.atKey_put_other (hne r e)]
      cases hx : ix F r with
      | some k =>
        rw [hx] at hj
        simp at hj
        subst hj
        exact h.at_ r k hx
      | none =>
        rw [hx] at hj
        have : a ≠ r := fun e2 => e e2.symm
        simp [this] at hj
end Wd

theorem runeKeyed : Maps.Keyed Tryd.prog 21 := Maps.int_keyed Tryd.underlying21
theorem runeWf (r : Nat) (h : r < 2097152) : (Lit.int .i32 (r : Int)).wf = true := by simp [Lit.wf, IntKind.min, IntKind.max, IntKind.signed, IntKind.bits]; omega
theorem runeKey (r : Nat) (h : r < 2097152) : keyOf Tryd.prog 21 (Value.int .i32 (r : Int)) = some (.int .i32 (r : Int)) := Maps.keyOf_int_mk Tryd.underlying21 (runeWf r h)
theorem intWf (r : Nat) (h : r ≤ 1099511627776) : (Lit.int .i64 (r : Int)).wf = true := by simp [Lit.wf, IntKind.min, IntKind.max, IntKind.signed, IntKind.bits]; omega
theorem zeroInt (w : World) : (zeroValue 3).run Tryd.prog w = .ok (.int .i64 0) w := Tryd.zeroValue3 w

set_option maxRecDepth 100000 in
set_option maxHeartbeats 4000000 in
theorem firstPlaces_any (f : Nat → Nat) (n : Nat) (w : World) (hf : ∀ j, f j < 256) (hn : n ≤ 1099511627776) :
    Calls Tryd.prog 55 #[.string (Rn.arr f n)] w fun e w' => e = .returned (.map (some w.heap.size)) ∧ (∃ D, w'.ownsMap Tryd.prog 21 (plainElem (H := Unit) Tryd.prog 3) w.heap.size n D ∧ Wd.PM D (Wd.R f n 0)) ∧ Below w.heap.size w w' := by
  have hsz := Rn.arr_size f n
  have hmk := run_makeMap (P := Tryd.prog) 68 w
  go_enter Tryd.func55, Tryd.ntmps55
  go_wp2_with fail
  obtain ⟨W0, hW0⟩ : ∃ W0, w.alloc (.map #[] 0) = W0 := ⟨_, rfl⟩
  have hs0 : W0.heap.size = w.heap.size + 1 := by
    subst hW0
    simp
  have hM0 : W0.ownsMap Tryd.prog 21 (plainElem (H := Unit) Tryd.prog 3) w.heap.size 0 (.map []) := by
    subst hW0
    exact World.ownsMap_made w _ _ _
  have hb0 : Below w.heap.size w W0 := by
    subst hW0
    exact (Below.refl _ _).alloc (Nat.le_refl _) _
  rw [hW0]
  clear hW0 hmk
  go_loopw [4] (fun b wr => ∃ (pos : Nat) (pre : List Nat) (D : DataW Unit), b = .int .i64 pre.length ∧ wr.heap[w.heap.size + 1]? = some (.stringIter (Rn.arr f n) pos) ∧ Hid (pre ++ Wd.R f n pos = Wd.R f n 0) ∧ pre.length ≤ pos ∧ wr.ownsMap Tryd.prog 21 (plainElem (H := Unit) Tryd.prog 3) w.heap.size pre.length D ∧ Wd.PM D pre ∧ Below w.heap.size w wr)
    (fun _ wr => n - wr.iterPos (w.heap.size + 1))
  case atStart =>
    refine ⟨0, [], .map [], rfl, ?_, rfl, Nat.le_refl _, hM0.alloc _, Wd.pm_nil, hb0.alloc (by omega) _⟩
    have := World.alloc_heap_new W0 (.stringIter (Rn.arr f n) 0)
    rwa [hs0] at this
  case round =>
    clear hM0 hb0
    obtain ⟨pos, pre, D, rfl, hit, hpre, hpl, hM, hPM, hB⟩ := hrel
    have hwr : w.heap.size + 1 < wr.heap.size := (Array.getElem?_eq_some_iff.1 hit).1
    by_cases hlt : pos < n
    · have hnx : ∀ ty, (Instr.next (.pointer (some ⟨w.heap.size + 1, 0, none⟩)) true ty).run Tryd.prog wr = _ := fun ty => Lib.run_next_any_at wr (w.heap.size + 1) (Rn.arr f n) pos ty hit (by rw [hsz]; exact hlt)
      rw [Rn.arr_decode f n pos hf hlt] at hnx
      obtain ⟨hd1, hd2, hd3⟩ := Rn.dec_pos (Rn.off f pos) (n - pos) (fun _ => hf _) (by omega)
      have hr2 := Rn.dec_lt (Rn.off f pos) (n - pos) (fun _ => hf _) (by omega)
      have hit2 := Lib.iterAt_heap wr (w.heap.size + 1) (Rn.arr f n) pos (pos + (Rn.dec (Rn.off f pos) (n - pos)).2) hit
      have hB2 := Lib.below_iterAt hB (by omega : w.heap.size ≤ w.heap.size + 1) (Rn.arr f n) (pos + (Rn.dec (Rn.off f pos) (n - pos)).2)
      have hM2 : (wr.iterAt (w.heap.size + 1) (Rn.arr f n) (pos + (Rn.dec (Rn.off f pos) (n - pos)).2)).ownsMap Tryd.prog 21 (plainElem (H := Unit) Tryd.prog 3) w.heap.size pre.length D := by
        obtain ⟨es, ck, h1, h2⟩ := hM
        exact ⟨es, ck, (Lib.iterAt_other wr _ _ _ _ (by omega)).trans h1, h2⟩
      have hp := hpre.out
      rw [Wd.R_step f n pos hf hlt] at hp
      have HP := hide' hp
      have hW2 : w.heap.size + 1 < (wr.iterAt (w.heap.size + 1) (Rn.arr f n) (pos + (Rn.dec (Rn.off f pos) (n - pos)).2)).heap.size := (Array.getElem?_eq_some_iff.1 hit2).1
      clear hpre hp hM hB
      generalize (Rn.dec (Rn.off f pos) (n - pos)).1 = r at *
      generalize (Rn.dec (Rn.off f pos) (n - pos)).2 = d at *
      generalize wr.iterAt (w.heap.size + 1) (Rn.arr f n) (pos + d) = W2 at *
      have HPP : Hid (pre ++ [r] ++ Wd.R f n (pos + d) = Wd.R f n 0) := by
        show _ = _
        rw [List.append_assoc]
        exact HP.out
      have hhas := hPM.has r
      have hple : pre.length ≤ 1099511627776 := by omega
      have Hx : Hid (pre.length + 1 = (pre ++ [r]).length) := by show _ = _; simp
      clear HP
      cases hx : Wd.ix pre r with
      | some i =>
        have hPM2 := hPM.old hx
        rw [hx] at hhas
        simp only [Option.isSome_some] at hhas
        clear hx hPM
        go_wp2_with (at_lookup; refine wpList_lookup_own_ok_int _ rfl _ _ 68 rfl 21 3 .i64 runeKeyed Tryd.underlying68 Tryd.underlying3 (zeroInt _) w.heap.size pre.length D rfl hM2 _ (.int .i32 (r : Int)) rfl (runeKey r hr2) ?_; rw [hhas])
        intro c _ _
        go_wp2_with fail
        go_roundw
        case rel => exact ⟨pos + d, pre ++ [r], D, by rw [← Hx.out]; go_num, hit2, HPP, by rw [← Hx.out]; omega, by rw [← Hx.out]; exact hM2.mono (Nat.le_succ _), hPM2, hB2⟩
        case measure => simp only [World.iterPos, hit2, hit]; omega
      | none =>
        have hPM2 := hPM.new hx
        rw [hx] at hhas
        simp only [Option.isSome_none] at hhas
        clear hx hPM
        go_wp2_with (at_lookup; refine wpList_lookup_own_ok_int _ rfl _ _ 68 rfl 21 3 .i64 runeKeyed Tryd.underlying68 Tryd.underlying3 (zeroInt _) w.heap.size pre.length D rfl hM2 _ (.int .i32 (r : Int)) rfl (runeKey r hr2) ?_; rw [hhas])
        intro c _ _
        go_wp2_with (at_mapUpdate; refine wpList_mapUpdate_own _ rfl _ _ _ 68 rfl 21 3 runeKeyed Tryd.underlying68 _ w.heap.size pre.length D rfl hM2 (by unfold maxLen; omega) _ _ (.int .i32 (r : Int)) rfl rfl (runeKey r hr2) (.lit (.int .i64 (pre.length : Int))) [] (plainElem_int Tryd.underlying3 (intWf _ hple)) ?_)
        intro w3 hM3 hgrow
        have hB3 : Below w.heap.size w w3 := hB2.grown hgrow (by omega) (fun j hj => by cases hj; exact Nat.le_refl _)
        have hit3 : w3.heap[w.heap.size + 1]? = some (.stringIter (Rn.arr f n) (pos + d)) := (hgrow.block _ hW2 (fun e => by have := Option.some.inj e; omega)).trans hit2
        clear hM2 hgrow hB2
        go_wp2_with fail
        go_roundw
        case rel => exact ⟨pos + d, pre ++ [r], _, by rw [← Hx.out]; go_num, hit3, HPP, by rw [← Hx.out]; omega, by rw [← Hx.out]; exact hM3, hPM2, hB3⟩
        case measure => simp only [World.iterPos, hit3, hit]; omega
    · have hnx : ∀ ty, (Instr.next (.pointer (some ⟨w.heap.size + 1, 0, none⟩)) true ty).run Tryd.prog wr = _ := fun ty => Lib.run_next_end_at wr (w.heap.size + 1) (Rn.arr f n) pos ty hit (by rw [hsz]; exact hlt)
      have hp := hpre.out
      rw [Wd.R_end f n pos hlt, List.append_nil] at hp
      have hl := Wd.R_length f n 0 hf
      have HX : Hid (∃ D, wr.ownsMap Tryd.prog 21 (plainElem (H := Unit) Tryd.prog 3) w.heap.size n D ∧ Wd.PM D (Wd.R f n 0)) := by
        rw [← hp] at hl ⊢
        exact ⟨D, hM.mono (by omega), hPM⟩
      clear hp hpre hM hPM hl
      go_wp2_with fail
      go_ret
      exact ⟨rfl, HX.out, hB⟩
end Go.Proofs.YtfbjkebinbemdaaDoor
