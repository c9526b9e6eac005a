/-
  WALKS over runes.MendParts and runes.Mend: what is written into the Builder, character by character.
-/
import Derived.Test.YtacmenmneilamaaDoorRnAll
import Derived.Lib.SmallJoins
namespace Go.Proofs.YtacmenmneilamaaDoor
open Go.RowKit Go.Shelf
attribute [local go_sem] Oper.semAt_some

namespace Rn
/-- one character more: the bytes that are written, and the place behind the last piece of wrong bytes -/
def mpStep (f : Nat → Nat) (n : Nat) (st : List UInt8 × Nat) (x : Chr n) : List UInt8 × Nat :=
  if x.1.1 < st.2 then st else (st.1 ++ Lib.encodeRune x.1.2, if x.1.2 = 65533 then x.1.1 + pw (off f x.1.1) (n - x.1.1) else st.2)
def mp (f : Nat → Nat) (n : Nat) (xs : List (Chr n)) : List UInt8 × Nat := xs.foldl (mpStep f n) ([], 0)
theorem mp_snoc (f : Nat → Nat) (n : Nat) (xs : List (Chr n)) (x : Chr n) : mp f n (xs ++ [x]) = mpStep f n (mp f n xs) x := by
  simp [mp, List.foldl_append]
theorem pw_le (f : Nat → Nat) (n : Nat) (hn : 0 < n) : pw f n ≤ n ∧ 0 < pw f n := by
  have a1 := fk_le f n
  unfold pw
  split
  · next h =>
    simp only [whole, decide_eq_true_eq] at h
    omega
  · omega
end Rn

theorem kept_cells {W W' : World} {row : Option Nat} (hg : W.grownBy W' row) (hr : ∀ r, row = some r → ∃ o : Obj, W.heap[r]? = some o ∧ o.isCells = false) {k : Nat} {o : Obj} (hk : W.heap[k]? = some o) (ho : o.isCells = true) : W'.heap[k]? = some o := by
  have hlt : k < W.heap.size := (Array.getElem?_eq_some_iff.1 hk).1
  rw [hg.block k hlt (fun e => by
    obtain ⟨o', h1, h2⟩ := hr k e.symm
    rw [hk] at h1
    cases h1
    rw [ho] at h2
    cases h2)]
  exact hk
theorem builder_kept {T e : TypeId} {B b : Nat} {bs : List Value} {W W' : World} (h : Lib.IsBuilderF T e B b bs W) (hk : ∀ (k : Nat) (o : Obj), W.heap[k]? = some o → o.isCells = true → W'.heap[k]? = some o) : Lib.IsBuilderF T e B b bs W' := by
  have go : ∀ {p : Value}, Lib.BuilderAtF T e B b p bs W → Lib.BuilderAtF T e B b p bs W' := by
    rintro p ⟨hB, v, hb, hown, hne⟩
    refine ⟨hB, v, hk _ _ hb rfl, ⟨hown.1, ?_⟩, hne⟩
    rcases hown.2 with hn | ⟨g, cap, cur, fz, hv, hbg, hg, rest⟩
    · exact .inl hn
    · exact .inr ⟨g, cap, cur, fz, hv, hbg, hk _ _ hg rfl, rest⟩
  exact h.elim (fun x => .inl (go x)) (fun x => .inr (go x))

theorem builder_set {T e : TypeId} {B b : Nat} {bs : List Value} {W : World} (h : Lib.IsBuilderF T e B b bs W) {k i : Nat} {c : Array Value} {t : TypeId} {fz : Nat × Nat} (hk : W.heap[k]? = some (.cells c t fz)) (ht : t ≠ e) (hb' : k ≠ b) (u : Value) :
    Lib.IsBuilderF T e B b bs (W.setCell ⟨k, i, none⟩ u) := by
  have go : ∀ {p : Value}, Lib.BuilderAtF T e B b p bs W → Lib.BuilderAtF T e B b p bs (W.setCell ⟨k, i, none⟩ u) := by
    rintro p ⟨hB, v, hb, hown, hne⟩
    refine ⟨hB, v, (Below.heap_setCell W ⟨k, i, none⟩ u b (Ne.symm hb')).trans hb, ⟨hown.1, ?_⟩, hne⟩
    rcases hown.2 with hn | ⟨g, cap, cur, fz, hv, hbg, hg, rest⟩
    · exact .inl hn
    · refine .inr ⟨g, cap, cur, fz, hv, hbg, (Below.heap_setCell W ⟨k, i, none⟩ u g ?_).trans hg, rest⟩
      rintro rfl
      rw [hk] at hg
      cases hg
      exact ht rfl
  exact h.elim (fun x => .inl (go x)) (fun x => .inr (go x))

/-- between two rounds of MendParts -/
structure MI (f : Nat → Nat) (n N : Nat) (w : World) (pre : List (Rn.Chr n)) (W : World) : Prop where
  below : Below N w W
  str : W.heap[N]? = some (.cells #[.string (Rn.arr f n)] 9 (0, 0))
  out : Lib.IsBuilderF 82 5 (N + 1) (N + 1) (Lib.byteCells (Rn.mp f n pre).1) W
  men : W.heap[N + 1 + 1]? = some (.cells #[.int .i64 (Rn.mp f n pre).2] 3 (0, 0))
  len : (Rn.mp f n pre).1.length ≤ 4 * pre.length
  cnt : pre.length ≤ n
  mle : (Rn.mp f n pre).2 ≤ n
theorem MI.own (f : Nat → Nat) (n N : Nat) (w : World) (B : Nat) (hB : N ≤ B) : OwnFrom B (MI f n N w) := by
  intro pre W W' row h hg hr
  have hk : ∀ (k : Nat) (o : Obj), W.heap[k]? = some o → o.isCells = true → W'.heap[k]? = some o := fun k o h1 h2 => kept_cells hg (fun r e => (hr r e).2) h1 h2
  refine ⟨?_, hk _ _ h.str rfl, builder_kept h.out hk, hk _ _ h.men rfl, h.len, h.cnt, h.mle⟩
  exact h.below.trans ⟨hg.os, hg.tape, hg.output, hg.size, fun k hk' => hg.block k (by
    have := (Array.getElem?_eq_some_iff.1 h.str).1
    omega) (fun e => by have := (hr k e.symm).1; omega)⟩
theorem keepsOthers_of {e : TypeId} {b : Nat} {B : Nat} {W W' : World} (hk : Lib.OthersKept e (some b) W W') (hb : Below B W W') {c : Array Value} {t : TypeId} {fz : Nat × Nat} (hc : W.heap[b]? = some (.cells c t fz)) : KeepsOthers W W' :=
  ⟨hb.size, fun k o ho hn => hk k o ho (fun e1 => by cases e1; rw [hc] at ho; cases ho; cases hn) (fun c' fz' e1 => by rw [e1] at hn; cases hn)⟩
theorem keepsOthers_below {W W' : World} (hb : Below W.heap.size W W') : KeepsOthers W W' :=
  ⟨hb.size, fun k _ ho _ => (hb.block k (Array.getElem?_eq_some_iff.1 ho).1).trans ho⟩
theorem keepsWalks_of {W W' : World} (h : KeepsOthers W W') : KeepsWalks W W' :=
  ⟨h.size, fun k o ho hw => h.same k o ho (Obj.not_cells_of_walk hw)⟩
theorem isB_block {T e : TypeId} {B b : Nat} {bs : List Value} {W : World} (h : Lib.IsBuilderF T e B b bs W) : ∃ c, W.heap[b]? = some (.cells c T (0, 0)) := by
  rcases h with ⟨_, v, hb, _⟩ | ⟨_, v, hb, _⟩
  · exact ⟨_, hb⟩
  · exact ⟨_, hb⟩

set_option maxRecDepth 100000 in
set_option maxHeartbeats 2000000 in
theorem mendParts_any (f : Nat → Nat) (n : Nat) (w : World) (hf : ∀ j, f j < 256) (hT : Lib.Utf8Tabs 0 1 w) (hbig : n ≤ 35184372088832) :
    Calls Tryd.prog 21 #[.string (Rn.arr f n)] w fun e w' => e = .returned (.string ⟨(Rn.mp f n (Rn.chs f n hf)).1.toArray⟩) ∧ Below w.heap.size w w' := by
  refine (callsIn_wide (n := 6)).1 ?_
  refine callsIn_of_wp_marks Tryd.func21 rfl trivial ?_ rfl
  simp only [Tryd.ntmps21, List.size_toArray, List.length_cons, List.length_nil, Nat.reduceAdd, Nat.reduceSub, Array.replicate_succ, Array.replicate_zero, List.push_toArray, List.append_toArray, List.nil_append, List.cons_append]
  gi_wp2_with fail
  refine ⟨trivial, ?_⟩
  refine (all_in Fence.wide _ trivial rfl _ _).mono ?_
  rintro e w' ⟨rfl, rfl⟩
  gi_wp2
  obtain ⟨W0, hW0⟩ : ∃ W0, ((((w.alloc (.cells #[.string (Rn.arr f n)] 9)).alloc (.cells #[.pointer none, .slice none 0 0] 82)).alloc (.cells #[.int .i64 0] 3)).alloc (.cells #[.string (Rn.arr f n)] 9)) = W0 := ⟨_, rfl⟩
  have hI0 : MI f n w.heap.size w [] W0 := by
    subst hW0
    refine ⟨((((Below.refl w.heap.size w).alloc (Nat.le_refl _) _).alloc (by simp) _).alloc (by simp; omega) _).alloc (by simp; omega) _, ?_, ?_, ?_, by simp [Rn.mp], by simp, by simp [Rn.mp]⟩
    · rw [Below.heap_alloc _ _ _ (by simp; omega), Below.heap_alloc _ _ _ (by simp; omega), Below.heap_alloc _ _ _ (by simp)]
      exact World.alloc_heap_new w _
    · have hb := Lib.IsBuilderF.of (Lib.fresh_isBuilder 82 5 (w.alloc (.cells #[.string (Rn.arr f n)] 9)))
      rw [World.size_alloc] at hb
      exact (hb.alloc _).alloc _
    · rw [Below.heap_alloc _ _ _ (by simp)]
      have := World.alloc_heap_new ((w.alloc (.cells #[.string (Rn.arr f n)] 9)).alloc (.cells #[.pointer none, .slice none 0 0] 82)) (.cells #[.int .i64 0] 3)
      rw [World.size_alloc, World.size_alloc] at this
      exact this
  have hbox : W0.cell? ⟨w.heap.size + 1 + 1 + 1, 0, none⟩ = some (.string (Rn.arr f n)) := by
    subst hW0
    have := World.alloc_heap_new (((w.alloc (.cells #[.string (Rn.arr f n)] 9)).alloc (.cells #[.pointer none, .slice none 0 0] 82)).alloc (.cells #[.int .i64 0] 3)) (.cells #[.string (Rn.arr f n)] 9)
    rw [World.size_alloc, World.size_alloc, World.size_alloc] at this
    rw [Lib.cell_of_heap this]
    rfl
  have hsz0 : W0.heap.size = w.heap.size + 4 := by
    subst hW0
    simp
  rw [hW0]
  clear hW0
  refine wpIn_rangeFunc_ownG rfl (by omega) (gf := 50) (lb := #[.pointer (some ⟨w.heap.size + 1 + 1 + 1, 0, none⟩)]) rfl trivial (enters_of Tryd.func50 (by kernel_rfl) rfl)
    (all_stops Fence.wide 5 trivial rfl (by omega) (w.heap.size + 1 + 1 + 1) n f hf W0 hbox) walksK_t walksK_b (Below.refl _ _) (fun _ => rfl)
    (MI f n w.heap.size w) (fun _ _ _ => False) (MI.own f n w.heap.size w _ (by omega)) (fun _ _ _ _ _ h _ _ => h) hI0
    (fun x => { tmps := #[.string (Rn.arr f n), .pointer (some ⟨w.heap.size, 0, none⟩), .string ⟨#[]⟩, .pointer (some ⟨w.heap.size + 1, 0, none⟩), .pointer (some ⟨w.heap.size + 1 + 1, 0, none⟩), .int .i64 x.1.1, .int .i32 x.1.2, .string (Rn.arr f n), .func (.func 50) #[] #[.pointer (some ⟨w.heap.size + 1 + 1 + 1, 0, none⟩)], .int .i64 x.1.1, .int .i32 x.1.2, undef, undef, undef, undef, undef, undef, undef, undef, undef, undef, undef, undef, undef, undef], defers := [] }) ?assign ?body ?done ?stop
  case assign =>
    intro l x W K hK
    simp only [Rn.encC]
    gi_wp2
    exact hK
  case body =>
    rintro l pre ⟨⟨a, r⟩, ha, hr⟩ W hI hlt
    dsimp only at ha hr
    obtain ⟨hB, hS, hO, hM, hL, hC, hE⟩ := hI
    have hsn := Rn.mp_snoc f n pre ⟨(a, r), ha, hr⟩
    simp only [Rn.mpStep] at hsn
    obtain ⟨cb, hcb⟩ := isB_block hO
    have cS : W.cell? ⟨w.heap.size, 0, none⟩ = some (.string (Rn.arr f n)) := by rw [Lib.cell_of_heap hS]; rfl
    have cM : W.cell? ⟨w.heap.size + 1 + 1, 0, none⟩ = some (.int .i64 (Rn.mp f n pre).2) := by rw [Lib.cell_of_heap hM]; rfl
    generalize hout : (Rn.mp f n pre).1 = out at *
    generalize hmen : (Rn.mp f n pre).2 = men at *
    have HS := hide' hsn
    have HOut := hide' hout
    have HMen := hide' hmen
    clear hsn hout hmen
    by_cases h1 : a < men
    · have h1' : (a : Int) < men := by omega
      gi_wp2
      refine ⟨(KeepsOthers.refl _).from _, KeepsWalks.refl _, hB, hS, ?_, ?_, ?_, ?_, ?_⟩
      · rw [HS.out, if_pos h1, HOut.out]; exact hO
      · rw [HS.out, if_pos h1, HMen.out]; exact hM
      · rw [HS.out, if_pos h1, HOut.out]; simp; omega
      · simp; omega
      · rw [HS.out, if_pos h1, HMen.out]; exact hE
    · have h1' : ¬ (a : Int) < men := by omega
      have hNW : w.heap.size + 1 + 1 < W.heap.size := (Array.getElem?_eq_some_iff.1 hM).1
      gi_wp2_with fail
      refine ⟨trivial, ?_⟩
      refine (CallsIn.inRound l (callsIn_wide.2 (writeRune_k (w.heap.size + 1) (w.heap.size + 1) _ (r : Int) (by omega) (by omega) W hO (by rw [Lib.byteCells_length]; omega) (by omega)))).mono ?_
      rintro e W1 ⟨rfl, h2, b1, k1⟩
      have hO1 : Lib.IsBuilderF 82 5 (w.heap.size + 1) (w.heap.size + 1) (Lib.byteCells (out ++ Lib.encodeRune r)) W1 := by rw [Lib.byteCells_append, Lib.byteCells_encodeRune]; exact .inr h2
      have hKO := keepsOthers_of k1 b1 hcb
      have hS1 : W1.heap[w.heap.size]? = _ := (b1.block _ (by omega)).trans hS
      have hM1 : W1.heap[w.heap.size + 1 + 1]? = _ := k1 _ _ hM (fun e => by have := Option.some.inj e; omega) (fun c fz e => by cases e)
      have hB1 : Below w.heap.size w W1 := hB.trans (b1.mono (by omega))
      have hl4 := Lib.runeCells_le (r : Int)
      rw [Lib.runeCells_length] at hl4
      clear hO h2 b1 k1 cS cM hS hM hB hcb
      by_cases h2 : r = 65533
      · have cS : W1.cell? ⟨w.heap.size, 0, none⟩ = some (.string (Rn.arr f n)) := by rw [Lib.cell_of_heap hS1]; rfl
        have cM : W1.cell? ⟨w.heap.size + 1 + 1, 0, none⟩ = some (.int .i64 men) := by rw [Lib.cell_of_heap hM1]; rfl
        have fM : W1.frozen? ⟨w.heap.size + 1 + 1, 0, none⟩ = false := Lib.frozen_of_heap hM1 0
        have hsz := Rn.arr_size f n
        have hex : (Rn.arr f n).extract a n = Rn.arr (Rn.off f a) (n - a) := Rn.arr_extract f n a n (by omega) (Nat.le_refl _)
        have hpw := Rn.pw_le (Rn.off f a) (n - a) (by omega)
        have hT1 := tabs_below hT hB1 (Nat.le_refl _)
        subst h2
        gi_wp2_with fail
        refine ⟨trivial, ?_⟩
        refine (CallsIn.inRound l (callsIn_wide.2 (pieceWidth_any (Rn.off f a) (n - a) W1 hT1 (fun _ => hf _) (by omega) (by omega)))).mono ?_
        rintro e W2 ⟨rfl, hb2⟩
        have hN1 : w.heap.size + 1 + 1 < W1.heap.size := (Array.getElem?_eq_some_iff.1 hM1).1
        have hM2 := (hb2.block _ hN1).trans hM1
        have hS2 := (hb2.block _ (show w.heap.size < W1.heap.size by omega)).trans hS1
        have cM2 : W2.cell? ⟨w.heap.size + 1 + 1, 0, none⟩ = some (.int .i64 men) := by rw [Lib.cell_of_heap hM2]; rfl
        have fM2 : W2.frozen? ⟨w.heap.size + 1 + 1, 0, none⟩ = false := Lib.frozen_of_heap hM2 0
        have hO2 := builder_kept hO1 (fun k o h3 _ => (hb2.block k (Array.getElem?_eq_some_iff.1 h3).1).trans h3)
        have hKO2 := hKO.trans (keepsOthers_below hb2)
        have hB2 := hB1.trans (hb2.mono (by omega))
        generalize hv : a + Rn.pw (Rn.off f a) (n - a) = v at *
        have hv2 : (a : Int) + Rn.pw (Rn.off f a) (n - a) = v := by omega
        have hv3 : v ≤ n := by omega
        clear hv cS cM fM hM1 hS1 hB1 hO1 hT1 hKO
        gi_wp2
        have hKO3 := hKO2.trans (KeepsOthers.setCell W2 ⟨w.heap.size + 1 + 1, 0, none⟩ (.int .i64 v))
        refine ⟨hKO3.from _, keepsWalks_of hKO3, hB2.setCell (p := ⟨w.heap.size + 1 + 1, 0, none⟩) (by show w.heap.size ≤ w.heap.size + 1 + 1; omega) _, (Below.heap_setCell W2 _ _ _ (by show w.heap.size ≠ w.heap.size + 1 + 1; omega)).trans hS2, ?_, ?_, ?_, ?_, ?_⟩
        · rw [HS.out, if_neg h1]; exact builder_set hO2 hM2 (by decide) (by omega) _
        · rw [HS.out, if_neg h1, if_pos trivial]; exact Go.Joins.block_setCell (i := 0) hM2 _
        · have hl5 := Lib.runeCells_le 65533
          rw [Lib.runeCells_length] at hl5
          rw [HS.out, if_neg h1]; simp; omega
        · simp; omega
        · rw [HS.out, if_neg h1, if_pos trivial]; exact hv3
      · have h2' : ((r : Int) == 65533) = false := by simp; omega
        gi_wp2
        refine ⟨hKO.from _, keepsWalks_of hKO, hB1, hS1, ?_, ?_, ?_, ?_, ?_⟩
        · rw [HS.out, if_neg h1]; exact hO1
        · rw [HS.out, if_neg h1, if_neg h2]; exact hM1
        · rw [HS.out, if_neg h1]; simp; omega
        · simp; omega
        · rw [HS.out, if_neg h1, if_neg h2]; exact hE
  case done =>
    rintro D ys W hD rfl hI hK
    gi_wp2_with fail
    refine ⟨trivial, ?_⟩
    refine (callsIn_wide.2 (Tryd.Builder_String_any_k (w.heap.size + 1) (w.heap.size + 1) _ W hI.out (by have := (Array.getElem?_eq_some_iff.1 hI.men).1; omega))).mono ?_
    rintro e W1 ⟨rfl, _, b1, k1⟩
    have hK1 : W1.heap[D]? = some (.deferred (some [])) := k1 D _ hK (fun e => by cases e; omega) (fun c fz e => by cases e)
    gi_wp2
    refine ⟨by simp, .inl ⟨_, _, rfl, run_takeDeferred hK1, ?_⟩⟩
    exact ⟨_, results_tmp rfl _ _ _, rfl, (hI.below.trans (b1.mono (by omega))).trans (belowK_b (w := w) (Nat.le_refl _) W1 D _ _ (by omega) hK1 rfl rfl)⟩
  case stop =>
    rintro D c pre W _ _ h _
    exact h.elim
end Go.Proofs.YtacmenmneilamaaDoor
