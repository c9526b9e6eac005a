/-
  THE WALK over runes.Mend: each character's bytes, one behind the other.
-/
import Derived.Test.YtcggkbgbfgkaiaaDoorRnMend
namespace Go.Proofs.YtcggkbgbfgkaiaaDoor
open Go.RowKit Go.Shelf
attribute [local go_sem] Oper.semAt_some

namespace Rn
/-- the bytes of these characters, one behind the other -/
def md {n : Nat} (xs : List (Chr n)) : List UInt8 := xs.flatMap fun x => Lib.encodeRune x.1.2
theorem md_snoc {n : Nat} (xs : List (Chr n)) (x : Chr n) : md (xs ++ [x]) = md xs ++ Lib.encodeRune x.1.2 := by simp [md]
end Rn

/-- between two rounds of Mend -/
structure MD (n N : Nat) (w : World) (pre : List (Rn.Chr n)) (W : World) : Prop where
  below : Below N w W
  out : Lib.IsBuilderF 51 5 N N (Lib.byteCells (Rn.md pre)) W
  len : (Rn.md pre).length ≤ 4 * pre.length
  cnt : pre.length ≤ n
  big : N < W.heap.size
theorem MD.own (n N : Nat) (w : World) (B : Nat) (hB : N ≤ B) : OwnFrom B (MD n N w) := by
  intro pre W W' row h hg hr
  have hk : ∀ (k : Nat) (o : Obj), W.heap[k]? = some o → o.isCells = true → W'.heap[k]? = some o := fun k o h1 h2 => kept_cells hg (fun r e => (hr r e).2) h1 h2
  refine ⟨?_, builder_kept h.out hk, h.len, h.cnt, Nat.lt_of_lt_of_le h.big hg.size⟩
  exact h.below.trans ⟨hg.os, hg.tape, hg.output, hg.size, fun k hk' => hg.block k (by have := h.big; omega) (fun e => by have := (hr k e.symm).1; omega)⟩

set_option maxRecDepth 100000 in
set_option maxHeartbeats 2000000 in
theorem mend_any (f : Nat → Nat) (n : Nat) (w : World) (hf : ∀ j, f j < 256) (hbig : n ≤ 35184372088832) :
    Calls Tryd.prog 9 #[.string (Rn.arr f n)] w fun e w' => e = .returned (.string ⟨(Rn.md (Rn.chs f n hf)).toArray⟩) ∧ Below w.heap.size w w' ∧ (Rn.md (Rn.chs f n hf)).length ≤ 4 * n := by
  refine (callsIn_wide (n := 6)).1 ?_
  refine callsIn_of_wp_marks Tryd.func9 rfl trivial ?_ rfl
  simp only [Tryd.ntmps9, List.size_toArray, List.length_cons, List.length_nil, Nat.reduceAdd, Nat.reduceSub, Array.replicate_succ, Array.replicate_zero, List.push_toArray, List.append_toArray, List.nil_append, List.cons_append]
  gi_wp2_with fail
  refine ⟨trivial, ?_⟩
  refine (all_in Fence.wide _ trivial rfl _ _).mono ?_
  rintro e w' ⟨rfl, rfl⟩
  gi_wp2
  obtain ⟨W0, hW0⟩ : ∃ W0, ((w.alloc (.cells #[.pointer none, .slice none 0 0] 51)).alloc (.cells #[.string (Rn.arr f n)] 9)) = W0 := ⟨_, rfl⟩
  have hsz0 : W0.heap.size = w.heap.size + 2 := by
    subst hW0
    simp
  have hI0 : MD n w.heap.size w [] W0 := by
    refine ⟨?_, ?_, by simp [Rn.md], by simp, by omega⟩
    · subst hW0
      exact (((Below.refl w.heap.size w).alloc (Nat.le_refl _) _).alloc (by simp) _)
    · subst hW0
      have hb := Lib.IsBuilderF.of (Lib.fresh_isBuilder 51 5 w)
      exact hb.alloc _
  have hbox : W0.cell? ⟨w.heap.size + 1, 0, none⟩ = some (.string (Rn.arr f n)) := by
    subst hW0
    have := World.alloc_heap_new (w.alloc (.cells #[.pointer none, .slice none 0 0] 51)) (.cells #[.string (Rn.arr f n)] 9)
    rw [World.size_alloc] at this
    rw [Lib.cell_of_heap this]
    rfl
  rw [hW0]
  clear hW0
  refine wpIn_rangeFunc_ownG rfl (by omega) (gf := 17) (lb := #[.pointer (some ⟨w.heap.size + 1, 0, none⟩)]) rfl trivial (enters_of Tryd.func17 (by kernel_rfl) rfl)
    (all_stops Fence.wide 5 trivial rfl (by omega) (w.heap.size + 1) n f hf W0 hbox) walksK_t walksK_b (Below.refl _ _) (fun _ => rfl)
    (MD n w.heap.size w) (fun _ _ _ => False) (MD.own n w.heap.size w _ (by omega)) (fun _ _ _ _ _ h _ _ => h) hI0
    (fun x => { tmps := #[.string (Rn.arr f n), undef, .string ⟨#[]⟩, .pointer (some ⟨w.heap.size, 0, none⟩), undef, .int .i32 x.1.2, .string (Rn.arr f n), .func (.func 17) #[] #[.pointer (some ⟨w.heap.size + 1, 0, none⟩)], .int .i64 x.1.1, .int .i32 x.1.2, undef, undef, undef], defers := [] }) ?assign ?body ?done ?stop
  case assign =>
    intro l x W K hK
    simp only [Rn.encC]
    gi_wp2
    exact hK
  case body =>
    rintro l pre ⟨⟨a, r⟩, ha, hr⟩ W hI hlt
    dsimp only at ha hr
    obtain ⟨hB, hO, hL, hC, hE⟩ := hI
    have hsn := Rn.md_snoc pre ⟨(a, r), ha, hr⟩
    obtain ⟨cb, hcb⟩ := isB_block hO
    generalize hout : Rn.md pre = out at *
    have HS := hide' hsn
    have HOut := hide' hout
    clear hsn hout
    gi_wp2_with fail
    refine ⟨trivial, ?_⟩
    refine (CallsIn.inRound l (callsIn_wide.2 (writeRune_k w.heap.size w.heap.size _ (r : Int) (by omega) (by omega) W hO (by rw [Lib.byteCells_length]; omega) (by omega)))).mono ?_
    rintro e W1 ⟨rfl, h2, b1, k1⟩
    have hO1 : Lib.IsBuilderF 51 5 w.heap.size w.heap.size (Lib.byteCells (out ++ Lib.encodeRune r)) W1 := by rw [Lib.byteCells_append, Lib.byteCells_encodeRune]; exact .inr h2
    have hKO := keepsOthers_of k1 b1 hcb
    have hl4 := Lib.runeCells_le (r : Int)
    rw [Lib.runeCells_length] at hl4
    gi_wp2
    refine ⟨hKO.from _, keepsWalks_of hKO, hB.trans b1, ?_, ?_, ?_, Nat.lt_of_lt_of_le hE b1.size⟩
    · rw [HS.out]; exact hO1
    · rw [HS.out]; simp; omega
    · simp; omega
  case done =>
    rintro D ys W hD rfl hI hK
    gi_wp2_with fail
    refine ⟨trivial, ?_⟩
    refine (callsIn_wide.2 (Tryd.Builder_String_any_k w.heap.size w.heap.size _ W hI.out (by have := hI.big; omega))).mono ?_
    rintro e W1 ⟨rfl, _, b1, k1⟩
    have hK1 : W1.heap[D]? = some (.deferred (some [])) := k1 D _ hK (fun e => by cases e; omega) (fun c fz e => by cases e)
    gi_wp2
    refine ⟨by simp, .inl ⟨_, _, rfl, run_takeDeferred hK1, ?_⟩⟩
    exact ⟨_, results_tmp rfl _ _ _, rfl, (hI.below.trans b1).trans (belowK_b (w := w) (Nat.le_refl _) W1 D _ _ (by omega) hK1 rfl rfl), by have := hI.len; have := hI.cnt; omega⟩
  case stop =>
    rintro D c pre W _ _ h _
    exact h.elim
end Go.Proofs.YtcggkbgbfgkaiaaDoor
