/-
  THE WALK over gimletlaw09.along: whatever iterator Along hands back, what it gives is collected.
-/
import Derived.Test.YtfkmeghddobgcaaDoorTrAxM
import Derived.Test.YtfkmeghddobgcaaDoorTrNil
import Derived.Test.YtfkmeghddobgcaaDoorTrVal
import Derived.RangeFuncBox
namespace Go.Proofs.YtfkmeghddobgcaaDoor
open Go.RowKit Go.Shelf Go.Lib
attribute [local go_sem] Oper.semAt_some
namespace Tr
/-- numbers as cells -/
def ic (l : List Int) : List Value := l.map (.int .i64)
theorem ic_length (l : List Int) : (ic l).length = l.length := by simp [ic]
theorem ic_one (l : List Int) : ∀ u ∈ ic l, u.oneCell' = true := by
  intro u hu
  obtain ⟨j, _, rfl⟩ := List.mem_map.1 hu
  rfl
theorem ic_app (l m : List Int) : ic (l ++ m) = ic l ++ ic m := by simp [ic]
theorem ic_get (l : List Int) (i : Nat) (x : Int) (h : l[i]? = some x) : (ic l)[i]? = some (.int .i64 x) := by simp [ic, h]
theorem intInfo : (Tryd.prog.info? 3).map (fun i => (i.zero, i.size, i.bytes)) = some (some (.int .i64 0), 1, 8) := by kernel_rfl
/-- what the loop keeps: N is the box of what is collected, M where the heap ended ahead of the loop -/
structure CI (N M : Nat) {a b : Int} (w W1 : World) (pre : List (Num a b)) (W : World) : Prop where
  below : Below N w W
  same : ∀ k, k < M → k ≠ N → W.heap[k]? = W1.heap[k]?
  box : ∃ v, Boxed W N 52 v ∧ W.ownsRow M 3 1 v pre.length (ic (vals pre)) ∧ True
  lt : N < M
  le : M ≤ W.heap.size
theorem CI.own (N M : Nat) {a b : Int} (w W1 : World) (B : Nat) (hB : M ≤ B) : OwnFrom B (CI N M (a := a) (b := b) w W1) := by
  intro pre W W' row h hg hr
  have h1 := h.lt
  have h2 := h.le
  refine ⟨?_, fun k hk hn => ?_, ?_, h.lt, Nat.le_trans h.le hg.size⟩
  · exact h.below.trans ⟨hg.os, hg.tape, hg.output, hg.size, fun k hk' => hg.block k (by omega) (fun e => by have := (hr k e.symm).1; omega)⟩
  · exact (hg.block k (by omega) (fun e => by have := (hr k e.symm).1; omega)).trans (h.same k hk hn)
  · exact holdsRow_own (β := List (Num a b)) M N 52 3 1 (fun s => s.length) (fun s => ic (vals s)) (fun _ _ => True) pre W W' row h.box hg (fun r e => (hr r e).2)
end Tr
set_option maxRecDepth 100000 in
set_option maxHeartbeats 2000000 in
theorem trCollects (pt : Value) (k ax : Int) (w W1 : World) (a b : Int) (gf : Nat) (lb : Array Value) (eg : ∀ args w, (callFunc gf args).run Tryd.prog w = .ok (.enter gf args) w)
    (CA : Calls Tryd.prog 25 #[pt, .int .i64 k, .int .i64 ax] (w.alloc (.cells #[.slice none 0 0] 52)) fun e w' => e = .returned (.func (.func gf) #[] lb) ∧ w' = W1)
    (hb1 : Below (w.heap.size + 1) (w.alloc (.cells #[.slice none 0 0] 52)) W1) (Kp : World → World → Prop) (S Sp : List (Tr.Num a b) → Prop) (N : Nat) (hN : N ≤ 1000)
    (hseq : SeqStopsK Fence.wide 5 Tryd.prog gf lb (Tr.encI (a := a) (b := b)) Kp S Sp N W1) (hKt : ∀ {A B C : World}, Kp A B → Kp B C → Kp A C)
    (hKb : ∀ (W : World) (l : Nat) (o o' : Obj), W1.heap.size ≤ l → W.heap[l]? = some o → o.isCells = false → o.isWalk = false → Kp W (W.putObj l o'))
    (hKk : ∀ W W' : World, (∀ k, k < W1.heap.size → k ≠ w.heap.size → W'.heap[k]? = W.heap[k]?) → Kp W W') :
    Calls Tryd.prog 23 #[pt, .int .i64 k, .int .i64 ax] w fun e w' => ∃ v ys, e = .returned v ∧ S ys ∧ w'.ownsRow w.heap.size 3 1 v ys.length (Tr.ic (Tr.vals ys)) ∧ Below w.heap.size w w' := by
  refine (callsIn_wide (n := 6)).1 ?_
  refine callsIn_of_wp_marks Tryd.func23 rfl trivial ?_ rfl
  simp only [Tryd.ntmps23, List.size_toArray, List.length_cons, List.length_nil, Nat.reduceAdd, Nat.reduceSub, Array.replicate_succ, Array.replicate_zero, List.push_toArray, List.append_toArray, List.nil_append, List.cons_append]
  have HA := hide' CA
  have hA1 : Below w.heap.size w (w.alloc (.cells #[.slice none 0 0] 52)) := (Below.refl _ _).alloc (Nat.le_refl _) _
  have hsz1 : w.heap.size + 1 ≤ W1.heap.size := by have := hb1.size; simpa using this
  have hI0 : Tr.CI w.heap.size W1.heap.size (a := a) (b := b) w W1 [] W1 := by
    refine ⟨hA1.trans (hb1.mono (Nat.le_succ _)), fun _ _ _ => rfl, ⟨.slice none 0 0, ?_, ⟨rfl, .inl ⟨rfl, rfl⟩⟩, trivial⟩, by omega, Nat.le_refl _⟩
    exact (hb1.block w.heap.size (Nat.lt_succ_self _)).trans (World.alloc_heap_new w _)
  obtain ⟨i0, hi, hz0, hz1, hz2⟩ := info_parts Tr.intInfo
  clear CA hA1 hb1
  gi_wp2_with fail
  refine ⟨trivial, ?_⟩
  refine (callsIn_wide.2 HA.out).mono ?_
  rintro e w' ⟨rfl, rfl⟩
  clear HA
  gi_wp2
  refine wpIn_rangeFunc_ownG rfl (by omega) (gf := gf) (lb := lb) rfl trivial eg
    hseq hKt hKb (Below.refl _ _) (fun _ => rfl)
    (Tr.CI w.heap.size w'.heap.size w w') (fun _ _ _ => False) (Tr.CI.own w.heap.size w'.heap.size w w' _ (Nat.le_refl _)) (fun _ _ _ _ _ h _ _ => h) hI0
    (fun x => { tmps := #[pt, .int .i64 k, .int .i64 ax, undef, undef, undef, .slice none 0 0, .pointer (some ⟨w.heap.size, 0, none⟩), .int .i64 x.1, pt, .int .i64 k, .int .i64 ax, .func (.func gf) #[] lb, .int .i64 x.1, undef, undef, undef, undef, undef, undef, undef, undef], defers := [] }) ?assign ?body ?done ?stop
  case assign =>
    intro l x W K hK
    simp only [Tr.encI]
    gi_wp2
    exact hK
  case body =>
    rintro l pre ⟨x, hx1, hx2⟩ W hI hlt
    dsimp only
    obtain ⟨v, hv, hrow, _⟩ := hI.box
    obtain ⟨p, cap, rfl, _, _⟩ := Tr.owns_sl hrow
    have cb := hv.cell
    have fb := hv.frozen
    have hle := hI.le
    have t1 : ¬ (1000 : Int) < (pre.length : Int) := by omega
    have hsn := Tr.vals_snoc pre ⟨x, hx1, hx2⟩
    have HI := hide' hI
    have HSN := hide' hsn
    clear hI hsn hI0 hseq
    gi_wp2_with (gi_at_builtin; refine wpListIn_append_own _ rfl _ _ 52 rfl w'.heap.size 3 i0 (.int .i64 0) 1 8 Tryd.underlying52 hi hz0 hz1 hz2 rfl (by decide) _ _ _ rfl (hrow.alloc _) ⟨W.heap.size, 0, none⟩ 1 1 [.int .i64 x] rfl rfl ?c1 ?c2 ?c3 ?c4 ?c5 ?_)
    case c2 => rfl
    case c3 => unfold maxLen; omega
    case c4 => omega
    case c5 => omega
    intro v' w3 hown' hg3 _
    obtain ⟨g', cap', rfl⟩ := ownsRow_succ hown'
    obtain ⟨hv3, hv4, _, hko, hbl⟩ := hv.appended (n₀ := w.heap.size) (by decide) (Tr.owns_base hrow (by omega)) (by omega) (Nat.le_refl _) (Tr.owns_base hown' (by omega)) hg3
    have hrow4 := hown'.kept (grownBy_setCell' w3 w.heap.size (.slice (some ⟨g', 0, none⟩) (pre.length + 1) cap')) (.inr (hv3.not_row (by decide) hown').symm)
    have cb3 := hv3.cell
    have fb3 := hv3.frozen
    have hsm : ∀ k, k < w'.heap.size → k ≠ w.heap.size → (w3.setCell ⟨w.heap.size, 0, none⟩ (.slice (some ⟨g', 0, none⟩) (pre.length + 1) cap')).heap[k]? = W.heap[k]? := fun k h1 h2 => by
      rw [Below.heap_setCell _ _ _ _ h2, hg3.block k (by simp; omega) (fun e => by have := (hrow.lt k e.symm).1; omega), Below.heap_alloc _ _ _ (by omega)]
    have HFIN : Hid (KeepsFrom w'.heap.size W (w3.setCell ⟨w.heap.size, 0, none⟩ (.slice (some ⟨g', 0, none⟩) (pre.length + 1) cap')) ∧ Kp W (w3.setCell ⟨w.heap.size, 0, none⟩ (.slice (some ⟨g', 0, none⟩) (pre.length + 1) cap')) ∧ Tr.CI w.heap.size w'.heap.size w w' (pre ++ [⟨x, hx1, hx2⟩]) (w3.setCell ⟨w.heap.size, 0, none⟩ (.slice (some ⟨g', 0, none⟩) (pre.length + 1) cap'))) := by
      refine ⟨hko.from _, hKk _ _ hsm, HI.out.below.trans hbl, fun k h1 h2 => (hsm k h1 h2).trans (HI.out.same k h1 h2), ⟨_, hv4, ?_, trivial⟩, HI.out.lt, Nat.le_trans HI.out.le hko.size⟩
      rw [HSN.out, Tr.ic_app, List.length_append]
      exact hrow4
    clear hrow4 hsm hv3 hv4 hko hbl hown' hg3 hv hrow HI HSN
    gi_wp2
    exact HFIN.out
  case done =>
    rintro D' ys W hD hS hI hK
    obtain ⟨v, hv, hrow, _⟩ := hI.box
    have cb := hv.cell
    have hlt := hI.lt
    obtain ⟨p, cap, rfl, _, _⟩ := Tr.owns_sl hrow
    gi_wp2
    refine ⟨by simp, .inl ⟨_, _, rfl, run_takeDeferred hK, ?_⟩⟩
    exact ⟨_, results_tmp rfl _ _ _, _, ys, rfl, hS, ownsRow_putObj (Tr.owns_base hrow (by omega)) _ hK rfl, hI.below.trans (belowK_b (w := w) (Nat.le_refl _) W D' _ _ (by omega) hK rfl rfl)⟩
  case stop =>
    rintro D c pre W _ _ h _
    exact h.elim
end Go.Proofs.YtfkmeghddobgcaaDoor
