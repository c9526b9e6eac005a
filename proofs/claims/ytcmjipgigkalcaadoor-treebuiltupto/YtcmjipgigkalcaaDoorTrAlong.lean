import Derived.Test.YtcmjipgigkalcaaDoorTrRound
import Derived.Test.YtcmjipgigkalcaaDoorTrNode
import Derived.Test.YtcmjipgigkalcaaDoorTrVal
import Derived.RangeFuncBox
import Derived.Maps.AppendAt
import Derived.Laws.AppendOwnNone
import Derived.Deep.QuietTactic
import Derived.BigQuiet
/-
  The mathematics of the axes: numbers one behind the other, the children of a node.
-/
namespace Go.Proofs.YtcmjipgigkalcaaDoor
open Go.RowKit
namespace Tr
theorem numL_app {a b c : Int} (h1 : a ≤ b) (h2 : b ≤ c) : numL a c = numL a b ++ numL b c := by
  obtain ⟨k, hk⟩ : ∃ k : Nat, b = a + k := ⟨(b - a).toNat, by omega⟩
  subst hk
  clear h1
  induction k generalizing a with
  | zero => rw [show a + ((0 : Nat) : Int) = a by omega, numL_nil (a := a) (b := a) (by omega)]; rfl
  | succ k ih =>
    have e : a + ((k + 1 : Nat) : Int) = a + 1 + (k : Nat) := by omega
    rw [e] at h2 ⊢
    rw [numL_step (show a < c by omega), numL_step (show a < a + 1 + (k : Nat) by omega), List.cons_append, ← ih h2]
theorem numL_get (a b : Int) (i : Nat) (h : i < (b - a).toNat) : (numL a b)[i]? = some (a + i) := by
  unfold numL
  rw [List.getElem?_map, List.getElem?_range h]
  rfl
theorem numL_mem {a b x : Int} : x ∈ numL a b ↔ a ≤ x ∧ x < b := by
  unfold numL
  rw [List.mem_map]
  constructor
  · rintro ⟨k, h1, rfl⟩
    have := List.mem_range.1 h1
    omega
  · rintro ⟨h1, h2⟩
    exact ⟨(x - a).toNat, List.mem_range.2 (by omega), by omega⟩
/-- the children from x on: each is found behind all that is in the one ahead of it -/
def chF (E : Nat → Ev Value) (n nd : Nat) (a b : Int) : Nat → Int → List (Num a b)
  | 0, _ => []
  | f + 1, x => if h : a ≤ x ∧ x < b then ⟨x, h⟩ :: chF E n nd a b f (bh E n nd x) else []
def chS (E : Nat → Ev Value) (n nd : Nat) (k : Int) : List (Num (k + 1) (bh E n nd k)) := chF E n nd (k + 1) (bh E n nd k) (bh E n nd k - (k + 1)).toNat (k + 1)
theorem bh_up {E : Nat → Ev Value} {n nd : Nat} (h : Shape E (grun E n) nd n) {x : Int} (h0 : -1 ≤ x) (h1 : x < nd) : x < bh E n nd x ∧ bh E n nd x ≤ nd := by
  unfold bh
  split
  · omega
  · obtain ⟨b, z, a1, _, _, _, a5, a6, _⟩ := h.beh x.toNat (by omega)
    omega
theorem bh_in {E : Nat → Ev Value} {n nd : Nat} (h : Shape E (grun E n) nd n) {k x : Int} (h0 : -1 ≤ k) (hk : k < nd) (h1 : k < x) (h2 : x < bh E n nd k) : bh E n nd x ≤ bh E n nd k := by
  have hk2 := (bh_up h h0 hk).2
  by_cases c : k < 0
  · have := (bh_up h (show -1 ≤ x by omega) (by omega)).2
    unfold bh at *
    rw [if_pos c] at *
    exact this
  · have e : bh E n nd k = ((grun E n).nth k.toNat).beh := by unfold bh; rw [if_neg c]
    have e2 : bh E n nd x = ((grun E n).nth x.toNat).beh := by unfold bh; rw [if_neg (by omega)]
    rw [e] at h2 ⊢
    rw [e2]
    exact (h.within (p := k.toNat) (m := x.toNat) (by omega) (by omega) (by omega)).1
theorem chF_fuel {E : Nat → Ev Value} {n nd : Nat} (h : Shape E (grun E n) nd n) {a b : Int} (ha : 0 ≤ a) (hb : b ≤ nd) : ∀ (f f' : Nat) (x : Int), a ≤ x → (b - x).toNat ≤ f → (b - x).toNat ≤ f' → chF E n nd a b f x = chF E n nd a b f' x
  | 0, 0, _, _, _, _ => rfl
  | 0, f' + 1, x, hx, h1, _ => by
    unfold chF
    rw [dif_neg (by omega)]
  | f + 1, 0, x, hx, _, h1 => by
    unfold chF
    rw [dif_neg (by omega)]
  | f + 1, f' + 1, x, hx, h1, h2 => by
    unfold chF
    by_cases c : a ≤ x ∧ x < b
    · rw [dif_pos c, dif_pos c]
      have := (bh_up h (show -1 ≤ x by omega) (by omega)).1
      rw [chF_fuel h ha hb f f' _ (by omega) (by omega) (by omega)]
    · rw [dif_neg c, dif_neg c]
theorem chF_step {E : Nat → Ev Value} {n nd : Nat} (h : Shape E (grun E n) nd n) {a b : Int} (ha : 0 ≤ a) (hb : b ≤ nd) {x : Int} (h1 : a ≤ x) (h2 : x < b) : chF E n nd a b (b - x).toNat x = ⟨x, h1, h2⟩ :: chF E n nd a b (b - bh E n nd x).toNat (bh E n nd x) := by
  have hu := (bh_up h (show -1 ≤ x by omega) (by omega)).1
  rw [chF_fuel h ha hb (b - x).toNat ((b - x).toNat - 1 + 1) x h1 (Nat.le_refl _) (by omega)]
  show (if h : a ≤ x ∧ x < b then _ else _) = _
  rw [dif_pos ⟨h1, h2⟩, chF_fuel h ha hb ((b - x).toNat - 1) (b - bh E n nd x).toNat _ (by omega) (by omega) (Nat.le_refl _)]
theorem chF_end {E : Nat → Ev Value} {n nd : Nat} {a b x : Int} (h : ¬ x < b) : chF E n nd a b (b - x).toNat x = [] := by
  rw [show (b - x).toNat = 0 by omega]
  rfl
/-- the children's numbers -/
def chL (E : Nat → Ev Value) (n nd : Nat) (k : Int) : List Int := (chS E n nd k).map (·.1)
/-- the children, each with what is in it, are all that is in the node -/
theorem chF_flat {E : Nat → Ev Value} {n nd : Nat} (h : Shape E (grun E n) nd n) {k : Int} (h0 : -1 ≤ k) (hk : k < nd) : ∀ (f : Nat) (x : Int), k + 1 ≤ x → x ≤ bh E n nd k → (bh E n nd k - x).toNat = f →
    ((chF E n nd (k + 1) (bh E n nd k) (bh E n nd k - x).toNat x).map (·.1)).flatMap (fun c => c :: numL (c + 1) (bh E n nd c)) = numL x (bh E n nd k) := by
  intro f
  induction f using Nat.strongRecOn with
  | _ f ih =>
    intro x h1 h2 hf
    have hb2 := (bh_up h h0 hk).2
    by_cases c : x < bh E n nd k
    · have hu := (bh_up h (show -1 ≤ x by omega) (by omega)).1
      have hi := bh_in h h0 hk (x := x) (by omega) c
      rw [chF_step h (by omega) hb2 h1 c, List.map_cons, List.flatMap_cons, ih (bh E n nd k - bh E n nd x).toNat (by omega) (bh E n nd x) (by omega) hi rfl]
      dsimp only
      rw [← numL_step hu, ← numL_app (by omega) hi]
    · rw [chF_end c, numL_nil c]
      rfl
theorem chL_flat {E : Nat → Ev Value} {n nd : Nat} (h : Shape E (grun E n) nd n) {k : Int} (h0 : -1 ≤ k) (hk : k < nd) : (chL E n nd k).flatMap (fun c => c :: numL (c + 1) (bh E n nd c)) = numL (k + 1) (bh E n nd k) :=
  chF_flat h h0 hk _ (k + 1) (Int.le_refl _) (by have := (bh_up h h0 hk).1; omega) rfl
/-- what a child's parent is -/
theorem chF_par {E : Nat → Ev Value} {n nd : Nat} (h : Shape E (grun E n) nd n) {k : Int} (h0 : -1 ≤ k) (hk : k < nd) : ∀ (f : Nat) (x : Int), k + 1 ≤ x → (x < bh E n nd k → ((grun E n).nth x.toNat).par = k) → (bh E n nd k - x).toNat = f →
    ∀ c ∈ (chF E n nd (k + 1) (bh E n nd k) (bh E n nd k - x).toNat x).map (·.1), ((grun E n).nth c.toNat).par = k := by
  intro f
  induction f using Nat.strongRecOn with
  | _ f ih =>
    intro x h1 h2 hf
    have hb2 := (bh_up h h0 hk).2
    by_cases c : x < bh E n nd k
    · have hu := bh_up h (show -1 ≤ x by omega) (by omega)
      rw [chF_step h (by omega) hb2 h1 c, List.map_cons]
      intro y hy
      rcases List.mem_cons.1 hy with rfl | hy
      · exact h2 c
      · refine ih (bh E n nd k - bh E n nd x).toNat (by omega) (bh E n nd x) (by omega) (fun hlt => ?_) rfl y hy
        by_cases c0 : k < 0
        · obtain rfl : k = -1 := by omega
          have hp := h2 c
          rcases h.par x.toNat (by omega) with ⟨e, _⟩ | ⟨p, _, e, _⟩
          · have er := h.root.1
            unfold bh at hlt
            rw [if_neg (by omega), if_pos (by omega), e, er] at hlt
            omega
          · rw [e] at hp
            omega
        · have ek : bh E n nd k = ((grun E n).nth k.toNat).beh := by unfold bh; rw [if_neg c0]
          have ex : bh E n nd x = ((grun E n).nth x.toNat).beh := by unfold bh; rw [if_neg (by omega)]
          obtain ⟨j, e1, e2, e3⟩ := h.next (p := k.toNat) (m := x.toNat) (by omega) (by omega) (by rw [h2 c]; omega) (by rw [← ek, ← ex]; exact hlt)
          rw [ex, e1, Int.toNat_natCast, e3]
          omega
    · rw [chF_end c]
      intro y hy
      cases hy
theorem chL_par {E : Nat → Ev Value} {n nd : Nat} (h : Shape E (grun E n) nd n) {k : Int} (h0 : -1 ≤ k) (hk : k < nd) : ∀ c ∈ chL E n nd k, ((grun E n).nth c.toNat).par = k := by
  refine chF_par h h0 hk _ (k + 1) (Int.le_refl _) (fun hlt => ?_) rfl
  by_cases c0 : k < 0
  · obtain rfl : k = -1 := by omega
    exact h.root.2
  · have ek : bh E n nd k = ((grun E n).nth k.toNat).beh := by unfold bh; rw [if_neg c0]
    rw [ek] at hlt
    have := h.child (p := k.toNat) (by omega) (by omega)
    rw [show (k + 1).toNat = k.toNat + 1 by omega, this]
    omega
theorem chL_mem {E : Nat → Ev Value} {n nd : Nat} {k c : Int} (hc : c ∈ chL E n nd k) : k + 1 ≤ c ∧ c < bh E n nd k := by
  unfold chL at hc
  rw [List.mem_map] at hc
  obtain ⟨⟨x, h1, h2⟩, _, rfl⟩ := hc
  exact ⟨h1, h2⟩
theorem chF_len (E : Nat → Ev Value) (n nd : Nat) (a b : Int) : ∀ (f : Nat) (x : Int), (chF E n nd a b f x).length ≤ f
  | 0, _ => Nat.le_refl _
  | f + 1, x => by
    unfold chF
    split
    · have := chF_len E n nd a b f (bh E n nd x)
      simp
      omega
    · simp
theorem chL_len {E : Nat → Ev Value} {n nd : Nat} {k : Int} : (chL E n nd k).length ≤ (bh E n nd k - (k + 1)).toNat := by
  unfold chL
  rw [List.length_map]
  exact chF_len _ _ _ _ _ _ _
end Tr
end Go.Proofs.YtcmjipgigkalcaaDoor
/-
  WALKS over Along and gimletlaw09.along at no tree.
-/
namespace Go.Proofs.YtcmjipgigkalcaaDoor
open Go.RowKit Go.Shelf Go.Lib
attribute [local go_sem] Oper.semAt_some
namespace Tr
structure NI (N : Nat) {a b : Int} (w : World) (pre : List (Num a b)) (W : World) : Prop where
  below : Below N w W
  box : W.heap[N]? = some (.cells #[.slice none 0 0] 52 (0, 0))
  big : N < W.heap.size
theorem NI.own (N : Nat) {a b : Int} (w : World) (B : Nat) (hB : N ≤ B) : OwnFrom B (NI N (a := a) (b := b) w) := by
  intro pre W W' row h hg hr
  have hk : ∀ (k : Nat) (o : Obj), W.heap[k]? = some o → o.isCells = true → W'.heap[k]? = some o := fun k o h1 h2 => kept_cells hg (fun r e => (hr r e).2) h1 h2
  refine ⟨?_, hk _ _ h.box rfl, Nat.lt_of_lt_of_le h.big hg.size⟩
  exact h.below.trans ⟨hg.os, hg.tape, hg.output, hg.size, fun k hk' => hg.block k (by have := h.big; omega) (fun e => by have := (hr k e.symm).1; omega)⟩
end Tr
set_option maxHeartbeats 1000000 in
theorem nilAlong (k ax : Int) (W : World) :
    Calls Tryd.prog 31 #[.pointer none, .int .i64 k, .int .i64 ax] W fun e w' => e = .returned (.func (.func 55) #[] #[.pointer (some ⟨W.heap.size, 0, none⟩), .pointer (some ⟨W.heap.size + 1, 0, none⟩)]) ∧ w' = (W.alloc (.cells #[.int .i64 0] 3)).alloc (.cells #[.int .i64 0] 3) := by
  have cL := nilLacks k (-1) W
  have cN := trNumbers 0 0 W
  go_enter Tryd.func31, Tryd.ntmps31
  go_wp2_with fail
  refine cL.mono ?_
  rintro e w1 ⟨rfl, rfl⟩
  clear cL
  go_wp2_with fail
  refine cN.mono ?_
  rintro e w1 ⟨rfl, rfl⟩
  go_wp2
  go_ret
  exact ⟨rfl, rfl⟩
set_option maxRecDepth 100000 in
set_option maxHeartbeats 2000000 in
theorem nilAlongList (k ax : Int) (w : World) :
    Calls Tryd.prog 20 #[.pointer none, .int .i64 k, .int .i64 ax] w fun e w' => e = .returned (.slice none 0 0) ∧ Below w.heap.size w w' := by
  refine (callsIn_wide (n := 6)).1 ?_
  refine callsIn_of_wp_marks Tryd.func20 rfl trivial ?_ rfl
  simp only [Tryd.ntmps20, List.size_toArray, List.length_cons, List.length_nil, Nat.reduceAdd, Nat.reduceSub, Array.replicate_succ, Array.replicate_zero, List.push_toArray, List.append_toArray, List.nil_append, List.cons_append]
  have hA1 : Below w.heap.size w (w.alloc (.cells #[.slice none 0 0] 52)) := (Below.refl _ _).alloc (Nat.le_refl _) _
  have CA := hide' (nilAlong k ax (w.alloc (.cells #[.slice none 0 0] 52)))
  gi_wp2_with fail
  refine ⟨trivial, ?_⟩
  refine (callsIn_wide.2 CA.out).mono ?_
  rintro e w' ⟨rfl, rfl⟩
  clear CA
  gi_wp2
  obtain ⟨W0, hW0⟩ : ∃ W0, (((w.alloc (.cells #[.slice none 0 0] 52)).alloc (.cells #[.int .i64 0] 3)).alloc (.cells #[.int .i64 0] 3)) = W0 := ⟨_, rfl⟩
  have hsz0 : W0.heap.size = w.heap.size + 3 := by
    subst hW0
    simp
  have hbf : W0.cell? ⟨w.heap.size + 1, 0, none⟩ = some (.int .i64 0) := by
    subst hW0
    have h1 := World.alloc_heap_new (w.alloc (.cells #[.slice none 0 0] 52)) (.cells #[.int .i64 0] 3)
    rw [World.size_alloc] at h1
    rw [Lib.cell_of_heap ((Below.heap_alloc _ _ _ (by simp)).trans h1)]
    rfl
  have hbe : W0.heap[w.heap.size + 1 + 1]? = some (.cells #[.int .i64 0] 3 (0, 0)) := by
    subst hW0
    have h1 := World.alloc_heap_new ((w.alloc (.cells #[.slice none 0 0] 52)).alloc (.cells #[.int .i64 0] 3)) (.cells #[.int .i64 0] 3)
    rw [World.size_alloc, World.size_alloc] at h1
    exact h1
  have hbe2 : W0.cell? ⟨w.heap.size + 1 + 1, 0, none⟩ = some (.int .i64 0) := by rw [Lib.cell_of_heap hbe]; rfl
  have hI0 : Tr.NI w.heap.size (a := 0) (b := 0) w [] W0 := by
    subst hW0
    refine ⟨(hA1.alloc (by simp) _).alloc (by simp; omega) _, ?_, by simp; omega⟩
    rw [Below.heap_alloc _ _ _ (by simp; omega), Below.heap_alloc _ _ _ (by simp)]
    exact World.alloc_heap_new w _
  rw [hW0]
  clear hW0 hA1
  refine wpIn_rangeFunc_ownG rfl (by omega) (gf := 55) (lb := #[.pointer (some ⟨w.heap.size + 1, 0, none⟩), .pointer (some ⟨w.heap.size + 1 + 1, 0, none⟩)]) rfl trivial (enters_of Tryd.func55 (by kernel_rfl) rfl)
    (trNum_stops Fence.wide 5 trivial rfl (by omega) (w.heap.size + 1) (w.heap.size + 1 + 1) 0 0 (by omega) (by omega) W0 hbf hbe2) Tr.keep1_t (Tr.keep1_b (by omega)) (Below.refl _ _) (fun _ => rfl)
    (Tr.NI w.heap.size w) (fun _ _ _ => False) (Tr.NI.own w.heap.size w _ (by omega)) (fun _ _ _ _ _ h _ _ => h) hI0
    (fun x => { tmps := #[.pointer none, .int .i64 k, .int .i64 ax, undef, undef, undef, .slice none 0 0, .pointer (some ⟨w.heap.size, 0, none⟩), .int .i64 x.1, .pointer none, .int .i64 k, .int .i64 ax, .func (.func 55) #[] #[.pointer (some ⟨w.heap.size + 1, 0, none⟩), .pointer (some ⟨w.heap.size + 1 + 1, 0, none⟩)], .int .i64 x.1, undef, undef, undef, undef, undef, undef, undef, undef], defers := [] }) ?assign ?body ?done ?stop
  case assign =>
    intro l x W K hK
    simp only [Tr.encI]
    gi_wp2
    exact hK
  case body =>
    rintro l pre ⟨x, hx1, hx2⟩ W hI hlt
    exact absurd hx2 (by omega)
  case done =>
    rintro D' ys W hD rfl hI hK
    have cb : W.cell? ⟨w.heap.size, 0, none⟩ = some (.slice none 0 0) := by rw [Lib.cell_of_heap hI.box]; rfl
    gi_wp2
    refine ⟨by simp, .inl ⟨_, _, rfl, run_takeDeferred hK, ?_⟩⟩
    exact ⟨_, results_tmp rfl _ _ _, rfl, hI.below.trans (belowK_b (w := w) (Nat.le_refl _) W D' _ _ (by omega) hK rfl rfl)⟩
  case stop =>
    rintro D c pre W _ _ h _
    exact h.elim
end Go.Proofs.YtcmjipgigkalcaaDoor
/-
  THE WALK over gimletlaw09.along: whatever iterator Along hands back, what it gives is collected.
-/
namespace Go.Proofs.YtcmjipgigkalcaaDoor
open Go.RowKit Go.Shelf Go.Lib
attribute [local go_sem] Oper.semAt_some
namespace Tr
/-- numbers as cells -/
def ic (l : List Int) : List Value := l.map (.int .i64)
theorem ic_length (l : List Int) : (ic l).length = l.length := by simp [ic]
theorem ic_one (l : List Int) : ∀ u ∈ ic l, u.oneCell' = true := by
  intro u hu
  obtain ⟨j, _, rfl⟩ := List.mem_map.1 hu
  rfl
theorem ic_app (l m : List Int) : ic (l ++ m) = ic l ++ ic m := by simp [ic]
theorem ic_get (l : List Int) (i : Nat) (x : Int) (h : l[i]? = some x) : (ic l)[i]? = some (.int .i64 x) := by simp [ic, h]
theorem intInfo : (Tryd.prog.info? 3).map (fun i => (i.zero, i.size, i.bytes)) = some (some (.int .i64 0), 1, 8) := by kernel_rfl
/-- what the loop keeps: N is the box of what is collected, M where the heap ended ahead of the loop -/
structure CI (N M : Nat) {a b : Int} (w W1 : World) (pre : List (Num a b)) (W : World) : Prop where
  below : Below N w W
  same : ∀ k, k < M → k ≠ N → W.heap[k]? = W1.heap[k]?
  box : ∃ v, Boxed W N 52 v ∧ W.ownsRow M 3 1 v pre.length (ic (vals pre)) ∧ True
  lt : N < M
  le : M ≤ W.heap.size
theorem CI.own (N M : Nat) {a b : Int} (w W1 : World) (B : Nat) (hB : M ≤ B) : OwnFrom B (CI N M (a := a) (b := b) w W1) := by
  intro pre W W' row h hg hr
  have h1 := h.lt
  have h2 := h.le
  refine ⟨?_, fun k hk hn => ?_, ?_, h.lt, Nat.le_trans h.le hg.size⟩
  · exact h.below.trans ⟨hg.os, hg.tape, hg.output, hg.size, fun k hk' => hg.block k (by omega) (fun e => by have := (hr k e.symm).1; omega)⟩
  · exact (hg.block k (by omega) (fun e => by have := (hr k e.symm).1; omega)).trans (h.same k hk hn)
  · exact holdsRow_own (β := List (Num a b)) M N 52 3 1 (fun s => s.length) (fun s => ic (vals s)) (fun _ _ => True) pre W W' row h.box hg (fun r e => (hr r e).2)
end Tr
set_option maxRecDepth 100000 in
set_option maxHeartbeats 2000000 in
theorem trCollects (pt : Value) (k ax : Int) (w W1 : World) (a b : Int) (gf : Nat) (lb : Array Value) (eg : ∀ args w, (callFunc gf args).run Tryd.prog w = .ok (.enter gf args) w)
    (CA : Calls Tryd.prog 31 #[pt, .int .i64 k, .int .i64 ax] (w.alloc (.cells #[.slice none 0 0] 52)) fun e w' => e = .returned (.func (.func gf) #[] lb) ∧ w' = W1)
    (hb1 : Below (w.heap.size + 1) (w.alloc (.cells #[.slice none 0 0] 52)) W1) (Kp : World → World → Prop) (S Sp : List (Tr.Num a b) → Prop) (N : Nat) (hN : N ≤ 1000)
    (hseq : SeqStopsK Fence.wide 5 Tryd.prog gf lb (Tr.encI (a := a) (b := b)) Kp S Sp N W1) (hKt : ∀ {A B C : World}, Kp A B → Kp B C → Kp A C)
    (hKb : ∀ (W : World) (l : Nat) (o o' : Obj), W1.heap.size ≤ l → W.heap[l]? = some o → o.isCells = false → o.isWalk = false → Kp W (W.putObj l o'))
    (hKk : ∀ W W' : World, (∀ k, k < W1.heap.size → k ≠ w.heap.size → W'.heap[k]? = W.heap[k]?) → Kp W W') :
    Calls Tryd.prog 20 #[pt, .int .i64 k, .int .i64 ax] w fun e w' => ∃ v ys, e = .returned v ∧ S ys ∧ w'.ownsRow w.heap.size 3 1 v ys.length (Tr.ic (Tr.vals ys)) ∧ Below w.heap.size w w' := by
  refine (callsIn_wide (n := 6)).1 ?_
  refine callsIn_of_wp_marks Tryd.func20 rfl trivial ?_ rfl
  simp only [Tryd.ntmps20, List.size_toArray, List.length_cons, List.length_nil, Nat.reduceAdd, Nat.reduceSub, Array.replicate_succ, Array.replicate_zero, List.push_toArray, List.append_toArray, List.nil_append, List.cons_append]
  have HA := hide' CA
  have hA1 : Below w.heap.size w (w.alloc (.cells #[.slice none 0 0] 52)) := (Below.refl _ _).alloc (Nat.le_refl _) _
  have hsz1 : w.heap.size + 1 ≤ W1.heap.size := by have := hb1.size; simpa using this
  have hI0 : Tr.CI w.heap.size W1.heap.size (a := a) (b := b) w W1 [] W1 := by
    refine ⟨hA1.trans (hb1.mono (Nat.le_succ _)), fun _ _ _ => rfl, ⟨.slice none 0 0, ?_, ⟨rfl, .inl ⟨rfl, rfl⟩⟩, trivial⟩, by omega, Nat.le_refl _⟩
    exact (hb1.block w.heap.size (Nat.lt_succ_self _)).trans (World.alloc_heap_new w _)
  obtain ⟨i0, hi, hz0, hz1, hz2⟩ := info_parts Tr.intInfo
  clear CA hA1 hb1
  gi_wp2_with fail
  refine ⟨trivial, ?_⟩
  refine (callsIn_wide.2 HA.out).mono ?_
  rintro e w' ⟨rfl, rfl⟩
  clear HA
  gi_wp2
  refine wpIn_rangeFunc_ownG rfl (by omega) (gf := gf) (lb := lb) rfl trivial eg
    hseq hKt hKb (Below.refl _ _) (fun _ => rfl)
    (Tr.CI w.heap.size w'.heap.size w w') (fun _ _ _ => False) (Tr.CI.own w.heap.size w'.heap.size w w' _ (Nat.le_refl _)) (fun _ _ _ _ _ h _ _ => h) hI0
    (fun x => { tmps := #[pt, .int .i64 k, .int .i64 ax, undef, undef, undef, .slice none 0 0, .pointer (some ⟨w.heap.size, 0, none⟩), .int .i64 x.1, pt, .int .i64 k, .int .i64 ax, .func (.func gf) #[] lb, .int .i64 x.1, undef, undef, undef, undef, undef, undef, undef, undef], defers := [] }) ?assign ?body ?done ?stop
  case assign =>
    intro l x W K hK
    simp only [Tr.encI]
    gi_wp2
    exact hK
  case body =>
    rintro l pre ⟨x, hx1, hx2⟩ W hI hlt
    dsimp only
    obtain ⟨v, hv, hrow, _⟩ := hI.box
    obtain ⟨p, cap, rfl, _, _⟩ := Tr.owns_sl hrow
    have cb := hv.cell
    have fb := hv.frozen
    have hle := hI.le
    have t1 : ¬ (1000 : Int) < (pre.length : Int) := by omega
    have hsn := Tr.vals_snoc pre ⟨x, hx1, hx2⟩
    have HI := hide' hI
    have HSN := hide' hsn
    clear hI hsn hI0 hseq
    gi_wp2_with (gi_at_builtin; refine wpListIn_append_own _ rfl _ _ 52 rfl w'.heap.size 3 i0 (.int .i64 0) 1 8 Tryd.underlying52 hi hz0 hz1 hz2 rfl (by decide) _ _ _ rfl (hrow.alloc _) ⟨W.heap.size, 0, none⟩ 1 1 [.int .i64 x] rfl rfl ?c1 ?c2 ?c3 ?c4 ?c5 ?_)
    case c2 => rfl
    case c3 => unfold maxLen; omega
    case c4 => omega
    case c5 => omega
    intro v' w3 hown' hg3 _
    obtain ⟨g', cap', rfl⟩ := ownsRow_succ hown'
    obtain ⟨hv3, hv4, _, hko, hbl⟩ := hv.appended (n₀ := w.heap.size) (by decide) (Tr.owns_base hrow (by omega)) (by omega) (Nat.le_refl _) (Tr.owns_base hown' (by omega)) hg3
    have hrow4 := hown'.kept (grownBy_setCell' w3 w.heap.size (.slice (some ⟨g', 0, none⟩) (pre.length + 1) cap')) (.inr (hv3.not_row (by decide) hown').symm)
    have cb3 := hv3.cell
    have fb3 := hv3.frozen
    have hsm : ∀ k, k < w'.heap.size → k ≠ w.heap.size → (w3.setCell ⟨w.heap.size, 0, none⟩ (.slice (some ⟨g', 0, none⟩) (pre.length + 1) cap')).heap[k]? = W.heap[k]? := fun k h1 h2 => by
      rw [Below.heap_setCell _ _ _ _ h2, hg3.block k (by simp; omega) (fun e => by have := (hrow.lt k e.symm).1; omega), Below.heap_alloc _ _ _ (by omega)]
    have HFIN : Hid (KeepsFrom w'.heap.size W (w3.setCell ⟨w.heap.size, 0, none⟩ (.slice (some ⟨g', 0, none⟩) (pre.length + 1) cap')) ∧ Kp W (w3.setCell ⟨w.heap.size, 0, none⟩ (.slice (some ⟨g', 0, none⟩) (pre.length + 1) cap')) ∧ Tr.CI w.heap.size w'.heap.size w w' (pre ++ [⟨x, hx1, hx2⟩]) (w3.setCell ⟨w.heap.size, 0, none⟩ (.slice (some ⟨g', 0, none⟩) (pre.length + 1) cap'))) := by
      refine ⟨hko.from _, hKk _ _ hsm, HI.out.below.trans hbl, fun k h1 h2 => (hsm k h1 h2).trans (HI.out.same k h1 h2), ⟨_, hv4, ?_, trivial⟩, HI.out.lt, Nat.le_trans HI.out.le hko.size⟩
      rw [HSN.out, Tr.ic_app, List.length_append]
      exact hrow4
    clear hrow4 hsm hv3 hv4 hko hbl hown' hg3 hv hrow HI HSN
    gi_wp2
    exact HFIN.out
  case done =>
    rintro D' ys W hD hS hI hK
    obtain ⟨v, hv, hrow, _⟩ := hI.box
    have cb := hv.cell
    have hlt := hI.lt
    obtain ⟨p, cap, rfl, _, _⟩ := Tr.owns_sl hrow
    gi_wp2
    refine ⟨by simp, .inl ⟨_, _, rfl, run_takeDeferred hK, ?_⟩⟩
    exact ⟨_, results_tmp rfl _ _ _, _, ys, rfl, hS, ownsRow_putObj (Tr.owns_base hrow (by omega)) _ hK rfl, hI.below.trans (belowK_b (w := w) (Nat.le_refl _) W D' _ _ (by omega) hK rfl rfl)⟩
  case stop =>
    rintro D c pre W _ _ h _
    exact h.elim
end Go.Proofs.YtcmjipgigkalcaaDoor
/-
  Rows of numbers: append of one to another; THE WALK over gimletlaw09.ints at two rows that say the same.
-/
namespace Go.Proofs.YtcmjipgigkalcaaDoor
open Go.RowKit Go.Shelf Go.Lib
namespace Tr
/-- a row of numbers of one's own -/
def IO (W : World) (B : Nat) (v : Value) (l : List Int) : Prop := W.ownsRow B 3 1 v l.length (ic l)
/-- a row of numbers, to be read -/
def IRow (W : World) (v : Value) (n : Nat) (l : List Int) : Prop := ∃ p cap, v = .slice p n cap ∧ n ≤ cap ∧ cap ≤ 9223372036854775807 ∧ l.length = n ∧ (0 < n → ∃ b o, p = some ⟨b, o, none⟩ ∧ ∀ i x, l[i]? = some x → W.cell? ⟨b, o + i, none⟩ = some (.int .i64 x))
theorem IO.row {W : World} {B : Nat} {v : Value} {l : List Int} (h : IO W B v l) : IRow W v l.length l := by
  obtain ⟨p, cap, rfl, h1, h2, h3, h4⟩ := owns_sl h
  refine ⟨p, cap, rfl, h1, h2, rfl, fun h0 => ?_⟩
  obtain ⟨g, rfl⟩ := h3 h0
  refine ⟨g, 0, rfl, fun i x hx => ?_⟩
  have := h.cells (g := g) rfl i _ (ic_get l i x hx)
  rw [Go.WideShapes.add_plain] at this
  exact this
theorem IO.below {W W' : World} {B : Nat} {v : Value} {l : List Int} (h : IO W B v l) (hb : Below W.heap.size W W') : IO W' B v l := owns_block h (fun g _ hl => hb.block g hl)
theorem IRow.below {W W' : World} {v : Value} {n : Nat} {l : List Int} (h : IRow W v n l) (hb : Below W.heap.size W W') : IRow W' v n l := by
  obtain ⟨p, cap, rfl, h1, h2, h3, h4⟩ := h
  refine ⟨p, cap, rfl, h1, h2, h3, fun h0 => ?_⟩
  obtain ⟨b, o, rfl, hc⟩ := h4 h0
  exact ⟨b, o, rfl, fun i x hx => (hb.cell (p := ⟨b, o + i, none⟩) (block_lt_of_cell (hc i x hx))).trans (hc i x hx)⟩
/-- append of a row of numbers to one of one's own, where the guard says yes -/
theorem append_ints {w : World} {ops : Array Oper} {rest : List Oper} {o : Oper} {a : Act} {Q : Exit → Act → World → Prop} (hw : Region.wanted o (yielded ops a.tmps) = true) (s x : Operand)
    (ho : o.op = .call { callee := .builtin .append, args := #[s, x], argTypes := #[52, 52] }) (base base2 : Nat) (v u : Value) (l m : List Int) (hs : a.eval s = v) (hown : IO w base v l) (hx : a.eval x = u) (hu : IO w base2 u m) (hb : l.length + m.length ≤ 1000000) (hbase : base ≤ w.heap.size)
    (h : ∀ v' w', IO w' base v' (l ++ m) → w.grownBy w' v.ownBlock → wpList Tryd.prog ops Q rest (a.put o.dst v') w') : wpList Tryd.prog ops Q (o :: rest) a w := by
  obtain ⟨i0, hi, hz0, hz1, hz2⟩ := info_parts intInfo
  refine wpList_step fun K hK => ?_
  rw [if_pos hw]
  have hR : ∃ v' w', (Builtin.append_ #[52, 52] o.type #[v, u]).run Tryd.prog w = .ok v' w' ∧ IO w' base v' (l ++ m) ∧ w.grownBy w' v.ownBlock := by
    rcases hu.2 with ⟨rfl, e⟩ | ⟨g, cap, cur, rfl, _⟩
    · have hn : m = [] := List.eq_nil_of_length_eq_zero e
      subst hn
      rw [List.append_nil]
      exact ⟨v, w, run_append_owned_none w base 52 o.type 3 i0 1 Tryd.underlying52 hi v _ _ hown, hown, ⟨rfl, rfl, rfl, Nat.le_refl _, fun _ _ _ => rfl⟩⟩
    · obtain ⟨v', w', hr, h2, h3, _⟩ := run_append_own (P := Tryd.prog) w base 52 o.type 3 i0 (.int .i64 0) 1 8 Tryd.underlying52 hi hz0 hz1 hz2 rfl (by decide) v _ _ hown ⟨g, 0, none⟩ m.length cap (ic m) (by rw [ic_length]; omega) (hu.cells (g := g) rfl) (ic_one m) (by unfold maxLen; omega) (by omega) hbase
      refine ⟨v', w', hr, ?_, h3⟩
      unfold IO
      rw [List.length_append, ic_app]
      exact h2
  obtain ⟨v', w', hr, h2, h3⟩ := hR
  unfold Oper.wp execOp
  simp only [ho, resolve, invoke, builtin, Sem.run_bind, Sem.run_pure, Result.andThen_ok, List.map_toArray, List.map_cons, List.map_nil, hs, hx, hr]
  exact hK _ _ (h v' w' h2 h3)
end Tr
set_option maxHeartbeats 1000000 in
theorem trInts (W : World) (va vb : Value) (n : Nat) (l : List Int) (ha : Tr.IRow W va n l) (hb : Tr.IRow W vb n l) (hn : n ≤ 1000000) :
    Calls Tryd.prog 19 #[va, vb] W fun e w' => e = .returned (.bool true) ∧ Below W.heap.size W w' := by
  obtain ⟨p, cap, rfl, ha1, ha2, hl, hac⟩ := ha
  obtain ⟨p', cap', rfl, hb1, hb2, -, hbc⟩ := hb
  have HA := hide' hac
  have HB := hide' hbc
  have HL := hide' hl
  clear hac hbc hl ha1 ha2 hb1 hb2
  go_enter Tryd.func19, Tryd.ntmps19
  go_wp2
  go_loopw [5] (fun v wr => ∃ i : Nat, v = .int .i64 i ∧ i ≤ n ∧ Hid (Below W.heap.size W wr)) (fun v _ => n - (RowKit.intOf v).toNat)
  case atStart => exact ⟨0, rfl, Nat.zero_le _, Below.refl _ _⟩
  case round =>
    obtain ⟨i, rfl, hi, HW⟩ := hrel
    by_cases hlt : i < n
    · obtain ⟨b1, o1, rfl, hc1⟩ := HA.out (by omega)
      obtain ⟨b2, o2, rfl, hc2⟩ := HB.out (by omega)
      obtain ⟨x, hx⟩ : ∃ x, l[i]? = some x := ⟨_, List.getElem?_eq_getElem (by have := HL.out; omega)⟩
      have k1 : wr.cell? ⟨b1, o1 + i, none⟩ = some (.int .i64 x) := (HW.out.cell (p := ⟨b1, o1 + i, none⟩) (block_lt_of_cell (hc1 i x hx))).trans (hc1 i x hx)
      have k2 : wr.cell? ⟨b2, o2 + i, none⟩ = some (.int .i64 x) := (HW.out.cell (p := ⟨b2, o2 + i, none⟩) (block_lt_of_cell (hc2 i x hx))).trans (hc2 i x hx)
      have t1 : (i : Int) < (n : Int) := by omega
      have t0 : (0 : Int) ≤ i := by omega
      have tw : IntKind.i64.wrap ((i : Int) + 1) = (i : Int) + 1 := by rw [IntKind.wrap_i64]; omega
      clear hc1 hc2 hx HA HB HL
      go_wp2
      go_quiet (fail)
      go_wp2
      go_roundw
      case rel => exact ⟨i + 1, rfl, by omega, below_drewN HW.out _⟩
      case measure => simp [RowKit.intOf]; omega
    · have t1 : ¬ (i : Int) < (n : Int) := by omega
      go_wp2
      go_ret
      exact ⟨rfl, HW.out⟩
end Go.Proofs.YtcmjipgigkalcaaDoor
/-
  WALKS over (*tree.Tree).children and the function that it hands back; Along by child.
-/
namespace Go.Proofs.YtcmjipgigkalcaaDoor
open Go.RowKit Go.Shelf Go.Lib
attribute [local go_sem] Oper.semAt_some
namespace Tr
/-- what 'behind' reads of a tree -/
structure TN (W : World) (D q cap nd n : Nat) (E : Nat → Ev Value) : Prop where
  c1 : W.cell? ⟨D, 1, none⟩ = some (.slice (some ⟨q, 0, none⟩) nd cap)
  nb : ∀ k, k < nd → W.cell? ⟨q, k * 4 + 1, none⟩ = some (.int .i64 ((grun E n).nth k).beh)
theorem TreeR.tn {W : World} {B D n : Nat} {E : Nat → Ev Value} {L q cap nd : Nat} (h : TreeR W B D n E L q cap nd) : TN W D q cap nd n E := ⟨h.c1, fun _ hk => (h.node hk).2.1⟩
/-- these blocks are as they were -/
def Keep4 (a b c d : Nat) (W W' : World) : Prop := ∀ k, k = a ∨ k = b ∨ k = c ∨ k = d → W'.heap[k]? = W.heap[k]?
theorem keep4_t {a b c d : Nat} {A B C : World} (h : Keep4 a b c d A B) (k : Keep4 a b c d B C) : Keep4 a b c d A C := fun i hi => (k i hi).trans (h i hi)
theorem keep4_b {a b c d N : Nat} (ha : a < N) (hb : b < N) (hc : c < N) (hd : d < N) (W : World) (l : Nat) (o o' : Obj) (h1 : N ≤ l) (_ : W.heap[l]? = some o) (_ : o.isCells = false) (_ : o.isWalk = false) : Keep4 a b c d W (W.putObj l o') :=
  fun k hk => World.putObj_heap_other (by omega)
theorem TN.keep {W W' : World} {D q cap nd n : Nat} {E : Nat → Ev Value} (h : TN W D q cap nd n E) (hD : W'.heap[D]? = W.heap[D]?) (hq : W'.heap[q]? = W.heap[q]?) : TN W' D q cap nd n E :=
  ⟨(World.cell?_of_block (a := ⟨D, 1, none⟩) hD).trans h.c1, fun k hk => (World.cell?_of_block (a := ⟨q, k * 4 + 1, none⟩) hq).trans (h.nb k hk)⟩
end Tr
set_option maxHeartbeats 1000000 in
theorem trBehindN (W : World) (D q cap nd n : Nat) (E : Nat → Tr.Ev Value) (h : Tr.TN W D q cap nd n E) (k : Int) (hk : k < nd) :
    Calls Tryd.prog 44 #[.pointer (some ⟨D, 0, none⟩), .int .i64 k] W fun e w' => e = .returned (.int .i64 (Tr.bh E n nd k)) ∧ w' = W := by
  have c1 := h.c1
  unfold Tr.bh
  by_cases h1 : k < 0
  · rw [if_pos h1]
    clear h
    go_enter Tryd.func44, Tryd.ntmps44
    go_wp2
    go_ret
    exact ⟨rfl, rfl⟩
  · rw [if_neg h1]
    obtain ⟨j, rfl⟩ : ∃ j : Nat, k = j := ⟨k.toNat, by omega⟩
    have c2 := h.nb j (by omega)
    rw [Int.toNat_natCast]
    clear h
    go_enter Tryd.func44, Tryd.ntmps44
    go_wp2
    go_ret
    exact ⟨rfl, rfl⟩
set_option maxRecDepth 100000 in
set_option maxHeartbeats 2000000 in
/-- the function that children hands back -/
theorem trCh1 (m : Nat) (hm : 1 ≤ m) (l Bt Bn D q cap nd n : Nat) (E : Nat → Tr.Ev Value) (k : Int) (hsh : Tr.Shape E (Tr.grun E n) nd n) (hk0 : -1 ≤ k) (hk : k < nd) (hnd : nd ≤ 1048576) (J Jx : List (Tr.Num (k + 1) (Tr.bh E n nd k)) → World → Prop) (W : World)
    (hY : ∀ pre x W1, J pre W1 → pre.length < (Tr.chS E n nd k).length → YieldAt Fence.wide (m - 1) Tryd.prog l (Tr.encI x) W1 fun e W' =>
      (e = .returned (.bool true) ∧ J (pre ++ [x]) W' ∧ Tr.Keep4 Bt Bn D q W1 W') ∨ (e = .returned (.bool false) ∧ Jx (pre ++ [x]) W'))
    (hBt : W.cell? ⟨Bt, 0, none⟩ = some (.pointer (some ⟨D, 0, none⟩))) (hBn : W.cell? ⟨Bn, 0, none⟩ = some (.int .i64 k)) (hT : Tr.TN W D q cap nd n E) (h0 : J [] W) :
    CallsIn Fence.wide m Tryd.prog 56 #[.func (.yield l) #[] #[], .pointer (some ⟨Bt, 0, none⟩), .pointer (some ⟨Bn, 0, none⟩)] W fun e W' => (∃ v, e = .returned v) ∧
      ((∃ ys, ys = Tr.chS E n nd k ∧ J ys W') ∨ (∃ pre, pre <+: Tr.chS E n nd k ∧ Jx pre W')) := by
  have hbu := Tr.bh_up hsh hk0 hk
  have hstep : ∀ x, k + 1 ≤ x → x < Tr.bh E n nd k → ∃ h, Tr.chF E n nd (k + 1) (Tr.bh E n nd k) (Tr.bh E n nd k - x).toNat x = ⟨x, h⟩ :: Tr.chF E n nd (k + 1) (Tr.bh E n nd k) (Tr.bh E n nd k - Tr.bh E n nd x).toNat (Tr.bh E n nd x) := fun x h1 h2 => ⟨⟨h1, h2⟩, Tr.chF_step hsh (by omega) hbu.2 h1 h2⟩
  have hend : ∀ x, ¬ x < Tr.bh E n nd k → Tr.chF E n nd (k + 1) (Tr.bh E n nd k) (Tr.bh E n nd k - x).toNat x = [] := fun x h => Tr.chF_end h
  have hin : ∀ x, k + 1 ≤ x → x < Tr.bh E n nd k → x < Tr.bh E n nd x ∧ Tr.bh E n nd x ≤ Tr.bh E n nd k := fun x h1 h2 => ⟨(Tr.bh_up hsh (by omega) (by omega)).1, Tr.bh_in hsh hk0 hk (by omega) h2⟩
  have hCS : Tr.chS E n nd k = Tr.chF E n nd (k + 1) (Tr.bh E n nd k) (Tr.bh E n nd k - (k + 1)).toNat (k + 1) := rfl
  have cB : ∀ W1 x, Tr.TN W1 D q cap nd n E → x < (nd : Int) → _ := fun W1 x h1 h2 => trBehindN W1 D q cap nd n E h1 x h2
  have C0 := hide' (cB W k hT hk)
  generalize Tr.chS E n nd k = CS at *
  obtain ⟨b, hb⟩ : ∃ b, Tr.bh E n nd k = b := ⟨_, rfl⟩
  have HST := hide' hstep
  have HEN := hide' hend
  have HIN := hide' hin
  have HCB := hide' cB
  have HCS := hide' hCS
  have HT := hide' hT
  have HY := hide' hY
  have hw : IntKind.i64.wrap (k + 1) = k + 1 := by rw [IntKind.wrap_i64]; omega
  clear hstep hend hin cB hCS hT hY hsh hb
  obtain ⟨hb1, hb2⟩ := hbu
  generalize Tr.bh E n nd k = b at *
  refine callsIn_of_wp Tryd.func56 rfl trivial ?_ rfl
  simp only [Tryd.ntmps56, List.size_toArray, List.length_cons, List.length_nil, Nat.reduceAdd, Nat.reduceSub, Array.replicate_succ, Array.replicate_zero, List.push_toArray, List.append_toArray, List.nil_append, List.cons_append]
  gi_wp2_with fail
  refine ⟨trivial, ?_⟩
  refine (callsIn_wide.2 C0.out).mono ?_
  rintro e w1 ⟨rfl, rfl⟩
  clear C0
  gi_wp2
  gi_loopw [5] (fun v wr => ∃ (x : Int) (ps : List (Tr.Num (k + 1) b)), v = .int .i64 x ∧ k + 1 ≤ x ∧ x ≤ b ∧ Hid (ps ++ Tr.chF E n nd (k + 1) b (b - x).toNat x = CS) ∧ J ps wr ∧ wr.cell? ⟨Bt, 0, none⟩ = some (.pointer (some ⟨D, 0, none⟩)) ∧ Hid (Tr.TN wr D q cap nd n E)) (fun v _ => (b - RowKit.intOf v).toNat)
  case atStart => exact ⟨k + 1, [], rfl, Int.le_refl _, by omega, HCS.out.symm, h0, hBt, HT⟩
  case round =>
    obtain ⟨x, ps, rfl, hx1, hx2, hq, hJs, cT, HTN⟩ := hrel
    by_cases hlt : x < b
    · have hq2 := hq.out
      obtain ⟨hh, e⟩ := HST.out x hx1 hlt
      rw [e] at hq2
      have hln := congrArg List.length hq2
      rw [List.length_append, List.length_cons] at hln
      obtain ⟨fn, tmps, assign, body, hy, hR⟩ := HY.out ps ⟨x, hh⟩ wr hJs (by omega)
      simp only [Tr.encI] at hy
      have HQ := hide' hq2
      obtain ⟨hi1, hi2⟩ := HIN.out x hx1 hlt
      have hxn : x < (nd : Int) := by omega
      clear hq hq2 HY hJs hln e
      gi_wp2
      refine hR.mono ?_
      rintro e W3 (⟨rfl, hJ3, hk3⟩ | ⟨rfl, hJx3⟩)
      · have cT3 : W3.cell? ⟨Bt, 0, none⟩ = some (.pointer (some ⟨D, 0, none⟩)) := (World.cell?_of_block (a := ⟨Bt, 0, none⟩) (hk3 Bt (.inl rfl))).trans cT
        have hT3 : Tr.TN W3 D q cap nd n E := HTN.out.keep (hk3 D (.inr (.inr (.inl rfl)))) (hk3 q (.inr (.inr (.inr rfl))))
        have HT3 := hide' hT3
        have C3 := hide' (HCB.out W3 x hT3 hxn)
        clear hT3 hk3
        gi_wp2_with fail
        refine ⟨trivial, ?_⟩
        refine (callsIn_wide.2 C3.out).mono ?_
        rintro e w4 ⟨rfl, rfl⟩
        clear C3
        gi_wp2
        go_roundw
        case rel => exact ⟨Tr.bh E n nd x, ps ++ [⟨x, hh⟩], rfl, by omega, hi2, by show _ = _; rw [List.append_assoc]; exact HQ.out, hJ3, cT3, HT3⟩
        case measure => simp [RowKit.intOf]; omega
      · gi_wp2
        refine bodyPost_ret (results_none rfl _ _ _) rfl ?_
        exact ⟨⟨_, rfl⟩, .inr ⟨_, ⟨_, by rw [List.append_assoc]; exact HQ.out⟩, hJx3⟩⟩
    · have hq2 := hq.out
      rw [HEN.out x (by omega), List.append_nil] at hq2
      have HQ := hide' hq2
      clear hq hq2 HY
      gi_wp2
      go_end0
      exact ⟨⟨_, rfl⟩, .inl (by rw [← HQ.out]; exact hJs)⟩
theorem trCh_stops (m : Nat) (hm : 1 ≤ m) (Bt Bn B D n : Nat) (E : Nat → Tr.Ev Value) (L q cap nd : Nat) (k : Int) (hk0 : -1 ≤ k) (hk : k < nd) (hnd : nd ≤ 1048576) (w : World) (h : Tr.TreeR w B D n E L q cap nd) (hBt : w.cell? ⟨Bt, 0, none⟩ = some (.pointer (some ⟨D, 0, none⟩))) (hBn : w.cell? ⟨Bn, 0, none⟩ = some (.int .i64 k)) :
    SeqStopsK Fence.wide m Tryd.prog 56 #[.pointer (some ⟨Bt, 0, none⟩), .pointer (some ⟨Bn, 0, none⟩)] (Tr.encI (a := k + 1) (b := Tr.bh E n nd k)) (Tr.Keep4 Bt Bn D q) (fun ys => ys = Tr.chS E n nd k) (fun pre => pre <+: Tr.chS E n nd k) (Tr.chS E n nd k).length w := fun l J Jx W hW _ _ hY h0 =>
  trCh1 m hm l Bt Bn D q cap nd n E k h.shp hk0 hk hnd J Jx W hY ((hW.cell (p := ⟨Bt, 0, none⟩) (block_lt_of_cell hBt)).trans hBt) ((hW.cell (p := ⟨Bn, 0, none⟩) (block_lt_of_cell hBn)).trans hBn) (h.below hW).tn h0
theorem trChildren (D : Nat) (k : Int) (w : World) :
    Calls Tryd.prog 43 #[.pointer (some ⟨D, 0, none⟩), .int .i64 k] w fun e w' => e = .returned (.func (.func 56) #[] #[.pointer (some ⟨w.heap.size, 0, none⟩), .pointer (some ⟨w.heap.size + 1, 0, none⟩)]) ∧ w' = (w.alloc (.cells #[.pointer (some ⟨D, 0, none⟩)] 25)).alloc (.cells #[.int .i64 k] 3) := by
  go_enter Tryd.func43, Tryd.ntmps43
  go_wp2
  go_ret
  exact ⟨rfl, rfl⟩
set_option maxHeartbeats 2000000 in
theorem trAlongC (W : World) (B D n : Nat) (E : Nat → Tr.Ev Value) (L q cap nd : Nat) (h : Tr.TreeR W B D n E L q cap nd) (k : Int) (h0 : -1 ≤ k) (h1 : k < nd) :
    Calls Tryd.prog 31 #[.pointer (some ⟨D, 0, none⟩), .int .i64 k, .int .i64 0] W fun e w' => e = .returned (.func (.func 56) #[] #[.pointer (some ⟨W.heap.size, 0, none⟩), .pointer (some ⟨W.heap.size + 1, 0, none⟩)]) ∧ w' = (W.alloc (.cells #[.pointer (some ⟨D, 0, none⟩)] 25)).alloc (.cells #[.int .i64 k] 3) := by
  have cL := trLacks W B D n E L q cap nd h k (-1)
  rw [if_neg (by omega)] at cL
  have CC := hide' (trChildren D k W)
  clear h
  go_enter Tryd.func31, Tryd.ntmps31
  go_wp2_with fail
  refine cL.mono ?_
  rintro e w1 ⟨rfl, rfl⟩
  clear cL
  go_wp2_with fail
  refine CC.out.mono ?_
  rintro e w1 ⟨rfl, rfl⟩
  clear CC
  go_wp2_with fail
  go_ret
  exact ⟨rfl, rfl⟩
end Go.Proofs.YtcmjipgigkalcaaDoor
/-
  WALKS over (*tree.Tree).Parent and gimletlaw09.along at a tree, by every axis.
-/
namespace Go.Proofs.YtcmjipgigkalcaaDoor
open Go.RowKit Go.Shelf Go.Lib
set_option maxHeartbeats 1000000 in
theorem trParent (W : World) (B D n : Nat) (E : Nat → Tr.Ev Value) (L q cap nd : Nat) (h : Tr.TreeR W B D n E L q cap nd) (k : Int) :
    Calls Tryd.prog 13 #[.pointer (some ⟨D, 0, none⟩), .int .i64 k] W fun e w' => e = .returned (if k < 0 ∨ (nd : Int) ≤ k then .tuple #[.int .i64 0, .int .i64 2] else .tuple #[.int .i64 ((Tr.grun E n).nth k.toNat).par, .int .i64 0]) ∧ w' = W := by
  have cL := trLacks W B D n E L q cap nd h k 0
  have c1 := h.c1
  by_cases hk : k < 0 ∨ (nd : Int) ≤ k
  · rw [if_pos hk] at cL ⊢
    clear h hk
    go_enter Tryd.func13, Tryd.ntmps13
    go_wp2_with fail
    refine cL.mono ?_
    rintro e w1 ⟨rfl, rfl⟩
    clear cL
    go_wp2_with fail
    go_ret2
    exact ⟨rfl, rfl⟩
  · rw [if_neg hk] at cL ⊢
    obtain ⟨j, rfl⟩ : ∃ j : Nat, k = j := ⟨k.toNat, by omega⟩
    obtain ⟨c2, _⟩ := h.node (k := j) (by omega)
    rw [Int.toNat_natCast]
    have t1 : (j : Int) < (nd : Int) := by omega
    have t0 : (0 : Int) ≤ j := by omega
    clear h hk
    go_enter Tryd.func13, Tryd.ntmps13
    go_wp2_with fail
    refine cL.mono ?_
    rintro e w1 ⟨rfl, rfl⟩
    clear cL
    go_wp2_with fail
    go_ret2
    exact ⟨rfl, rfl⟩
namespace Tr
theorem alF_bound {E : Nat → Ev Value} {n nd : Nat} (h : Shape E (grun E n) nd n) (k ax : Int) : -1 ≤ (alF E n nd k ax).1 ∧ (alF E n nd k ax).2 ≤ nd := by
  unfold alF
  split
  · exact ⟨by decide, by dsimp only; omega⟩
  · have := (bh_up h (show -1 ≤ k by omega) (by omega)).2
    split
    · exact ⟨by dsimp only; omega, this⟩
    split
    · exact ⟨by dsimp only; omega, this⟩
    split
    · exact ⟨by dsimp only; omega, by dsimp only; omega⟩
    · exact ⟨by decide, by dsimp only; omega⟩
/-- a collected row of numbers -/
theorem io_of {W : World} {B : Nat} {v : Value} {a b : Int} {ys : List (Num a b)} {l : List Int} (h : W.ownsRow B 3 1 v ys.length (ic (vals ys))) (e : vals ys = l) : IO W B v l := by
  subst e
  unfold IO
  rw [show (vals ys).length = ys.length by simp [vals]]
  exact h
theorem io_new (w : World) (x : Int) : IO (w.alloc (.cells #[.int .i64 x] 3)) w.heap.size (.slice (some ⟨w.heap.size, 0, none⟩) 1 1) [x] :=
  ⟨rfl, .inr ⟨w.heap.size, 1, #[.int .i64 x], rfl, Nat.le_refl _, World.alloc_heap_new w _, Nat.le_refl _, by decide, rfl, rfl⟩⟩
theorem io_nil (w : World) (B : Nat) : IO w B (.slice none 0 0) [] := ⟨rfl, .inl ⟨rfl, rfl⟩⟩
/-- what along answers -/
def AlE (w : World) (l : List Int) (e : Ending) (w' : World) : Prop := ∃ v, e = .returned v ∧ IO w' w.heap.size v l ∧ Below w.heap.size w w'
end Tr
theorem trAlongL (w : World) (B D n : Nat) (E : Nat → Tr.Ev Value) (L q cap nd : Nat) (h : Tr.TreeR w B D n E L q cap nd) (hn : nd ≤ 900) (k ax : Int) (h0 : ax ≠ 0) :
    Calls Tryd.prog 20 #[.pointer (some ⟨D, 0, none⟩), .int .i64 k, .int .i64 ax] w fun e w' => Tr.AlE w (Tr.numL (Tr.alF E n nd k ax).1 (Tr.alF E n nd k ax).2) e w' := by
  have hA1 : Below w.heap.size w (w.alloc (.cells #[.slice none 0 0] 52)) := (Below.refl _ _).alloc (Nat.le_refl _) _
  have cA := trAlong (w.alloc (.cells #[.slice none 0 0] 52)) B D n E L q cap nd (h.below hA1) (by omega) k ax h0
  obtain ⟨hb1, hb2⟩ := Tr.alF_bound h.shp k ax
  generalize (Tr.alF E n nd k ax).1 = a at *
  generalize (Tr.alF E n nd k ax).2 = b at *
  rw [World.size_alloc] at cA
  obtain ⟨W0, hW0⟩ : ∃ W0, w.alloc (.cells #[.slice none 0 0] 52) = W0 := ⟨_, rfl⟩
  have hz0 : W0.heap.size = w.heap.size + 1 := by rw [← hW0]; simp
  rw [hW0] at cA
  obtain ⟨W1, hW1⟩ : ∃ W1, (W0.alloc (.cells #[.int .i64 a] 3)).alloc (.cells #[.int .i64 b] 3) = W1 := ⟨_, rfl⟩
  rw [hW1] at cA
  have hz1 : W1.heap.size = w.heap.size + 3 := by rw [← hW1]; simp; omega
  have hbl : Below (w.heap.size + 1) W0 W1 := by
    rw [← hW1]
    exact ((Below.refl _ _).alloc (by omega) _).alloc (by simp; omega) _
  have hbf : W1.cell? ⟨w.heap.size + 1, 0, none⟩ = some (.int .i64 a) := by
    rw [← hW1, ← hz0]
    rw [Lib.cell_of_heap ((Below.heap_alloc _ _ _ (by simp)).trans (World.alloc_heap_new W0 _))]
    rfl
  have hbe : W1.cell? ⟨w.heap.size + 1 + 1, 0, none⟩ = some (.int .i64 b) := by
    have h1 := World.alloc_heap_new (W0.alloc (.cells #[.int .i64 a] 3)) (.cells #[.int .i64 b] 3)
    rw [World.size_alloc, hz0] at h1
    rw [← hW1, Lib.cell_of_heap h1]
    rfl
  rw [← hW0] at cA hbl
  refine (trCollects (.pointer (some ⟨D, 0, none⟩)) k ax w W1 a b 55 #[.pointer (some ⟨w.heap.size + 1, 0, none⟩), .pointer (some ⟨w.heap.size + 1 + 1, 0, none⟩)] (enters_of Tryd.func55 (by kernel_rfl) rfl) cA hbl (Tr.Keep1 (w.heap.size + 1 + 1)) (fun ys => ys = Tr.numS a b) (fun pre => pre <+: Tr.numS a b) (Tr.numS a b).length (by rw [Tr.numS_length]; omega)
    (trNum_stops Fence.wide 5 trivial rfl (by omega) (w.heap.size + 1) (w.heap.size + 1 + 1) a b (by omega) (by omega) W1 hbf hbe) Tr.keep1_t (Tr.keep1_b (by omega)) (fun W W' hk => World.cell?_of_block (a := ⟨w.heap.size + 1 + 1, 0, none⟩) (hk (w.heap.size + 1 + 1) (by omega) (by omega)))).mono ?_
  rintro e w' ⟨v, ys, rfl, rfl, hI, hb⟩
  exact ⟨v, rfl, Tr.io_of hI (Tr.vals_numS a b), hb⟩
theorem trAlongCL (w : World) (B D n : Nat) (E : Nat → Tr.Ev Value) (L q cap nd : Nat) (h : Tr.TreeR w B D n E L q cap nd) (hn : nd ≤ 900) (k : Int) (hk0 : -1 ≤ k) (hk : k < nd) :
    Calls Tryd.prog 20 #[.pointer (some ⟨D, 0, none⟩), .int .i64 k, .int .i64 0] w fun e w' => Tr.AlE w (Tr.chL E n nd k) e w' := by
  have hA1 : Below w.heap.size w (w.alloc (.cells #[.slice none 0 0] 52)) := (Below.refl _ _).alloc (Nat.le_refl _) _
  have cA := trAlongC (w.alloc (.cells #[.slice none 0 0] 52)) B D n E L q cap nd (h.below hA1) k hk0 hk
  rw [World.size_alloc] at cA
  obtain ⟨W0, hW0⟩ : ∃ W0, w.alloc (.cells #[.slice none 0 0] 52) = W0 := ⟨_, rfl⟩
  have hz0 : W0.heap.size = w.heap.size + 1 := by rw [← hW0]; simp
  rw [hW0] at cA
  obtain ⟨W1, hW1⟩ : ∃ W1, (W0.alloc (.cells #[.pointer (some ⟨D, 0, none⟩)] 25)).alloc (.cells #[.int .i64 k] 3) = W1 := ⟨_, rfl⟩
  rw [hW1] at cA
  have hz1 : W1.heap.size = w.heap.size + 3 := by rw [← hW1]; simp; omega
  have hbl : Below (w.heap.size + 1) W0 W1 := by
    rw [← hW1]
    exact ((Below.refl _ _).alloc (by omega) _).alloc (by simp; omega) _
  have hbt : W1.cell? ⟨w.heap.size + 1, 0, none⟩ = some (.pointer (some ⟨D, 0, none⟩)) := by
    rw [← hW1, ← hz0]
    rw [Lib.cell_of_heap ((Below.heap_alloc _ _ _ (by simp)).trans (World.alloc_heap_new W0 _))]
    rfl
  have hbn : W1.cell? ⟨w.heap.size + 1 + 1, 0, none⟩ = some (.int .i64 k) := by
    have h1 := World.alloc_heap_new (W0.alloc (.cells #[.pointer (some ⟨D, 0, none⟩)] 25)) (.cells #[.int .i64 k] 3)
    rw [World.size_alloc, hz0] at h1
    rw [← hW1, Lib.cell_of_heap h1]
    rfl
  have hD : D < w.heap.size := (Array.getElem?_eq_some_iff.1 h.blk).1
  have hq : q < w.heap.size := block_lt_of_cell (h.node (k := 0) h.shp.pos).1
  have hb2 := Tr.bh_up h.shp hk0 hk
  have hR1 : Tr.TreeR W1 B D n E L q cap nd := h.below (hA1.trans (by rw [← hW0] at hbl; exact hbl.mono (by omega)))
  rw [← hW0] at cA hbl
  refine (trCollects (.pointer (some ⟨D, 0, none⟩)) k 0 w W1 (k + 1) (Tr.bh E n nd k) 56 #[.pointer (some ⟨w.heap.size + 1, 0, none⟩), .pointer (some ⟨w.heap.size + 1 + 1, 0, none⟩)] (enters_of Tryd.func56 (by kernel_rfl) rfl) cA hbl (Tr.Keep4 (w.heap.size + 1) (w.heap.size + 1 + 1) D q) (fun ys => ys = Tr.chS E n nd k) (fun pre => pre <+: Tr.chS E n nd k) (Tr.chS E n nd k).length
    (by have := Tr.chF_len E n nd (k + 1) (Tr.bh E n nd k) (Tr.bh E n nd k - (k + 1)).toNat (k + 1); show (Tr.chF _ _ _ _ _ _ _).length ≤ _; omega)
    (trCh_stops 5 (by omega) (w.heap.size + 1) (w.heap.size + 1 + 1) B D n E L q cap nd k hk0 hk (by omega) W1 hR1 hbt hbn) Tr.keep4_t (Tr.keep4_b (by omega) (by omega) (by omega) (by omega)) (fun W W' hkk i hi => hkk i (by omega) (by omega))).mono ?_
  rintro e w' ⟨v, ys, rfl, rfl, hI, hb⟩
  exact ⟨v, rfl, Tr.io_of hI rfl, hb⟩
end Go.Proofs.YtcmjipgigkalcaaDoor
