import Derived.Test.YtcmjipgigkalcaaDoorRnStr
import Derived.RangeFuncNested
import Derived.RangeFuncBound
import Derived.RangeFuncCalls
import Derived.RangeFuncLeaves
import Derived.Shelf.Abstract
import Derived.Shelf.RegionOpen
import Derived.OwnWalkIn
import Derived.TacticsInMore
import Derived.LoopNIn
import Derived.LoopIn
import Derived.Lib.SmallJoins
import Derived.Laws.IdiomStrings
import Derived.Laws.Cover4
import Derived.Test.YtcmjipgigkalcaaDoorRnBeg
import Derived.Lib.RuneBytes
/-
  WALKS over runes.All and the function that it hands back: places and characters, one by one.
-/
namespace Go.Proofs.YtcmjipgigkalcaaDoor
open Go.RowKit Go.Shelf
attribute [local go_sem] Oper.semAt_some

namespace Rn
/-- a place below n and a character -/
abbrev Chr (n : Nat) := { x : Nat × Nat // x.1 < n ∧ x.2 < 2097152 }
/-- the characters from a place on, by at most so many -/
def chFrom (f : Nat → Nat) (n : Nat) (hf : ∀ j, f j < 256) : Nat → Nat → List (Chr n)
  | 0, _ => []
  | fuel + 1, p => if h : p < n then ⟨(p, (dec (off f p) (n - p)).1), h, dec_lt _ _ (fun _ => hf _) (by omega)⟩ :: chFrom f n hf fuel (p + (dec (off f p) (n - p)).2) else []
def chs (f : Nat → Nat) (n : Nat) (hf : ∀ j, f j < 256) : List (Chr n) := chFrom f n hf n 0
theorem chFrom_end (f : Nat → Nat) (n : Nat) (hf : ∀ j, f j < 256) (fuel p : Nat) (h : ¬ p < n) : chFrom f n hf fuel p = [] := by
  cases fuel with
  | zero => rfl
  | succ m => unfold chFrom; rw [dif_neg h]
def encC {n : Nat} (x : Chr n) : Array Value := #[.int .i64 (x.1.1 : Int), .int .i32 (x.1.2 : Int)]
end Rn

theorem grownBy_iterAt (w : World) (k : Nat) (s : ByteArray) (p : Nat) : w.grownBy (w.iterAt k s p) (some k) :=
  ⟨rfl, rfl, rfl, by rw [Lib.iterAt_size]; exact Nat.le_refl _, fun j _ hj => Lib.iterAt_other w k j s p (fun e => hj (by rw [e]))⟩

end Go.Proofs.YtcmjipgigkalcaaDoor
/-
  WALKS over runes.MendParts and runes.Mend: what is written into the Builder, character by character.
-/
namespace Go.Proofs.YtcmjipgigkalcaaDoor
open Go.RowKit Go.Shelf
attribute [local go_sem] Oper.semAt_some

namespace Rn
/-- one character more: the bytes that are written, and the place behind the last piece of wrong bytes -/
def mpStep (f : Nat → Nat) (n : Nat) (st : List UInt8 × Nat) (x : Chr n) : List UInt8 × Nat :=
  if x.1.1 < st.2 then st else (st.1 ++ Lib.encodeRune x.1.2, if x.1.2 = 65533 then x.1.1 + pw (off f x.1.1) (n - x.1.1) else st.2)
def mp (f : Nat → Nat) (n : Nat) (xs : List (Chr n)) : List UInt8 × Nat := xs.foldl (mpStep f n) ([], 0)
theorem mp_snoc (f : Nat → Nat) (n : Nat) (xs : List (Chr n)) (x : Chr n) : mp f n (xs ++ [x]) = mpStep f n (mp f n xs) x := by
  simp [mp, List.foldl_append]
theorem pw_le (f : Nat → Nat) (n : Nat) (hn : 0 < n) : pw f n ≤ n ∧ 0 < pw f n := by
  have a1 := fk_le f n
  unfold pw
  split
  · next h =>
    simp only [whole, decide_eq_true_eq] at h
    omega
  · omega
end Rn

theorem kept_cells {W W' : World} {row : Option Nat} (hg : W.grownBy W' row) (hr : ∀ r, row = some r → ∃ o : Obj, W.heap[r]? = some o ∧ o.isCells = false) {k : Nat} {o : Obj} (hk : W.heap[k]? = some o) (ho : o.isCells = true) : W'.heap[k]? = some o := by
  have hlt : k < W.heap.size := (Array.getElem?_eq_some_iff.1 hk).1
  rw [hg.block k hlt (fun e => by
    obtain ⟨o', h1, h2⟩ := hr k e.symm
    rw [hk] at h1
    cases h1
    rw [ho] at h2
    cases h2)]
  exact hk
theorem builder_kept {T e : TypeId} {B b : Nat} {bs : List Value} {W W' : World} (h : Lib.IsBuilderF T e B b bs W) (hk : ∀ (k : Nat) (o : Obj), W.heap[k]? = some o → o.isCells = true → W'.heap[k]? = some o) : Lib.IsBuilderF T e B b bs W' := by
  have go : ∀ {p : Value}, Lib.BuilderAtF T e B b p bs W → Lib.BuilderAtF T e B b p bs W' := by
    rintro p ⟨hB, v, hb, hown, hne⟩
    refine ⟨hB, v, hk _ _ hb rfl, ⟨hown.1, ?_⟩, hne⟩
    rcases hown.2 with hn | ⟨g, cap, cur, fz, hv, hbg, hg, rest⟩
    · exact .inl hn
    · exact .inr ⟨g, cap, cur, fz, hv, hbg, hk _ _ hg rfl, rest⟩
  exact h.elim (fun x => .inl (go x)) (fun x => .inr (go x))

theorem builder_set {T e : TypeId} {B b : Nat} {bs : List Value} {W : World} (h : Lib.IsBuilderF T e B b bs W) {k i : Nat} {c : Array Value} {t : TypeId} {fz : Nat × Nat} (hk : W.heap[k]? = some (.cells c t fz)) (ht : t ≠ e) (hb' : k ≠ b) (u : Value) :
    Lib.IsBuilderF T e B b bs (W.setCell ⟨k, i, none⟩ u) := by
  have go : ∀ {p : Value}, Lib.BuilderAtF T e B b p bs W → Lib.BuilderAtF T e B b p bs (W.setCell ⟨k, i, none⟩ u) := by
    rintro p ⟨hB, v, hb, hown, hne⟩
    refine ⟨hB, v, (Below.heap_setCell W ⟨k, i, none⟩ u b (Ne.symm hb')).trans hb, ⟨hown.1, ?_⟩, hne⟩
    rcases hown.2 with hn | ⟨g, cap, cur, fz, hv, hbg, hg, rest⟩
    · exact .inl hn
    · refine .inr ⟨g, cap, cur, fz, hv, hbg, (Below.heap_setCell W ⟨k, i, none⟩ u g ?_).trans hg, rest⟩
      rintro rfl
      rw [hk] at hg
      cases hg
      exact ht rfl
  exact h.elim (fun x => .inl (go x)) (fun x => .inr (go x))

/-- between two rounds of MendParts -/
structure MI (f : Nat → Nat) (n N : Nat) (w : World) (pre : List (Rn.Chr n)) (W : World) : Prop where
  below : Below N w W
  str : W.heap[N]? = some (.cells #[.string (Rn.arr f n)] 9 (0, 0))
  out : Lib.IsBuilderF 71 5 (N + 1) (N + 1) (Lib.byteCells (Rn.mp f n pre).1) W
  men : W.heap[N + 1 + 1]? = some (.cells #[.int .i64 (Rn.mp f n pre).2] 3 (0, 0))
  len : (Rn.mp f n pre).1.length ≤ 4 * pre.length
  cnt : pre.length ≤ n
  mle : (Rn.mp f n pre).2 ≤ n
theorem MI.own (f : Nat → Nat) (n N : Nat) (w : World) (B : Nat) (hB : N ≤ B) : OwnFrom B (MI f n N w) := by
  intro pre W W' row h hg hr
  have hk : ∀ (k : Nat) (o : Obj), W.heap[k]? = some o → o.isCells = true → W'.heap[k]? = some o := fun k o h1 h2 => kept_cells hg (fun r e => (hr r e).2) h1 h2
  refine ⟨?_, hk _ _ h.str rfl, builder_kept h.out hk, hk _ _ h.men rfl, h.len, h.cnt, h.mle⟩
  exact h.below.trans ⟨hg.os, hg.tape, hg.output, hg.size, fun k hk' => hg.block k (by
    have := (Array.getElem?_eq_some_iff.1 h.str).1
    omega) (fun e => by have := (hr k e.symm).1; omega)⟩
theorem keepsOthers_of {e : TypeId} {b : Nat} {B : Nat} {W W' : World} (hk : Lib.OthersKept e (some b) W W') (hb : Below B W W') {c : Array Value} {t : TypeId} {fz : Nat × Nat} (hc : W.heap[b]? = some (.cells c t fz)) : KeepsOthers W W' :=
  ⟨hb.size, fun k o ho hn => hk k o ho (fun e1 => by cases e1; rw [hc] at ho; cases ho; cases hn) (fun c' fz' e1 => by rw [e1] at hn; cases hn)⟩
theorem keepsOthers_below {W W' : World} (hb : Below W.heap.size W W') : KeepsOthers W W' :=
  ⟨hb.size, fun k _ ho _ => (hb.block k (Array.getElem?_eq_some_iff.1 ho).1).trans ho⟩
theorem keepsWalks_of {W W' : World} (h : KeepsOthers W W') : KeepsWalks W W' :=
  ⟨h.size, fun k o ho hw => h.same k o ho (Obj.not_cells_of_walk hw)⟩
theorem isB_block {T e : TypeId} {B b : Nat} {bs : List Value} {W : World} (h : Lib.IsBuilderF T e B b bs W) : ∃ c, W.heap[b]? = some (.cells c T (0, 0)) := by
  rcases h with ⟨_, v, hb, _⟩ | ⟨_, v, hb, _⟩
  · exact ⟨_, hb⟩
  · exact ⟨_, hb⟩

end Go.Proofs.YtcmjipgigkalcaaDoor
/-
  THE WALK over runes.Mend: each character's bytes, one behind the other.
-/
namespace Go.Proofs.YtcmjipgigkalcaaDoor
open Go.RowKit Go.Shelf
attribute [local go_sem] Oper.semAt_some

namespace Rn
/-- the bytes of these characters, one behind the other -/
def md {n : Nat} (xs : List (Chr n)) : List UInt8 := xs.flatMap fun x => Lib.encodeRune x.1.2
theorem md_snoc {n : Nat} (xs : List (Chr n)) (x : Chr n) : md (xs ++ [x]) = md xs ++ Lib.encodeRune x.1.2 := by simp [md]
end Rn

/-- between two rounds of Mend -/
structure MD (n N : Nat) (w : World) (pre : List (Rn.Chr n)) (W : World) : Prop where
  below : Below N w W
  out : Lib.IsBuilderF 71 5 N N (Lib.byteCells (Rn.md pre)) W
  len : (Rn.md pre).length ≤ 4 * pre.length
  cnt : pre.length ≤ n
  big : N < W.heap.size
theorem MD.own (n N : Nat) (w : World) (B : Nat) (hB : N ≤ B) : OwnFrom B (MD n N w) := by
  intro pre W W' row h hg hr
  have hk : ∀ (k : Nat) (o : Obj), W.heap[k]? = some o → o.isCells = true → W'.heap[k]? = some o := fun k o h1 h2 => kept_cells hg (fun r e => (hr r e).2) h1 h2
  refine ⟨?_, builder_kept h.out hk, h.len, h.cnt, Nat.lt_of_lt_of_le h.big hg.size⟩
  exact h.below.trans ⟨hg.os, hg.tape, hg.output, hg.size, fun k hk' => hg.block k (by have := h.big; omega) (fun e => by have := (hr k e.symm).1; omega)⟩

end Go.Proofs.YtcmjipgigkalcaaDoor
/-
  THE WALK over runes.Byte: where the character of that number begins.
-/
namespace Go.Proofs.YtcmjipgigkalcaaDoor
open Go.RowKit Go.Shelf
attribute [local go_sem] Oper.semAt_some

theorem results_cell2 {P : Program} {fn : Func} {p q : Tmp} {t u : TypeId} (h : fn.results = #[.cell p t, .cell q u]) (tmps : Array Value) (w : World) (a b : Addr) (x y : Value)
    (hp : tmps.getD p undef = .pointer (some a)) (hq : tmps.getD q undef = .pointer (some b)) (ha : w.cell? a = some x) (hb : w.cell? b = some y) (ht : P.underlying t = some (.int .i64)) (hu : P.underlying u = some (.int .i64)) :
    (results fn tmps).run P w = .ok (.tuple #[x, y]) w := by
  have hp' : tmps[p]?.getD undef = .pointer (some a) := by simpa using hp
  have hq' : tmps[q]?.getD undef = .pointer (some b) := by simpa using hq
  simp [results, h, hp', hq', asAddr, loadVar, isAgg, underlying, ht, hu, ha, hb, Result.andThen]

namespace Rn
def byt {n : Nat} (cs : List (Chr n)) (k : Nat) : Nat × Nat := match cs[k]? with
  | some x => (x.1.1, 0)
  | none => if k = cs.length then (n, 0) else (0, 2)
end Rn

/-- between two rounds of Byte -/
structure BI (n N k : Nat) (w : World) (pre : List (Rn.Chr n)) (W : World) : Prop where
  below : Below N w W
  num : W.heap[N]? = some (.cells #[.int .i64 ((k - pre.length : Nat) : Int)] 3 (0, 0))
  r0 : W.heap[N + 1]? = some (.cells #[.int .i64 0] 3 (0, 0))
  r1 : W.heap[N + 1 + 1]? = some (.cells #[.int .i64 0] 26 (0, 0))
  cnt : pre.length ≤ k
/-- where Byte has returned out of the loop -/
structure BX (n N k : Nat) (w : World) (c : Code) (pre : List (Rn.Chr n)) (W : World) : Prop where
  ret : c = .ret
  below : Below N w W
  got : ∃ pre' x, pre = pre' ++ [x] ∧ pre'.length = k ∧ W.heap[N + 1]? = some (.cells #[.int .i64 (x.1.1 : Nat)] 3 (0, 0))
  r1 : W.heap[N + 1 + 1]? = some (.cells #[.int .i64 0] 26 (0, 0))
theorem BI.own (n N k : Nat) (w : World) (B : Nat) (hB : N ≤ B) : OwnFrom B (BI n N k w) := by
  intro pre W W' row h hg hr
  have hk : ∀ (k : Nat) (o : Obj), W.heap[k]? = some o → o.isCells = true → W'.heap[k]? = some o := fun k o h1 h2 => kept_cells hg (fun r e => (hr r e).2) h1 h2
  refine ⟨?_, hk _ _ h.num rfl, hk _ _ h.r0 rfl, hk _ _ h.r1 rfl, h.cnt⟩
  exact h.below.trans ⟨hg.os, hg.tape, hg.output, hg.size, fun k hk' => hg.block k (by have := (Array.getElem?_eq_some_iff.1 h.num).1; omega) (fun e => by have := (hr k e.symm).1; omega)⟩
theorem BX.own (n N k : Nat) (w : World) (c : Code) (B : Nat) (hB : N ≤ B) : OwnFrom B (BX n N k w c) := by
  intro pre W W' row h hg hr
  have hk : ∀ (k : Nat) (o : Obj), W.heap[k]? = some o → o.isCells = true → W'.heap[k]? = some o := fun k o h1 h2 => kept_cells hg (fun r e => (hr r e).2) h1 h2
  obtain ⟨p', x, e1, e2, e3⟩ := h.got
  refine ⟨h.ret, ?_, ⟨p', x, e1, e2, hk _ _ e3 rfl⟩, hk _ _ h.r1 rfl⟩
  exact h.below.trans ⟨hg.os, hg.tape, hg.output, hg.size, fun k hk' => hg.block k (by have := (Array.getElem?_eq_some_iff.1 h.r1).1; omega) (fun e => by have := (hr k e.symm).1; omega)⟩

theorem byte_def {W : World} {N D : Nat} {o : Obj} (h : W.heap[D]? = some o) (hD : N + 1 + 1 < D) (u v : Value) : ((W.setCell ⟨N + 1, 0, none⟩ u).setCell ⟨N + 1 + 1, 0, none⟩ v).heap[D]? = some o :=
  (Below.heap_setCell _ _ _ _ (by show D ≠ N + 1 + 1; omega)).trans ((Below.heap_setCell _ _ _ _ (by show D ≠ N + 1; omega)).trans h)
theorem byte_c0 {W : World} {N D : Nat} {x : Value} {t : TypeId} (h : W.heap[N + 1]? = some (.cells #[x] t (0, 0))) (hD : N + 1 + 1 < D) (u v : Value) (o : Obj) : (((W.setCell ⟨N + 1, 0, none⟩ u).setCell ⟨N + 1 + 1, 0, none⟩ v).putObj D o).cell? ⟨N + 1, 0, none⟩ = some u := by
  have h1 : (W.setCell ⟨N + 1, 0, none⟩ u).heap[N + 1]? = some (.cells #[u] t (0, 0)) := Go.Joins.block_setCell (i := 0) h _
  rw [Lib.cell_of_heap ((World.putObj_heap_other (by omega)).trans ((Below.heap_setCell _ _ _ _ (by show N + 1 ≠ N + 1 + 1; omega)).trans h1))]
  rfl
theorem byte_c1 {W : World} {N D : Nat} {x : Value} {t : TypeId} (h : W.heap[N + 1 + 1]? = some (.cells #[x] t (0, 0))) (hD : N + 1 + 1 < D) (u v : Value) (o : Obj) : (((W.setCell ⟨N + 1, 0, none⟩ u).setCell ⟨N + 1 + 1, 0, none⟩ v).putObj D o).cell? ⟨N + 1 + 1, 0, none⟩ = some v := by
  have h1 : ((W.setCell ⟨N + 1, 0, none⟩ u).setCell ⟨N + 1 + 1, 0, none⟩ v).heap[N + 1 + 1]? = some (.cells #[v] t (0, 0)) := Go.Joins.block_setCell (i := 0) ((Below.heap_setCell W ⟨N + 1, 0, none⟩ u _ (by show N + 1 + 1 ≠ N + 1; omega)).trans h) _
  rw [Lib.cell_of_heap ((World.putObj_heap_other (by omega)).trans h1)]
  rfl
theorem byte_below {w W : World} {D : Nat} (h : Below w.heap.size w W) (hD : w.heap.size + 1 + 1 < D) (u v : Value) (hK : ((W.setCell ⟨w.heap.size + 1, 0, none⟩ u).setCell ⟨w.heap.size + 1 + 1, 0, none⟩ v).heap[D]? = some (.deferred (some []))) : Below w.heap.size w (((W.setCell ⟨w.heap.size + 1, 0, none⟩ u).setCell ⟨w.heap.size + 1 + 1, 0, none⟩ v).putObj D (.deferred none)) :=
  ((h.setCell (p := ⟨w.heap.size + 1, 0, none⟩) (by show w.heap.size ≤ w.heap.size + 1; omega) _).setCell (p := ⟨w.heap.size + 1 + 1, 0, none⟩) (by show w.heap.size ≤ w.heap.size + 1 + 1; omega) _).trans (belowK_b (w := w) (Nat.le_refl _) _ D _ _ (by omega) hK rfl rfl)

end Go.Proofs.YtcmjipgigkalcaaDoor
/-
  WALKS over runes.Runes and runes.Join: Go's own conversions, in the words of this proof.
-/
namespace Go.Proofs.YtcmjipgigkalcaaDoor
open Go.RowKit Go.Shelf

namespace Rn
/-- the runes of these characters -/
def rl {n : Nat} (xs : List (Chr n)) : List Nat := xs.map fun x => x.1.2
def rv (l : List Nat) : List Value := l.map fun (r : Nat) => .int .i32 (r : Int)
theorem runesFrom_eq (f : Nat → Nat) (n : Nat) (hf : ∀ j, f j < 256) : ∀ (bound i : Nat) (acc : Array Value), Conv.runesFrom (arr f n) bound i acc = acc ++ (rv (rl (chFrom f n hf bound i))).toArray
  | 0, _, acc => by simp [Conv.runesFrom, chFrom, rl, rv]
  | bound + 1, i, acc => by
    unfold Conv.runesFrom chFrom
    rw [arr_size]
    by_cases h : i < n
    · rw [if_pos h, dif_pos h, arr_decode f n i hf h]
      simp only []
      rw [runesFrom_eq f n hf bound _ _]
      simp [rl, rv, ← Array.append_singleton, Array.append_assoc]
    · rw [if_neg h, dif_neg h]
      simp [rl, rv]
theorem chFrom_length (f : Nat → Nat) (n : Nat) (hf : ∀ j, f j < 256) : ∀ bound i, (chFrom f n hf bound i).length ≤ bound
  | 0, _ => by simp [chFrom]
  | bound + 1, i => by
    unfold chFrom
    split
    · have := chFrom_length f n hf bound
      simp
      exact this _
    · simp
theorem chs_length (f : Nat → Nat) (n : Nat) (hf : ∀ j, f j < 256) : (chs f n hf).length ≤ n := chFrom_length f n hf n 0
end Rn

/-- runes that lie one behind the other -/
def Lie (w : World) (g : Nat) (l : List Nat) : Prop := ∀ j (h : j < l.length), w.cell? ⟨g, 0 + j, none⟩ = some (.int .i32 (l[j] : Nat))
theorem Lie.below {w w' : World} {g : Nat} {l : List Nat} (h : Lie w g l) {B : Nat} (hb : Below B w w') (hB : w.heap.size ≤ B) : Lie w' g l := fun j hj =>
  (hb.cell (p := ⟨g, 0 + j, none⟩) (Nat.lt_of_lt_of_le (block_lt_of_cell (h j hj)) hB)).trans (h j hj)

theorem conv_runes (f : Nat → Nat) (n : Nat) (w : World) (hf : ∀ j, f j < 256) (hbig : n ≤ 70368744177664) :
    ∃ cap W, (convert 9 96 (.string (Rn.arr f n))).run Tryd.prog w = .ok (.slice (some ⟨w.heap.size, 0, none⟩) (Rn.rl (Rn.chs f n hf)).length cap) W ∧ (Rn.rl (Rn.chs f n hf)).length ≤ cap ∧ cap ≤ maxLen ∧ Lie W w.heap.size (Rn.rl (Rn.chs f n hf)) ∧ Below w.heap.size w W ∧ W.heap.size = w.heap.size + 1 ∧
      ∃ cs, W.heap[w.heap.size]? = some (.cells cs 21 (0, 0)) ∧ cs.size = cap := by
  have hle := Rn.chs_length f n hf
  have hr : Conv.runesFrom (Rn.arr f n) (Rn.arr f n).size 0 #[] = (Rn.rv (Rn.rl (Rn.chs f n hf))).toArray := by
    rw [Rn.runesFrom_eq f n hf, Rn.arr_size]
    simp [Rn.chs]
  have hsz : (Conv.runesFrom (Rn.arr f n) (Rn.arr f n).size 0 #[]).size = (Rn.rl (Rn.chs f n hf)).length := by rw [hr]; simp [Rn.rv]
  have hl2 : (Rn.rl (Rn.chs f n hf)).length ≤ n := by simp [Rn.rl]; exact hle
  have h := run_runes_of_string (P := Tryd.prog) w 9 96 21 (Rn.arr f n) Tryd.underlying9 Tryd.underlying96 Tryd.underlying21 (by rw [hsz]; omega)
  rw [hsz, hr] at h
  refine ⟨_, _, h, grownCap_ge _ _ _ _, grownCap_le_maxLen _ _ _ _ (by unfold maxLen; omega), ?_, ?_, by simp, ?_⟩
  · intro j hj
    have hh : (w.drew.alloc (.cells ((Rn.rv (Rn.rl (Rn.chs f n hf))).toArray ++ Array.replicate (grownCap w (Rn.rl (Rn.chs f n hf)).length 0 21 - (Rn.rl (Rn.chs f n hf)).length) (.int .i32 0)) 21)).heap[w.heap.size]? = some _ := World.alloc_heap_new w.drew _
    rw [Lib.cell_of_heap hh]
    simp only [Nat.zero_add]
    rw [Array.getElem?_append_left (by simp [Rn.rv]; exact hj)]
    simp [Rn.rv, hj]
  · exact (Below.refl w.heap.size w).drew.alloc (Nat.le_refl _) _
  · refine ⟨_, World.alloc_heap_new w.drew _, ?_⟩
    have := grownCap_ge w (Rn.rl (Rn.chs f n hf)).length 0 21
    simp [Rn.rv] at *
    omega

end Go.Proofs.YtcmjipgigkalcaaDoor
/-
  Plain mathematics: the bytes of a rune, told by their place: they are one whole character; each shorter beginning waits.
-/
namespace Go.Proofs.YtcmjipgigkalcaaDoor.Rn
open Go.Lib

theorem len_congr {n a0 a1 a2 a3 b0 b1 b2 b3 : Nat} (h0 : 0 < n → a0 = b0) (h1 : 1 < n → a1 = b1) (h2 : 2 < n → a2 = b2) (h3 : 3 < n → a3 = b3) : len n a0 a1 a2 a3 = len n b0 b1 b2 b3 := by
  by_cases c0 : 0 < n
  · obtain rfl := h0 c0
    by_cases c1 : 1 < n
    · obtain rfl := h1 c1
      by_cases c2 : 2 < n
      · obtain rfl := h2 c2
        by_cases c3 : 3 < n
        · rw [h3 c3]
        · obtain rfl : n = 3 := by omega
          simp [len]
      · obtain rfl : n = 2 := by omega
        simp [len]
    · obtain rfl : n = 1 := by omega
      simp [len]
  · obtain rfl : n = 0 := by omega
    simp [len]
theorem fk_congr {f g : Nat → Nat} {n : Nat} (h : ∀ j, j < n → f j = g j) : fk f n = fk g n := len_congr (h 0) (h 1) (h 2) (h 3)
theorem fs_congr {f g : Nat → Nat} {n : Nat} (h : ∀ j, j < n → f j = g j) : fs f n = fs g n := by
  unfold fs
  split
  · rfl
  · rw [h 0 (by omega)]
theorem whole_congr {f g : Nat → Nat} {n : Nat} (h : ∀ j, j < n → f j = g j) : whole f n = whole g n := by unfold whole; rw [fk_congr h, fs_congr h]
theorem waits_congr {f g : Nat → Nat} {n : Nat} (h : ∀ j, j < n → f j = g j) : waits f n = waits g n := by unfold waits; rw [fk_congr h, fs_congr h]
theorem fv_congr {f g : Nat → Nat} {n : Nat} (hw : whole f n = true) (h : ∀ j, j < n → f j = g j) : fv f = fv g := by
  simp only [whole, decide_eq_true_eq] at hw
  have hle := fk_le f n
  have hn : ¬ n = 0 := by
    intro e
    subst e
    simp [fs] at hw
  have e0 : fs f n = size (f 0) := by unfold fs; rw [if_neg hn]
  rw [e0] at hw
  have h0 := h 0 (by omega)
  unfold fv val
  rw [← h0]
  by_cases c1 : size (f 0) = 1
  · simp [c1]
  by_cases c2 : size (f 0) = 2
  · simp only [c2, Nat.reduceEqDiff, if_false, if_true]
    rw [h 1 (by omega)]
  by_cases c3 : size (f 0) = 3
  · simp only [c3, Nat.reduceEqDiff, if_false, if_true]
    rw [h 1 (by omega), h 2 (by omega)]
  · have c4 : size (f 0) = 4 := by have := size_le (f 0); omega
    simp only [c4, Nat.reduceEqDiff, if_false]
    rw [h 1 (by omega), h 2 (by omega), h 3 (by omega)]

theorem good_waits {f : Nat → Nat} {n : Nat} (h : waits f n = true) : good f n = n := by
  have hn : ¬ n = 0 := by
    intro e
    subst e
    simp [waits, fs] at h
  have hw : whole f n = false := by
    simp only [whole, waits, decide_eq_true_eq, decide_eq_false_iff_not] at *
    omega
  obtain ⟨m, rfl⟩ : ∃ m, n = m + 1 := ⟨n - 1, by omega⟩
  unfold good goodFrom
  rw [if_neg (by omega), off_zero, Nat.sub_zero, hw]
  simp only [waits, decide_eq_true_eq] at h
  simp
  omega
theorem good_whole {f : Nat → Nat} {n : Nat} (h : whole f n = true) (hs : fs f n = n) : good f n = n := by
  have hn : ¬ n = 0 := by
    intro e
    subst e
    simp [whole, fs] at h
  obtain ⟨m, rfl⟩ : ∃ m, n = m + 1 := ⟨n - 1, by omega⟩
  unfold good goodFrom
  rw [if_neg (by omega), off_zero, Nat.sub_zero, h, hs]
  simp only [if_true, Nat.zero_add]
  exact goodFrom_end _ _ _ _ (Nat.le_refl _)

/-- the bytes of a rune, by their place; how many they are; the character that is written -/
def eb (r : Int) : Nat → Nat := fun j => ((encodeRuneZ r)[j]?.getD 0).toNat
def el (r : Int) : Nat := (encodeRuneZ r).length
def want (r : Int) : Int := if r < 0 ∨ 1114111 < r ∨ (55296 ≤ r ∧ r ≤ 57343) then 65533 else r
theorem eb_lt (r : Int) : ∀ j, eb r j < 256 := by
  intro j
  unfold eb
  rcases h : (encodeRuneZ r)[j]? with _ | x
  · simp
  · have := encodeRuneZ_byte r x (List.mem_of_getElem? h)
    simp only [Option.getD_some]
    omega
theorem el_pos (r : Int) : 1 ≤ el r ∧ el r ≤ 4 := encodeRuneZ_length r

/-- what is known of a rune's bytes, by how many they are -/
inductive Enc (f : Nat → Nat) (n v : Nat) : Prop
  | one (hn : n = 1) (h0 : f 0 = v) (hv : v < 128)
  | two (hn : n = 2) (h0 : f 0 = 192 + v / 64) (h1 : f 1 = 128 + v % 64) (hv : 128 ≤ v) (hv2 : v < 2048)
  | three (hn : n = 3) (h0 : f 0 = 224 + v / 4096) (h1 : f 1 = 128 + v / 64 % 64) (h2 : f 2 = 128 + v % 64) (hv : 2048 ≤ v) (hv2 : v < 65536) (hv3 : v < 55296 ∨ 57343 < v)
  | four (hn : n = 4) (h0 : f 0 = 240 + v / 262144) (h1 : f 1 = 128 + v / 4096 % 64) (h2 : f 2 = 128 + v / 64 % 64) (h3 : f 3 = 128 + v % 64) (hv : 65536 ≤ v) (hv2 : v < 1114112)
theorem eb_enc (r : Int) : Enc (eb r) (el r) (want r).toNat := by
  by_cases h : r < 0 ∨ (55296 ≤ r ∧ r ≤ 57343) ∨ 1114111 < r
  · have e := encodeRuneZ_bad h
    have w : want r = 65533 := by unfold want; rw [if_pos (by omega)]
    rw [w]
    refine .three ?_ ?_ ?_ ?_ (by decide) (by decide) (by decide)
    · simp [el, e]
    all_goals simp [eb, e]
  · have w : want r = r := by unfold want; rw [if_neg (by omega)]
    rw [w]
    by_cases h1 : r ≤ 127
    · have e := encodeRuneZ_one (r := r) (by omega) h1
      exact .one (by simp [el, e]) (by simp [eb, e]) (by omega)
    by_cases h2 : r ≤ 2047
    · have e := encodeRuneZ_two (r := r) (by omega) h2
      exact .two (by simp [el, e]) (by simp [eb, e]; omega) (by simp [eb, e]; omega) (by omega) (by omega)
    by_cases h3 : r ≤ 65535
    · have e := encodeRuneZ_three (r := r) (by omega)
      exact .three (by simp [el, e]) (by simp [eb, e]; omega) (by simp [eb, e]; omega) (by simp [eb, e]; omega) (by omega) (by omega) (by omega)
    · have e := encodeRuneZ_four (r := r) (by omega) (by omega)
      exact .four (by simp [el, e]) (by simp [eb, e]; omega) (by simp [eb, e]; omega) (by simp [eb, e]; omega) (by simp [eb, e]; omega) (by omega) (by omega)
theorem Enc.fs {f : Nat → Nat} {n v : Nat} (h : Enc f n v) : size (f 0) = n := by
  cases h with
  | one hn h0 hv => rcases size_cases (f 0) with h | h | h | h | h <;> omega
  | two hn h0 h1 hv hv2 => rcases size_cases (f 0) with h | h | h | h | h <;> omega
  | three hn h0 h1 h2 hv hv2 hv3 => rcases size_cases (f 0) with h | h | h | h | h <;> omega
  | four hn h0 h1 h2 h3 hv hv2 => rcases size_cases (f 0) with h | h | h | h | h <;> omega
theorem Enc.fk {f : Nat → Nat} {n v : Nat} (h : Enc f n v) : Rn.fk f n = n := by
  have hs := h.fs
  unfold Rn.fk
  cases h with
  | one hn h0 hv => subst hn; rw [len1 hs]; omega
  | two hn h0 h1 hv hv2 =>
    subst hn
    rw [len2 hs]
    rcases size_cases (f 0) with h | ⟨_, _, _, _, _⟩ | h | h | h <;> omega
  | three hn h0 h1 h2 hv hv2 hv3 =>
    subst hn
    rw [len3 hs]
    rcases size_cases (f 0) with h | h | ⟨_, _, _, h | h | h⟩ | h | h <;> omega
  | four hn h0 h1 h2 h3 hv hv2 =>
    subst hn
    rw [len4 hs]
    rcases size_cases (f 0) with h | h | h | ⟨_, _, _, h | h | h⟩ | h <;> omega
theorem Enc.fv {f : Nat → Nat} {n v : Nat} (h : Enc f n v) : Rn.fv f = v := by
  have hs := h.fs
  unfold Rn.fv val
  rw [hs]
  cases h with
  | one hn h0 hv => subst hn; simp [h0]
  | two hn h0 h1 hv hv2 => subst hn; simp only [Nat.reduceEqDiff, if_false, if_true]; omega
  | three hn h0 h1 h2 hv hv2 hv3 => subst hn; simp only [Nat.reduceEqDiff, if_false, if_true]; omega
  | four hn h0 h1 h2 h3 hv hv2 => subst hn; simp only [Nat.reduceEqDiff, if_false]; omega
theorem Enc.pos {f : Nat → Nat} {n v : Nat} (h : Enc f n v) : 0 < n ∧ n ≤ 4 := by cases h <;> omega
theorem Enc.fsn {f : Nat → Nat} {n v : Nat} (h : Enc f n v) : Rn.fs f n = n := by
  have := h.pos
  unfold Rn.fs
  rw [if_neg (by omega)]
  exact h.fs
theorem Enc.whole {f : Nat → Nat} {n v : Nat} (h : Enc f n v) : Rn.whole f n = true := by
  have := h.pos
  have a := h.fk
  have b := h.fsn
  unfold Rn.whole
  rw [a, b]
  simp; omega
theorem Enc.waits {f : Nat → Nat} {n v : Nat} (h : Enc f n v) {m : Nat} (hm : 0 < m) (hmn : m < n) : Rn.waits f m = true := by
  have a := h.fk
  have b := h.fs
  have e := fk_min f (m := m) (n := n) (by omega) (by omega)
  have e1 : Rn.fs f m = n := by unfold Rn.fs; rw [if_neg (by omega)]; exact b
  unfold Rn.waits
  rw [e, e1, a]
  simp; omega
end Go.Proofs.YtcmjipgigkalcaaDoor.Rn
/-
  Plain mathematics: what is made of characters is read as these characters.
-/
namespace Go.Proofs.YtcmjipgigkalcaaDoor.Rn
open Go.Lib

/-- a list's bytes by their place -/
def lf (l : List UInt8) : Nat → Nat := fun j => (l[j]?.getD 0).toNat
theorem lf_lt (l : List UInt8) : ∀ j, lf l j < 256 := fun j => (l[j]?.getD 0).toNat_lt
theorem arr_lf (l : List UInt8) : arr (lf l) l.length = ⟨l.toArray⟩ := by
  have e : (arr (lf l) l.length).data = l.toArray := by
    apply Array.ext
    · simp [arr]
    · intro i h1 h2
      simp [arr, lf]
  exact congrArg ByteArray.mk e
theorem off_lf (A B : List UInt8) : off (lf (A ++ B)) A.length = lf B := by
  funext j
  simp only [off, lf]
  rw [List.getElem?_append_right (by omega), Nat.add_sub_cancel_left]

/-- a character's number -/
def scal (r : Nat) : Prop := r < 1114112 ∧ ¬ (55296 ≤ r ∧ r ≤ 57343)
theorem fv_scal (f : Nat → Nat) (n : Nat) (h : whole f n = true) : scal (fv f) := by
  simp only [whole, decide_eq_true_eq] at h
  have hn : ¬ n = 0 := by
    intro e
    subst e
    simp [fs] at h
  have e0 : fs f n = size (f 0) := by unfold fs; rw [if_neg hn]
  rw [e0] at h
  unfold scal fv val
  have hk := h.2
  unfold fk at hk
  rcases size_cases (f 0) with ⟨e, c⟩ | ⟨e, c, d, l, hh⟩ | ⟨e, c, d, hh⟩ | ⟨e, c, d, hh⟩ | ⟨e, c, d⟩
  · rw [e]; simp only [if_true]; omega
  · rw [e] at hk ⊢
    rw [len2 e] at hk
    simp only [Nat.reduceEqDiff, if_false, if_true]
    omega
  · rw [e] at hk ⊢
    rw [len3 e] at hk
    simp only [Nat.reduceEqDiff, if_false, if_true]
    omega
  · rw [e] at hk ⊢
    rw [len4 e] at hk
    simp only [Nat.reduceEqDiff, if_false]
    omega
  · omega
theorem dec_scal (f : Nat → Nat) (n : Nat) (hf : ∀ j, f j < 256) (hn : 0 < n) : scal (dec f n).1 := by
  rw [dec_whole f n hf hn]
  split
  · next h => exact fv_scal f n h
  · exact ⟨by decide, by decide⟩
theorem chFrom_scal (f : Nat → Nat) (n : Nat) (hf : ∀ j, f j < 256) : ∀ fuel p, ∀ r ∈ rl (chFrom f n hf fuel p), scal r
  | 0, _ => by simp [chFrom, rl]
  | fuel + 1, p => by
    unfold chFrom
    split
    · next h =>
      intro r hr
      simp only [rl, List.map_cons, List.mem_cons] at hr
      rcases hr with rfl | hr
      · exact dec_scal _ _ (fun _ => hf _) (by omega)
      · exact chFrom_scal f n hf fuel _ r hr
    · simp [rl]
theorem chs_scal (f : Nat → Nat) (n : Nat) (hf : ∀ j, f j < 256) : ∀ r ∈ rl (chs f n hf), scal r := chFrom_scal f n hf n 0

/-- the bytes of these characters -/
def cat (L : List Nat) : List UInt8 := L.flatMap fun (r : Nat) => encodeRune r
theorem md_cat {n : Nat} (xs : List (Chr n)) : md xs = cat (rl xs) := by
  simp [md, cat, rl, List.flatMap_map]
theorem cat_append (L M : List Nat) : cat (L ++ M) = cat L ++ cat M := by simp [cat]
theorem cat_cons (r : Nat) (L : List Nat) : cat (r :: L) = encodeRune r ++ cat L := by simp [cat]
theorem enc_length (r : Int) : (encodeRune r).length = el r := by simp [encodeRune, el]
theorem enc_get (r : Int) (j : Nat) : lf (encodeRune r) j = eb r j := by
  unfold lf eb encodeRune
  rcases h : (encodeRuneZ r)[j]? with _ | x
  · simp [h]
  · have := encodeRuneZ_byte r x (List.mem_of_getElem? h)
    simp [h]
    omega
theorem dec_enc (r : Nat) (hr : scal r) (f : Nat → Nat) (n : Nat) (hf : ∀ j, f j < 256) (hn : el r ≤ n) (h : ∀ j, j < el r → f j = eb r j) : dec f n = (r, el r) := by
  have hw : (want r).toNat = r := by
    unfold want
    unfold scal at hr
    rw [if_neg (by omega)]
    omega
  have E := eb_enc r
  rw [hw] at E
  have hp := el_pos r
  have es : size (f 0) = el r := by rw [h 0 (by omega)]; exact E.fs
  have e1 : fk f (el r) = el r := (fk_congr h).trans E.fk
  have e2 := fk_min f hn (by omega)
  have e3 : fs f n = el r := by unfold fs; rw [if_neg (by omega)]; exact es
  have e4 := fk_le_fs f n
  have ew : whole f n = true := by simp only [whole, decide_eq_true_eq]; omega
  have ew2 : whole f (el r) = true := (whole_congr h).trans E.whole
  rw [dec_whole f n hf (by omega), ew, if_pos rfl, e3, fv_congr ew2 h, E.fv]

/-- these characters' places, from a place on -/
def spots : Nat → List Nat → List (Nat × Nat)
  | _, [] => []
  | p, r :: L => (p, r) :: spots (p + el r) L
theorem spots_snd : ∀ (L : List Nat) (p : Nat), (spots p L).map (·.2) = L
  | [], _ => rfl
  | r :: L, p => by simp [spots, spots_snd L]
theorem chFrom_cat (l : List UInt8) : ∀ (L : List Nat), (∀ r ∈ L, scal r) → ∀ (A : List UInt8) (fuel : Nat), l = A ++ cat L → (cat L).length ≤ fuel →
    (chFrom (lf l) l.length (lf_lt l) fuel A.length).map (·.1) = spots A.length L
  | [], _, A, fuel, hl, _ => by
    rw [chFrom_end _ _ _ _ _ (by rw [hl]; simp [cat])]
    rfl
  | r :: L, hL, A, fuel, hl, hfu => by
    have hp := el_pos r
    rw [cat_cons] at hl hfu
    rw [List.length_append, enc_length] at hfu
    obtain ⟨m, rfl⟩ : ∃ m, fuel = m + 1 := ⟨fuel - 1, by omega⟩
    have hlen : l.length = A.length + (el r + (cat L).length) := by rw [hl]; simp [enc_length]
    have hd : dec (off (lf l) A.length) (l.length - A.length) = (r, el r) := by
      refine dec_enc r (hL r (by simp)) _ _ (fun _ => lf_lt l _) (by omega) (fun j hj => ?_)
      rw [hl, off_lf, ← enc_get]
      unfold lf
      rw [List.getElem?_append_left (by rw [enc_length]; exact hj)]
    unfold chFrom
    rw [dif_pos (by omega)]
    have ih := chFrom_cat l L (fun q hq => hL q (by simp [hq])) (A ++ encodeRune r) m (by rw [hl]; simp) (by omega)
    rw [List.length_append, enc_length] at ih
    simp only [List.map_cons, hd, spots]
    rw [← ih]
theorem chs_cat (L : List Nat) (hL : ∀ r ∈ L, scal r) : (chs (lf (cat L)) (cat L).length (lf_lt _)).map (·.1) = spots 0 L :=
  chFrom_cat (cat L) L hL [] _ rfl (Nat.le_refl _)
theorem rl_cat (L : List Nat) (hL : ∀ r ∈ L, scal r) : rl (chs (lf (cat L)) (cat L).length (lf_lt _)) = L := by
  have h := congrArg (List.map (·.2)) (chs_cat L hL)
  rw [spots_snd, List.map_map] at h
  exact h
end Go.Proofs.YtcmjipgigkalcaaDoor.Rn
