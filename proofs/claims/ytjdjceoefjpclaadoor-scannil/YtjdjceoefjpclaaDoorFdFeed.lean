import Derived.Test.YtjdjceoefjpclaaDoorRnEnc
import Derived.LoopTactic
import Derived.Lib.SmallJoins
import Derived.Laws.AppendOwnNone
import Derived.Test.YtjdjceoefjpclaaDoorFdMath
import Derived.Deep.RegionHeld3
import Derived.Deep.QuietTactic
import Derived.BigQuiet
/-
  THE WALK over runes.Good.
-/
namespace Go.Proofs.YtjdjceoefjpclaaDoor
open Go.RowKit Go.Lib
set_option maxHeartbeats 2000000 in
/-- Good AT EVERY SLICE OF BYTES THAT IS NOT nil -/
theorem good_any (f : Nat → Nat) (n b off cap : Nat) (w : World) (hT : Lib.Utf8Tabs 2 3 w) (hf : ∀ j, f j < 256) (hc : n ≤ cap) (hm : cap ≤ maxLen)
    (hp : Bytes w b off n f) :
    Calls Tryd.prog 85 #[.slice (some ⟨b, off, none⟩) n cap] w fun e w' => e = .returned (.int .i64 (Rn.good f n)) ∧ Below w.heap.size w w' := by
  have hm' : cap ≤ 9223372036854775807 := by unfold maxLen at hm; omega
  have hgl := Rn.good_le f n
  have cN : ∀ k w1, k < n → Below w.heap.size w w1 → _ := fun k w1 hk hb => next_in f n b off cap k w1 (tabs_below hT hb (Nat.le_refl _)) hf hk hc hm (hp.below hb (Nat.le_refl _))
  have cE : ∀ w1, _ := fun w1 => next_done b off n cap w1 hc hm
  have cB : ∀ k w1, k < n → Below w.heap.size w w1 → Rn.whole (Rn.off f k) (n - k) = false → _ := fun k w1 hk hb hw => beginning_any (Rn.off f k) (n - k) b (off + k) (cap - k) w1 (tabs_below hT hb (Nat.le_refl _)) (fun j => hf _) (by omega) (by omega) ((hp.below hb (Nat.le_refl _)).off (by omega)) hw
  clear hT hp
  go_enter Tryd.func85, Tryd.ntmps85
  go_wp2
  go_loopw [3] (fun i wr => ∃ (k fuel : Nat), i = .int .i64 k ∧ k ≤ n ∧ n ≤ k + fuel ∧ Rn.goodFrom f n fuel k = Rn.good f n ∧ Below w.heap.size w wr) (fun i _ => n - (RowKit.intOf i).toNat)
  case atStart => exact ⟨0, n, rfl, Nat.zero_le _, by omega, rfl, Below.refl _ _⟩
  case round =>
    obtain ⟨k, fuel, rfl, hk, hfu, hg, hb⟩ := hrel
    by_cases hlt : k < n
    · obtain ⟨m, rfl⟩ : ∃ m, fuel = m + 1 := ⟨fuel - 1, by omega⟩
      have c := cN k wr hlt hb
      unfold Rn.goodFrom at hg
      rw [if_neg (by omega)] at hg
      clear cN cE
      cases hwh : Rn.whole (Rn.off f k) (n - k)
      · simp only [hwh, Bool.false_eq_true, if_false] at hg
        have cb := fun w1 hb1 => cB k w1 hlt hb1 hwh
        clear cB
        cases hwa : Rn.waits (Rn.off f k) (n - k)
        · rw [Rn.nx_bad (by omega) hwa hwh] at c
          have HG : Hid (k + Rn.fk (Rn.off f k) (n - k) = Rn.good f n) := hg
          clear hwa hwh hg
          have hle := Rn.fk_le (Rn.off f k) (n - k)
          go_wp2_with fail
          refine c.mono ?_
          rintro e w1 ⟨rfl, hb1⟩
          go_wp2_with fail
          refine (cb w1 (hb.trans (hb1.mono hb.size))).mono ?_
          rintro e w2 ⟨rfl, hb2⟩
          go_wp2_with fail
          go_ret
          exact ⟨by rw [← HG.out]; go_num, (hb.trans (hb1.mono hb.size)).trans (hb2.mono (hb.trans (hb1.mono hb.size)).size)⟩
        · obtain ⟨e1, e2⟩ := Rn.nx_waits hwa
          rw [e1] at c
          rw [e2] at hg
          have HG : Hid (k + (n - k) = Rn.good f n) := hg
          clear hwa hwh hg e1 e2 cb
          go_wp2_with fail
          refine c.mono ?_
          rintro e w1 ⟨rfl, hb1⟩
          go_wp2_with fail
          go_roundw
          case rel => exact ⟨n, m, by go_num, Nat.le_refl _, by omega, by rw [Rn.goodFrom_end _ _ _ _ (Nat.le_refl _), ← HG.out]; omega, hb.trans (hb1.mono hb.size)⟩
          case measure => simp [RowKit.intOf]; omega
      · simp only [hwh, if_true] at hg
        rw [Rn.nx_whole hwh] at c
        have HG : Hid (Rn.goodFrom f n m (k + Rn.fs (Rn.off f k) (n - k)) = Rn.good f n) := hg
        have hle := Rn.fk_le (Rn.off f k) (n - k)
        simp only [Rn.whole, decide_eq_true_eq] at hwh
        have hpos := hwh.1
        have hle2 : Rn.fs (Rn.off f k) (n - k) ≤ n - k := by omega
        clear hg hwh cB hle
        generalize Rn.fs (Rn.off f k) (n - k) = q at *
        go_wp2_with fail
        refine c.mono ?_
        rintro e w1 ⟨rfl, hb1⟩
        go_wp2_with fail
        go_roundw
        case rel => exact ⟨k + q, m, by go_num, by omega, by omega, HG.out, hb.trans (hb1.mono hb.size)⟩
        case measure => simp [RowKit.intOf]; omega
    · obtain rfl : k = n := by omega
      rw [Rn.goodFrom_end _ _ _ _ (Nat.le_refl _)] at hg
      have HG : Hid (k = Rn.good f k) := hg
      clear hg cN cB
      go_wp2_with fail
      refine (cE wr).mono ?_
      rintro e w1 ⟨rfl, rfl⟩
      go_wp2_with fail
      go_ret
      exact ⟨by rw [← HG.out]; rfl, hb⟩
end Go.Proofs.YtjdjceoefjpclaaDoor
/-
  WALKS over the document's answer for layer 1 (gimletref01): size, goes, Front, value.
-/
namespace Go.Proofs.YtjdjceoefjpclaaDoor
open Go.RowKit Go.Lib

theorem ret_bool' {a b : Bool} (h : a = b) : Ending.returned (.bool a) = .returned (.bool b) := by rw [h]
/-- can y be the second byte behind x? -/
def goesB (x y : Nat) : Bool := decide (Rn.lo x ≤ y ∧ y ≤ Rn.hi x)
namespace Rn
theorem lo_ge (x : Nat) : 128 ≤ lo x := by unfold lo; repeat' split
                                           all_goals omega
theorem hi_le (x : Nat) : hi x ≤ 191 := by unfold hi; repeat' split
                                           all_goals omega
/-- the front goes on past k bytes just where the next byte fits -/
theorem fk_step (f : Nat → Nat) (n k : Nat) (h1 : 1 ≤ k) (h2 : k ≤ fk f n) (h3 : k < size (f 0)) (h4 : k < n) :
    k < fk f n ↔ (k = 1 → lo (f 0) ≤ f 1 ∧ f 1 ≤ hi (f 0)) ∧ 128 ≤ f k ∧ f k ≤ 191 := by
  have a := lo_ge (f 0)
  have b := hi_le (f 0)
  have c := size_le (f 0)
  have hk : k = 1 ∨ k = 2 ∨ k = 3 := by omega
  rcases hk with rfl | rfl | rfl
  all_goals
    unfold fk len at h2 ⊢
    revert h2
    repeat' split
    all_goals omega
end Rn

end Go.Proofs.YtjdjceoefjpclaaDoor
/-
  THE WALK over gimletref01.value, of a whole character's bytes.
-/
namespace Go.Proofs.YtjdjceoefjpclaaDoor
open Go.RowKit Go.Lib

namespace Rn
/-- the value of the first k bytes -/
def pv (f : Nat → Nat) (base : Int) : Nat → Int
  | 0 => 0
  | 1 => f 0 - base
  | k + 2 => 64 * pv f base (k + 1) + f (k + 1) - 128
theorem pv_succ (f : Nat → Nat) (base : Int) {k : Nat} (hk : 1 ≤ k) : pv f base (k + 1) = 64 * pv f base k + f k - 128 := by
  obtain ⟨j, rfl⟩ : ∃ j, k = j + 1 := ⟨k - 1, by omega⟩
  rfl
/-- what is known of the bytes of a whole character -/
inductive Whl (f : Nat → Nat) (n : Nat) : Prop
  | one (hn : n = 1) (h : fv f = f 0)
  | two (hn : n = 2) (h0 : 194 ≤ f 0) (h0' : f 0 ≤ 223) (h1 : 128 ≤ f 1) (h1' : f 1 ≤ 191) (h : (fv f : Int) = pv f 192 2)
  | three (hn : n = 3) (h0 : 224 ≤ f 0) (h0' : f 0 ≤ 239) (h1 : 128 ≤ f 1) (h1' : f 1 ≤ 191) (h2 : 128 ≤ f 2) (h2' : f 2 ≤ 191) (h : (fv f : Int) = pv f 224 3)
  | four (hn : n = 4) (h0 : 240 ≤ f 0) (h0' : f 0 ≤ 244) (h1 : 128 ≤ f 1) (h1' : f 1 ≤ 191) (h2 : 128 ≤ f 2) (h2' : f 2 ≤ 191) (h3 : 128 ≤ f 3) (h3' : f 3 ≤ 191) (h : (fv f : Int) = pv f 240 4)
theorem whl_of {f : Nat → Nat} {n : Nat} (h : whole f n = true) (hs : fs f n = n) : Whl f n := by
  simp only [whole, decide_eq_true_eq] at h
  have hn : ¬ n = 0 := by omega
  have e0 : fs f n = size (f 0) := by unfold fs; rw [if_neg hn]
  have hk : fk f n = n := by omega
  have hz : size (f 0) = n := by omega
  have a := lo_ge (f 0)
  have b := hi_le (f 0)
  unfold fk at hk
  rcases size_cases (f 0) with ⟨e, c⟩ | ⟨e, c, d, _⟩ | ⟨e, c, d, _⟩ | ⟨e, c, d, _⟩ | ⟨e, c⟩
  · exact .one (by omega) (by simp [fv, val, e])
  · obtain rfl : n = 2 := by omega
    have := (len2 e).1 hk
    refine .two rfl c d (by omega) (by omega) ?_
    simp only [fv, val, e, pv, Nat.reduceAdd, Nat.reduceEqDiff, if_false, if_true]
    omega
  · obtain rfl : n = 3 := by omega
    have := (len3 e).1 hk
    refine .three rfl c d (by omega) (by omega) (by omega) (by omega) ?_
    simp only [fv, val, e, pv, Nat.reduceAdd, Nat.reduceEqDiff, if_false, if_true]
    omega
  · obtain rfl : n = 4 := by omega
    have := (len4 e).1 hk
    refine .four rfl c d (by omega) (by omega) (by omega) (by omega) (by omega) (by omega) ?_
    simp only [fv, val, e, pv, Nat.reduceAdd, Nat.reduceEqDiff, if_false]
    omega
  · omega
/-- a whole character, alone -/
theorem whole_self {f : Nat → Nat} {n : Nat} (h : whole f n = true) : whole f (fs f n) = true ∧ fs f (fs f n) = fs f n := by
  simp only [whole, decide_eq_true_eq] at h
  have hle := fk_le f n
  have hn : ¬ n = 0 := by
    intro e
    subst e
    simp [fs] at h
  have e0 : fs f n = size (f 0) := by unfold fs; rw [if_neg hn]
  have e1 : fs f (fs f n) = size (f 0) := by rw [e0]; unfold fs; rw [if_neg (by omega)]
  have e2 := fk_min f (m := fs f n) (n := n) (by omega) (by omega)
  refine ⟨?_, by omega⟩
  simp only [whole, decide_eq_true_eq]
  omega
theorem pv_bound {f : Nat → Nat} {base : Int} {n : Nat} (hn : n ≤ 4) (h0 : base ≤ f 0) (h0' : (f 0 : Int) ≤ base + 31) (h : ∀ j, 1 ≤ j → j < n → 128 ≤ f j ∧ f j ≤ 191) {k : Nat} (hk : 1 ≤ k) (hkn : k ≤ n) : 0 ≤ pv f base k ∧ pv f base k ≤ 8388607 := by
  have : k = 1 ∨ k = 2 ∨ k = 3 ∨ k = 4 := by omega
  have g1 := fun g => h 1 (by omega) g
  have g2 := fun g => h 2 (by omega) g
  have g3 := fun g => h 3 (by omega) g
  rcases this with rfl | rfl | rfl | rfl
  · simp only [pv]; omega
  · have := g1 (by omega); simp only [pv, Nat.reduceAdd]; omega
  · have := g1 (by omega); have := g2 (by omega); simp only [pv, Nat.reduceAdd]; omega
  · have := g1 (by omega); have := g2 (by omega); have := g3 (by omega); simp only [pv, Nat.reduceAdd]; omega
end Rn

end Go.Proofs.YtjdjceoefjpclaaDoor
/-
  WALKS over runes.New, (*Decoder).Take and (*Decoder).Pending.
-/
namespace Go.Proofs.YtjdjceoefjpclaaDoor
open Go.RowKit Go.Lib

namespace Rn
def upd (x : Nat → Nat) (n v : Nat) : Nat → Nat := fun j => if j = n then v else x j
theorem upd_lt {x : Nat → Nat} {n v : Nat} (hx : ∀ j, x j < 256) (hv : v < 256) : ∀ j, upd x n v j < 256 := by
  intro j
  unfold upd
  split
  · exact hv
  · exact hx j
end Rn

structure But (D : Nat) (w w' : World) : Prop where
  os : w'.os = w.os
  tape : w'.tape = w.tape
  output : w'.output = w.output
  size : w.heap.size ≤ w'.heap.size
  block : ∀ k, k < w.heap.size → k ≠ D → w'.heap[k]? = w.heap[k]?
theorem But.of_below {D : Nat} {w w' : World} (h : Below w.heap.size w w') : But D w w' :=
  ⟨h.os, h.tape, h.output, h.size, fun k hk _ => h.block k hk⟩
theorem But.of_alloc {D : Nat} {w w' : World} {o : Obj} (h : Below (w.alloc o).heap.size (w.alloc o) w') : But D w w' :=
  But.of_below (((Below.refl w.heap.size w).alloc (Nat.le_refl _) o).trans (h.mono (by simp)))
theorem But.trans {D : Nat} {a b c : World} (h : But D a b) (k : But D b c) : But D a c :=
  ⟨k.os.trans h.os, k.tape.trans h.tape, k.output.trans h.output, Nat.le_trans h.size k.size, fun i hi hn => (k.block i (Nat.lt_of_lt_of_le hi h.size) hn).trans (h.block i hi hn)⟩
theorem But.setCell {D : Nat} {w w' : World} {p : Addr} (h : But D w w') (hp : p.block = D) (v : Value) : But D w (w'.setCell p v) := by
  have hb := (Below.refl 0 w').setCell (p := p) (Nat.zero_le _) v
  exact ⟨hb.os.trans h.os, hb.tape.trans h.tape, hb.output.trans h.output, Nat.le_trans h.size hb.size, fun k hk hn => (Below.heap_setCell w' p v k (by rw [hp]; exact hn)).trans (h.block k hk hn)⟩
theorem But.below {D B : Nat} {w w' : World} (h : But D w w') (hB : B ≤ D) (hw : B ≤ w.heap.size) : Below B w w' :=
  ⟨h.os, h.tape, h.output, h.size, fun k hk => h.block k (by omega) (by omega)⟩

theorem But.set {D : Nat} {w w' : World} (h : But D w w') (v0 v1 v2 v3 v4 : Value) :
    But D w (((((w'.setCell ⟨D, 0, none⟩ v0).setCell ⟨D, 1, none⟩ v1).setCell ⟨D, 2, none⟩ v2).setCell ⟨D, 3, none⟩ v3).setCell ⟨D, 4, none⟩ v4) :=
  ((((h.setCell (p := ⟨D, 0, none⟩) rfl _).setCell (p := ⟨D, 1, none⟩) rfl _).setCell (p := ⟨D, 2, none⟩) rfl _).setCell (p := ⟨D, 3, none⟩) rfl _).setCell (p := ⟨D, 4, none⟩) rfl _

end Go.Proofs.YtjdjceoefjpclaaDoor
/-
  THE WALK over (*gimletref01.Decoder).Take.
-/
namespace Go.Proofs.YtjdjceoefjpclaaDoor
open Go.RowKit Go.Lib

/-- the first n bytes, as cells -/
def xs (x : Nat → Nat) (n : Nat) : List Value := (List.range n).map fun j => .int .u8 (x j)
theorem xs_length (x : Nat → Nat) (n : Nat) : (xs x n).length = n := by simp [xs]
theorem xs_get (x : Nat → Nat) (n j : Nat) (u : Value) (h : (xs x n)[j]? = some u) : j < n ∧ u = .int .u8 (x j) := by
  unfold xs at h
  rw [List.getElem?_map] at h
  rcases Nat.lt_or_ge j n with hj | hj
  · rw [List.getElem?_range hj] at h
    simp at h
    exact ⟨hj, h.symm⟩
  · rw [List.getElem?_eq_none (by simpa using hj)] at h
    cases h
theorem xs_at (x : Nat → Nat) (n j : Nat) (h : j < n) : (xs x n)[j]? = some (.int .u8 (x j)) := by
  unfold xs
  rw [List.getElem?_map, List.getElem?_range h]
  rfl
theorem xs_upd (x : Nat → Nat) (n v : Nat) : xs x n ++ [.int .u8 v] = xs (Rn.upd x n v) (n + 1) := by
  apply List.ext_getElem?
  intro j
  rcases Nat.lt_trichotomy j n with h | h | h
  · rw [List.getElem?_append_left (by rw [xs_length]; exact h), xs_at _ _ _ h, xs_at _ _ _ (by omega)]
    simp [Rn.upd, Nat.ne_of_lt h]
  · subst h
    rw [List.getElem?_append_right (by rw [xs_length]; omega), xs_length, xs_at _ _ _ (by omega)]
    simp [Rn.upd]
  · rw [List.getElem?_eq_none (by simp [xs_length]; omega), List.getElem?_eq_none (by rw [xs_length]; omega)]
theorem bytes_of_owns {w : World} {B g n cap : Nat} {x : Nat → Nat} (h : w.ownsRow B 5 1 (.slice (some ⟨g, 0, none⟩) n cap) n (xs x n)) : Bytes w g 0 n x := by
  intro j hj
  have := h.cells (g := g) rfl j _ (xs_at x n j hj)
  rw [show (Addr.add ⟨g, 0, none⟩ j) = ⟨g, 0 + j, none⟩ by simp [Addr.add]; omega] at this
  exact this

theorem infoByte' : (Tryd.prog.info? 5).map (fun i => (i.zero, i.size, i.bytes)) = some (some (.int .u8 0), 1, 1) := by kernel_rfl

theorem owns_empty (w : World) : (w.alloc (.cells #[] 5)).ownsRow w.heap.size 5 1 (.slice (some ⟨w.heap.size, 0, none⟩) 0 0) 0 [] :=
  ⟨rfl, .inr ⟨w.heap.size, 0, #[], rfl, Nat.le_refl _, (by show (w.heap.push _)[w.heap.size]? = _; simp), Nat.le_refl _, by decide, rfl, rfl⟩⟩
theorem one_news (W : World) (v : Nat) : ∀ j u, ([.int .u8 v] : List Value)[j]? = some u → (W.alloc (.cells #[.int .u8 v] 5)).cell? (Addr.add ⟨W.heap.size, 0, none⟩ j) = some u := by
  intro j u hj
  match j, hj with
  | 0, hj => simp at hj; subst hj; simp [Addr.add]
  | (j + 1), hj => simp at hj
theorem one_cell (x : Nat → Nat) (n : Nat) : ∀ u ∈ xs x n, u.oneCell' = true := by
  intro u hu
  unfold xs at hu
  obtain ⟨j, _, rfl⟩ := List.mem_map.1 hu
  rfl
theorem one_cell' (v : Nat) : ∀ u ∈ ([.int .u8 v] : List Value), u.oneCell' = true := by
  intro u hu
  simp at hu
  subst hu
  rfl

theorem kept_grown {w w' : World} {B : Nat} {e : TypeId} {size : Nat} {v : Value} {n : Nat} {ys : List Value} (h : w.ownsRow B e size v n ys) (hk : ∀ g, v.ownBlock = some g → w'.heap[g]? = w.heap[g]?) : w'.ownsRow B e size v n ys := by
  refine ⟨h.1, ?_⟩
  rcases h.2 with h1 | ⟨g, cap, cur, hv, hb, hg, rest⟩
  · exact .inl h1
  · exact .inr ⟨g, cap, cur, hv, hb, (hk g (by rw [hv]; rfl)).trans hg, rest⟩
theorem _root_.Go.World.ownsRow.kept_below {w w' : World} {B : Nat} {e : TypeId} {size : Nat} {v : Value} {n : Nat} {ys : List Value} (h : w.ownsRow B e size v n ys) (hb : Below w.heap.size w w') : w'.ownsRow B e size v n ys :=
  kept_grown h fun g hg => hb.block g (h.lt g hg).2
theorem _root_.Go.World.ownsRow.setOther {w : World} {B : Nat} {e : TypeId} {size : Nat} {v : Value} {n : Nat} {ys : List Value} (h : w.ownsRow B e size v n ys) {k i : Nat} (hk : v.ownBlock ≠ some k) (u : Value) : (w.setCell ⟨k, i, none⟩ u).ownsRow B e size v n ys :=
  kept_grown h fun g hg => Below.heap_setCell w ⟨k, i, none⟩ u g (fun e => hk (by rw [hg]; exact congrArg some e))
theorem _root_.Go.World.ownsRow.base {w : World} {B B' : Nat} {e : TypeId} {size : Nat} {v : Value} {n : Nat} {ys : List Value} (h : w.ownsRow B e size v n ys) (hB : B' ≤ B) : w.ownsRow B' e size v n ys := by
  refine ⟨h.1, ?_⟩
  rcases h.2 with h1 | ⟨g, cap, cur, hv, hb, rest⟩
  · exact .inl h1
  · exact .inr ⟨g, cap, cur, hv, by omega, rest⟩
theorem Bytes.setOther {w : World} {b off n : Nat} {f : Nat → Nat} (h : Bytes w b off n f) {k i : Nat} (hk : b ≠ k) (u : Value) : Bytes (w.setCell ⟨k, i, none⟩ u) b off n f := by
  intro j hj
  have := h j hj
  rw [← this]
  exact World.cell?_of_block (Below.heap_setCell w ⟨k, i, none⟩ u b hk)
namespace Rn
/-- one byte behind bytes that wait: a character of just so many bytes, a beginning of one, or none -/
theorem next_three {f : Nat → Nat} {n : Nat} (h : n = 0 ∨ waits f n = true) :
    (whole f (n + 1) = true ∧ waits f (n + 1) = false ∧ fk f (n + 1) = n + 1 ∧ fs f (n + 1) = n + 1) ∨
    (waits f (n + 1) = true ∧ whole f (n + 1) = false ∧ fk f (n + 1) = n + 1 ∧ n + 1 < fs f (n + 1)) ∨
    (whole f (n + 1) = false ∧ waits f (n + 1) = false ∧ (fs f (n + 1) = 0 ∨ fk f (n + 1) < n + 1)) := by
  have a1 := fk_le f (n + 1)
  have a2 := fk_le_fs f (n + 1)
  have e1 : fs f (n + 1) = size (f 0) := by unfold fs; rw [if_neg (by omega)]
  have hlt : n = 0 ∨ n < size (f 0) := by
    rcases h with h | h
    · exact .inl h
    · simp only [waits, decide_eq_true_eq] at h
      by_cases h0 : n = 0
      · exact .inl h0
      · have e2 : fs f n = size (f 0) := by unfold fs; rw [if_neg h0]
        omega
  by_cases c1 : fs f (n + 1) = 0
  · refine .inr (.inr ⟨?_, ?_, .inl c1⟩)
    · simp [whole, c1]
    · simp [waits, c1]
  · by_cases c2 : fk f (n + 1) < n + 1
    · refine .inr (.inr ⟨?_, ?_, .inr c2⟩)
      · simp only [whole, decide_eq_false_iff_not]; omega
      · simp only [waits, decide_eq_false_iff_not]; omega
    · by_cases c3 : fs f (n + 1) = n + 1
      · refine .inl ⟨?_, ?_, by omega, c3⟩
        · simp only [whole, decide_eq_true_eq]; omega
        · simp only [waits, decide_eq_false_iff_not]; omega
      · refine .inr (.inl ⟨?_, ?_, by omega, by omega⟩)
        · simp only [waits, decide_eq_true_eq]; omega
        · simp only [whole, decide_eq_false_iff_not]; omega
theorem waits_upd {x : Nat → Nat} {n v : Nat} (h : waits x n = true) : waits (upd x n v) n = true := by
  rw [← h]
  exact waits_congr fun j hj => by simp [upd, Nat.ne_of_lt hj]
end Rn

end Go.Proofs.YtjdjceoefjpclaaDoor
/-
  WALKS over feed.New, End, Place, take, lineEnd and wrong.
-/
namespace Go.Proofs.YtjdjceoefjpclaaDoor
open Go.RowKit Go.Lib

/-- a Feed's block, and the row of its bytes -/
def FeedAt (w : World) (D B : Nat) (v : Value) (g : Nat → Nat) (n k wh pb pr pl pc : Nat) (bad ended : Bool) : Prop :=
  w.heap[D]? = some (.cells #[v, .int .i64 k, .int .i64 wh, .int .i64 pb, .int .i64 pr, .int .i64 pl, .int .i64 pc, .bool bad, .bool ended] 95 (0, 0)) ∧ w.ownsRow B 5 1 v n (xs g n)
theorem FeedAt.block_ne {w : World} {D B : Nat} {v : Value} {g : Nat → Nat} {n k wh pb pr pl pc : Nat} {bad ended : Bool} (h : FeedAt w D B v g n k wh pb pr pl pc bad ended) : v.ownBlock ≠ some D := by
  intro e
  rcases h.2.2 with ⟨h1, _⟩ | ⟨q, cap, cur, hv, hb, hg, rest⟩
  · rw [h1] at e; cases e
  · rw [hv] at e
    have : q = D := Option.some.inj e
    subst this
    have := h.1
    rw [hg] at this
    simp at this
theorem FeedAt.cell {w : World} {D B : Nat} {v : Value} {g : Nat → Nat} {n k wh pb pr pl pc : Nat} {bad ended : Bool} (h : FeedAt w D B v g n k wh pb pr pl pc bad ended) :
    w.cell? ⟨D, 0, none⟩ = some v ∧ w.cell? ⟨D, 1, none⟩ = some (.int .i64 k) ∧ w.cell? ⟨D, 2, none⟩ = some (.int .i64 wh) ∧ w.cell? ⟨D, 3, none⟩ = some (.int .i64 pb) ∧ w.cell? ⟨D, 4, none⟩ = some (.int .i64 pr) ∧ w.cell? ⟨D, 5, none⟩ = some (.int .i64 pl) ∧ w.cell? ⟨D, 6, none⟩ = some (.int .i64 pc) ∧ w.cell? ⟨D, 7, none⟩ = some (.bool bad) ∧ w.cell? ⟨D, 8, none⟩ = some (.bool ended) := by
  refine ⟨?_, ?_, ?_, ?_, ?_, ?_, ?_, ?_, ?_⟩ <;> (rw [Lib.cell_of_heap h.1]; rfl)
theorem FeedAt.fz {w : World} {D B : Nat} {v : Value} {g : Nat → Nat} {n k wh pb pr pl pc : Nat} {bad ended : Bool} (h : FeedAt w D B v g n k wh pb pr pl pc bad ended) (i : Nat) : w.frozen? ⟨D, i, none⟩ = false := Lib.frozen_of_heap h.1 i
theorem FeedAt.lt {w : World} {D B : Nat} {v : Value} {g : Nat → Nat} {n k wh pb pr pl pc : Nat} {bad ended : Bool} (h : FeedAt w D B v g n k wh pb pr pl pc bad ended) : D < w.heap.size := block_lt_of_cell h.cell.1
theorem FeedAt.below {w w' : World} {D B : Nat} {v : Value} {g : Nat → Nat} {n k wh pb pr pl pc : Nat} {bad ended : Bool} (h : FeedAt w D B v g n k wh pb pr pl pc bad ended) (hb : Below w.heap.size w w') : FeedAt w' D B v g n k wh pb pr pl pc bad ended :=
  ⟨(hb.block D h.lt).trans h.1, h.2.kept_below hb⟩

set_option maxHeartbeats 400000 in
theorem feedNew_any (w : World) (g : Nat → Nat) (B : Nat) :
    Calls Tryd.prog 44 #[] w fun e w' => e = .returned (.pointer (some ⟨w.heap.size, 0, none⟩)) ∧ FeedAt w' w.heap.size B (.slice none 0 0) g 0 0 0 0 0 1 1 false false ∧ Below w.heap.size w w' ∧ w.heap.size < w'.heap.size := by
  go_enter Tryd.func44, Tryd.ntmps44
  go_wp2
  go_ret
  refine ⟨rfl, ⟨?_, World.ownsRow_nil _ _ _ _⟩, (Below.refl _ _).alloc (Nat.le_refl _) _, by simp⟩
  show (w.heap.push _)[w.heap.size]? = _
  simp

section
variable {D B : Nat} {v : Value} {g : Nat → Nat} {n k wh pb pr pl pc : Nat} {bad ended : Bool} {w : World}

set_option maxHeartbeats 1000000 in
theorem feedWrong_any (h : FeedAt w D B v g n k wh pb pr pl pc bad ended) (m : Nat) (h1 : pb + m < 9223372036854775808) (h2 : pr + m < 9223372036854775808) (h3 : pc + m < 9223372036854775808) :
    Calls Tryd.prog 84 #[.pointer (some ⟨D, 0, none⟩), .int .i64 m] w fun e w' => e = .returned (.tuple #[.agg #[.int .i32 0, .int .i64 (pb + m : Nat), .int .i64 (pr + m : Nat), .int .i64 pl, .int .i64 (pc + m : Nat), .int .i64 0], .int .i64 2]) ∧ Below w.heap.size w w' := by
  obtain ⟨_, _, _, c3, c4, c5, c6, _, _⟩ := h.cell
  have hlt := h.lt
  clear h
  go_enter Tryd.func84, Tryd.ntmps84
  go_wp2
  exact bodyPost_ret (v := .tuple #[.agg #[.int .i32 0, .int .i64 (pb + m : Nat), .int .i64 (pr + m : Nat), .int .i64 pl, .int .i64 (pc + m : Nat), .int .i64 0], .int .i64 2]) (by simp [results, Tryd.results84, go_sem]) rfl ⟨rfl, ((Below.refl _ _).alloc (Nat.le_refl _) _).alloc (by simp) _⟩

set_option maxHeartbeats 2000000 in
/-- take of a line end -/
theorem feedTake_nl (h : FeedAt w D B v g n k wh pb pr pl pc bad ended) (z qb qr ql qc : Nat) (h0 : k + z < 9223372036854775808) (h1 : pb + z < 9223372036854775808) (h2 : pr + z < 9223372036854775808) (h3 : pl + 1 < 9223372036854775808) :
    Calls Tryd.prog 75 #[.pointer (some ⟨D, 0, none⟩), .agg #[.int .i32 10, .int .i64 qb, .int .i64 qr, .int .i64 ql, .int .i64 qc, .int .i64 z]] w fun e w' => e = .returned (.tuple #[]) ∧ FeedAt w' D B v g n (k + z) wh (pb + z) (pr + z) (pl + 1) 1 bad ended ∧ But D w w' := by
  obtain ⟨c0, c1, c2, c3, c4, c5, c6, c7, c8⟩ := h.cell
  have f1 := h.fz 1
  have f3 := h.fz 3
  have f4 := h.fz 4
  have f5 := h.fz 5
  have f6 := h.fz 6
  have hlt := h.lt
  have hne : w.heap.size ≠ D := by omega
  have H := hide' h
  clear h
  go_enter Tryd.func75, Tryd.ntmps75
  go_wp2
  go_region
  go_wp2
  go_region
  go_wp2
  go_region
  go_wp2
  first | go_end0 | (simp only [Exit.inBlock, Exit.then]; refine bodyPost_ret (results_none rfl _ _ _) rfl ?_) | refine bodyPost_ret (results_none rfl _ _ _) rfl ?_
  have hn := H.out.block_ne
  refine ⟨rfl, FeedAt.below ⟨Go.Joins.block_setCell (i := 6) (Go.Joins.block_setCell (i := 5) (Go.Joins.block_setCell (i := 4) (Go.Joins.block_setCell (i := 3) (Go.Joins.block_setCell (i := 1) H.out.1 _) _) _) _) _,
    ((((H.out.2.setOther hn _).setOther hn _).setOther hn _).setOther hn _).setOther hn _⟩ (((((Below.refl _ _).alloc (Nat.le_refl _) _).drew).drew).drew), ?_⟩
  exact (((((((But.of_below (Below.refl _ _)).setCell (p := ⟨D, 1, none⟩) rfl _).setCell (p := ⟨D, 3, none⟩) rfl _).setCell (p := ⟨D, 4, none⟩) rfl _).setCell (p := ⟨D, 5, none⟩) rfl _).setCell (p := ⟨D, 6, none⟩) rfl _)).trans (But.of_below (((((Below.refl _ _).alloc (Nat.le_refl _) _).drew).drew).drew))

set_option maxHeartbeats 2000000 in
/-- take of another character -/
theorem feedTake_ch (h : FeedAt w D B v g n k wh pb pr pl pc bad ended) (r z qb qr ql qc : Nat) (hr : r ≠ 10) (h0 : k + z < 9223372036854775808) (h1 : pb + z < 9223372036854775808) (h2 : pr + 1 < 9223372036854775808) (h3 : pc + 1 < 9223372036854775808) :
    Calls Tryd.prog 75 #[.pointer (some ⟨D, 0, none⟩), .agg #[.int .i32 r, .int .i64 qb, .int .i64 qr, .int .i64 ql, .int .i64 qc, .int .i64 z]] w fun e w' => e = .returned (.tuple #[]) ∧ FeedAt w' D B v g n (k + z) wh (pb + z) (pr + 1) pl (pc + 1) bad ended ∧ But D w w' := by
  obtain ⟨c0, c1, c2, c3, c4, c5, c6, c7, c8⟩ := h.cell
  have f1 := h.fz 1
  have f3 := h.fz 3
  have f4 := h.fz 4
  have f6 := h.fz 6
  have hlt := h.lt
  have hne : w.heap.size ≠ D := by omega
  have hr' : ((r : Int) == 10) = false := by simp; omega
  have H := hide' h
  clear h hr
  go_enter Tryd.func75, Tryd.ntmps75
  go_wp2
  go_region
  go_wp2
  go_region
  go_wp2
  first | go_end0 | (simp only [Exit.inBlock, Exit.then]; refine bodyPost_ret (results_none rfl _ _ _) rfl ?_) | refine bodyPost_ret (results_none rfl _ _ _) rfl ?_
  have hn := H.out.block_ne
  refine ⟨rfl, FeedAt.below ⟨Go.Joins.block_setCell (i := 6) (Go.Joins.block_setCell (i := 4) (Go.Joins.block_setCell (i := 3) (Go.Joins.block_setCell (i := 1) H.out.1 _) _) _) _,
    (((H.out.2.setOther hn _).setOther hn _).setOther hn _).setOther hn _⟩ ((((Below.refl _ _).alloc (Nat.le_refl _) _).drew).drew), ?_⟩
  exact ((((((But.of_below (Below.refl _ _)).setCell (p := ⟨D, 1, none⟩) rfl _).setCell (p := ⟨D, 3, none⟩) rfl _).setCell (p := ⟨D, 4, none⟩) rfl _).setCell (p := ⟨D, 6, none⟩) rfl _)).trans (But.of_below ((((Below.refl _ _).alloc (Nat.le_refl _) _).drew).drew))

theorem owns_row {w : World} {B n : Nat} {v : Value} {f : Nat → Nat} (h : w.ownsRow B 5 1 v n (xs f n)) :
    (v = .slice none 0 0 ∧ n = 0) ∨ ∃ q cap, v = .slice (some ⟨q, 0, none⟩) n cap ∧ B ≤ q ∧ q < w.heap.size ∧ n ≤ cap ∧ cap ≤ maxLen ∧ Bytes w q 0 n f := by
  rcases h.2 with h1 | ⟨q, cap, cur, hv, hb, hg, h2, h3, h4, h5⟩
  · exact .inl h1
  · right
    subst hv
    exact ⟨q, cap, rfl, hb, (h.lt q rfl).2, h2, h3, bytes_of_owns h⟩

end
end Go.Proofs.YtjdjceoefjpclaaDoor
