import Derived.Test.YtfockjlegpbooaaGreatDoorWdFind
import Derived.Test.YtfockjlegpbooaaGreatDoorRnJoin
import Derived.Test.YtfockjlegpbooaaGreatDoorRnCat
import Derived.Test.YtfockjlegpbooaaGreatDoorWdAwake
import Derived.Test.YtfockjlegpbooaaGreatDoorWdLawFound
/-
  THE WALK over words.Sub.
-/
namespace Go.Proofs.YtfockjlegpbooaaGreatDoor
open Go.RowKit Go.Shelf

namespace Wd
/-- what has been written when k characters have been gone through -/
def sb (L : List Nat) (a X k : Nat) : List Nat := (L.take (min k X)).drop a
theorem sb_skip (L : List Nat) (a X k : Nat) (h : k < a) : sb L a X (k + 1) = sb L a X k := by
  unfold sb
  rw [List.drop_eq_nil_of_le (by simp; omega), List.drop_eq_nil_of_le (by simp; omega)]
theorem sb_put {L M : List Nat} {a X k r : Nat} (h1 : a ≤ k) (h2 : k < X) (h : L.drop k = r :: M) : sb L a X (k + 1) = sb L a X k ++ [r] := by
  obtain ⟨hk, hr, _⟩ := drop_cons h
  unfold sb
  rw [show min (k + 1) X = k + 1 by omega, show min k X = k by omega, List.take_succ_eq_append_getElem hk, List.drop_append_of_le_length (by simp; omega)]
  congr 2
  simp [lg, hk] at hr
  exact hr
theorem sb_past (L : List Nat) (a X k : Nat) (h : X ≤ k) : sb L a X k = (L.take X).drop a := by
  unfold sb
  rw [show min k X = X by omega]
theorem sb_end (L : List Nat) (a X k : Nat) (h : L.length ≤ k) : sb L a X k = (L.take X).drop a := by
  unfold sb
  by_cases e : X ≤ k
  · rw [show min k X = X by omega]
  · rw [show min k X = k by omega, List.take_of_length_le h, List.take_of_length_le (by omega)]
theorem sb_zero (L : List Nat) (a X : Nat) : sb L a X 0 = [] := by simp [sb]
theorem sb_length (L : List Nat) (a X k : Nat) : (sb L a X k).length ≤ k := by simp [sb]; omega
theorem cat_length (L : List Nat) : (Rn.cat L).length ≤ 4 * L.length := by
  induction L with
  | nil => simp [Rn.cat]
  | cons r L ih =>
    rw [Rn.cat_cons, List.length_append, Rn.enc_length]
    have h := Lib.runeCells_le (r : Int)
    rw [Lib.runeCells_length] at h
    rw [Rn.enc_length] at h
    simp
    omega
theorem sub_neg (L : List Nat) (from' count : Int) (h : count ≤ 0) : sub L from' count = [] := by
  unfold sub
  rw [List.drop_eq_nil_of_le (by simp; omega)]
end Wd

theorem tx_eq (L : List Nat) : Rn.tx L = ⟨(Rn.cat L).toArray⟩ := by rw [Rn.tx, Rn.arr_lf]

theorem builder_iterAt {N b K p : Nat} {bs : List Value} {W : World} {s s' : ByteArray} {q : Nat} (h : Lib.IsBuilderF 144 5 N b bs W) (hit : W.heap[K]? = some (.stringIter s' q)) : Lib.IsBuilderF 144 5 N b bs (W.iterAt K s p) :=
  builder_kept h (fun k o h1 h2 => by
    rw [Lib.iterAt_other W K k s p (fun e => by subst e; rw [hit] at h1; cases h1; cases h2)]
    exact h1)

end Go.Proofs.YtfockjlegpbooaaGreatDoor
/-
  WALKS over words.Border, the document's Stands (what it draws), Border, and the statement's same.
-/
namespace Go.Proofs.YtfockjlegpbooaaGreatDoor
open Go.RowKit

namespace Wd
def stB (l p : Nat → Nat) (ll m n : Nat) : Bool := decide (n + m ≤ ll ∧ ∀ i, i < m → l (n + i) = p i)
theorem stB_true {l p : Nat → Nat} {ll m n : Nat} : stB l p ll m n = true ↔ n + m ≤ ll ∧ St l p m n := by
  unfold stB St
  rw [decide_eq_true_eq]
theorem stB_no {l p : Nat → Nat} {ll m n k : Nat} (hk : k < m) (h : l (n + k) ≠ p k) : stB l p ll m n = false := by
  rw [Bool.eq_false_iff]
  intro h1
  exact h ((stB_true.1 h1).2 k hk)
end Wd

set_option maxRecDepth 100000 in
set_option maxHeartbeats 2000000 in
theorem standsQ_any (l p : Nat → Nat) (pl pp : Option Addr) (ll cl m cp n : Nat) (w : World) (hn : n ≤ 4611686018427387903) (hlb : ll ≤ 4611686018427387903) (hmb : m ≤ 4611686018427387903) (hl : RowO w pl ll l) (hp : RowO w pp m p) :
    Calls Tryz.prog 76 #[.slice pl ll cl, .slice pp m cp, .int .i64 n] w fun e w' => e = .returned (.bool (Wd.stB l p ll m n)) ∧ ∃ q, w' = w.drewN q := by
  by_cases hle : n + m ≤ ll
  · have hlei : ¬ (ll : Int) < (n : Int) + (m : Int) := by omega
    go_enter Tryz.func76, Tryz.ntmps76
    go_wp2
    go_loopw [7] (fun a wr => ∃ k q : Nat, a = .int .i64 k ∧ k ≤ m ∧ Hid (∀ j, j < k → l (n + j) = p j) ∧ wr = w.drewN q) (fun a _ => m - (intOf a).toNat)
    case atStart => exact ⟨0, 0, rfl, Nat.zero_le _, fun j hj => absurd hj (Nat.not_lt_zero _), rfl⟩
    case round =>
      obtain ⟨k, q, rfl, hkm, hk, rfl⟩ := hrel
      by_cases hlt : k < m
      · have hlti : (k : Int) < (m : Int) := by omega
        rcases hl with h0 | ⟨g, o, rfl, hl⟩
        · omega
        rcases hp with h0 | ⟨g2, o2, rfl, hp⟩
        · omega
        have c1 := hl (n + k) (by omega)
        have c2 := hp k hlt
        have hnk : n + k < ll := by omega
        clear hl hp
        by_cases he : l (n + k) = p k
        · rw [he] at c1
          have hx : ((p k : Int) == (p k : Int)) = true := by simp
          have HE := hide' he
          clear he
          go_wp2
          go_quiet (fail)
          go_wp2
          go_roundw
          case rel =>
            refine ⟨k + 1, _, by go_num, by omega, fun j hj => ?_, rfl⟩
            by_cases e : j = k
            · subst e; exact HE.out
            · exact hk.out j (by omega)
          case measure => simp [intOf]; omega
        · have hei : ¬ ((l (n + k) : Int) = (p k : Int)) := by omega
          have HE := hide' (Wd.stB_no (ll := ll) hlt he)
          clear he
          go_wp2
          go_quiet (fail)
          go_wp2
          go_ret
          exact ⟨ret_bool HE.out.symm, q + nq, by simp⟩
      · have hlti : ¬ (k : Int) < (m : Int) := by omega
        clear hl hp
        go_wp2
        go_ret
        exact ⟨ret_bool (Wd.stB_true.2 ⟨hle, fun j hj => hk.out j (by omega)⟩).symm, _, rfl⟩
  · have hlei : (ll : Int) < (n : Int) + (m : Int) := by omega
    clear hl hp
    go_enter Tryz.func76, Tryz.ntmps76
    go_wp2
    go_ret
    refine ⟨ret_bool ?_, 0, rfl⟩
    symm
    rw [Bool.eq_false_iff]
    intro h
    exact hle (Wd.stB_true.1 h).1

/-- numbers in a block of their own -/
structure IB (w : World) (b m : Nat) (bf : Nat → Nat) (cur : Array Value) : Prop where
  blk : w.heap[b]? = some (.cells cur 3 (0, 0))
  size : cur.size = m
  get : ∀ j, j < m → cur[j]? = some (.int .i64 (bf j))
theorem IB.row {w : World} {b m : Nat} {bf : Nat → Nat} {cur : Array Value} (h : IB w b m bf cur) : Row .i64 w b 0 m bf := fun j hj => by
  rw [Lib.cell_of_heap h.blk, Nat.zero_add]
  exact h.get j hj
theorem IB.below {w w' : World} {b m : Nat} {bf : Nat → Nat} {cur : Array Value} (h : IB w b m bf cur) {B : Nat} (hb : Below B w w') (hB : w.heap.size ≤ B) : IB w' b m bf cur :=
  ⟨(hb.block b (Nat.lt_of_lt_of_le (Array.getElem?_eq_some_iff.1 h.blk).1 hB)).trans h.blk, h.size, h.get⟩

end Go.Proofs.YtfockjlegpbooaaGreatDoor
/-
  WALKS over the document's text, Length, Sub, Reverse, order, Compare.
-/
namespace Go.Proofs.YtfockjlegpbooaaGreatDoor
open Go.RowKit

set_option maxHeartbeats 1000000 in
theorem refLength3_any (f : Nat → Nat) (n : Nat) (w : World) (hf : ∀ j, f j < 256) (hn : n ≤ 1099511627776) :
    Calls Tryz.prog 47 #[.string (Rn.arr f n)] w fun e w' => e = .returned (.int .i64 (Wd.R f n 0).length) ∧ Below w.heap.size w w' := by
  have c1 := refRunes_any f n w hf hn
  generalize Wd.R f n 0 = L at *
  go_enter Tryz.func47, Tryz.ntmps47
  go_wp2_with fail
  refine c1.mono ?_
  rintro e w1 ⟨v1, rfl, ⟨pa, cap, rfl, -, -, -⟩, hb1⟩
  go_wp2
  go_ret
  exact ⟨rfl, hb1⟩

set_option maxHeartbeats 1000000 in
theorem order_any (a b : Int) (w : World) :
    Calls Tryz.prog 75 #[.int .i64 a, .int .i64 b] w fun e w' => e = .returned (.int .i64 (Wd.cm a b)) ∧ w' = w := by
  unfold Wd.cm
  by_cases h1 : a < b
  · rw [if_pos h1]
    go_enter Tryz.func75, Tryz.ntmps75
    go_wp2
    go_ret
    exact ⟨rfl, rfl⟩
  · rw [if_neg h1]
    by_cases h2 : b < a
    · rw [if_pos h2]
      go_enter Tryz.func75, Tryz.ntmps75
      go_wp2
      go_ret
      exact ⟨rfl, rfl⟩
    · rw [if_neg h2]
      go_enter Tryz.func75, Tryz.ntmps75
      go_wp2
      go_ret
      exact ⟨rfl, rfl⟩

namespace Wd
theorem take0 (L M : List Nat) : Hid (L.take 0 = M.take 0) := by
  show L.take 0 = M.take 0
  rw [List.take_zero, List.take_zero]
theorem cm_lt' {x y : Int} (h : x < y) : cm x y = -1 := by unfold cm; rw [if_pos h]
theorem cm_gt' {x y : Int} (h : y < x) : cm x y = 1 := by unfold cm; rw [if_neg (by omega), if_pos h]
theorem cm_eq' (x : Int) : cm x x = 0 := by unfold cm; rw [if_neg (by omega), if_neg (by omega)]
/-- where the first k are alike -/
theorem cmp_at {L M : List Nat} {k : Nat} (ht : L.take k = M.take k) (h1 : k < L.length) (h2 : k < M.length) (hne : lg L k ≠ lg M k) : cmp L M = cm (lg L k) (lg M k) := by
  have eL : L = L.take k ++ lg L k :: L.drop (k + 1) := by simp [lg, h1]
  have eM : M = L.take k ++ lg M k :: M.drop (k + 1) := by rw [ht]; simp [lg, h2]
  unfold cmp
  have := fu_part (L.take k) (lg L k) (lg M k) (L.drop (k + 1)) (M.drop (k + 1)) hne
  rw [← eL, ← eM] at this
  rw [this]
theorem cmp_end {L M : List Nat} {k : Nat} (ht : L.take k = M.take k) (hk1 : k ≤ L.length) (hk2 : k ≤ M.length) (h : ¬ (k < L.length ∧ k < M.length)) : cmp L M = cm L.length M.length := by
  unfold cmp
  by_cases e : k < L.length
  · have h2 : M.length = k := by omega
    have eM : M = L.take k := by rw [ht, List.take_of_length_le (by omega)]
    have eL : L = L.take k ++ lg L k :: L.drop (k + 1) := by simp [lg, e]
    have := fu_right (L.take k) (lg L k) (L.drop (k + 1))
    rw [← eL, ← eM] at this
    rw [this, cm_gt' (by simp only []; omega), cm_gt' (by omega)]
  · have h1 : L.length = k := by omega
    have eL : L = M.take k := by rw [← ht, List.take_of_length_le (by omega)]
    by_cases e2 : k < M.length
    · have eM : M = M.take k ++ lg M k :: M.drop (k + 1) := by simp [lg, e2]
      have := fu_left (M.take k) (lg M k) (M.drop (k + 1))
      rw [← eM, ← eL] at this
      rw [this, cm_lt' (by simp only []; omega), cm_lt' (by omega)]
    · have eM : M = M.take k := (List.take_of_length_le (by omega)).symm
      rw [← eM] at eL
      rw [eL, fu_same, cm_eq', cm_eq']
theorem take_snoc_eq {L M : List Nat} {k : Nat} (ht : L.take k = M.take k) (h1 : k < L.length) (h2 : k < M.length) (he : lg L k = lg M k) : L.take (k + 1) = M.take (k + 1) := by
  have h : L[k] = M[k] := by simpa [lg, h1, h2] using he
  rw [List.take_add_one, List.take_add_one, ht, List.getElem?_eq_getElem h1, List.getElem?_eq_getElem h2, h]
end Wd

set_option maxRecDepth 100000 in
set_option maxHeartbeats 2000000 in
theorem refCompare_any (f : Nat → Nat) (n : Nat) (g : Nat → Nat) (m : Nat) (w : World) (hf : ∀ j, f j < 256) (hg : ∀ j, g j < 256) (hn : n ≤ 1099511627776) (hm : m ≤ 1099511627776) :
    Calls Tryz.prog 48 #[.string (Rn.arr f n), .string (Rn.arr g m)] w fun e w' => e = .returned (.int .i64 (Wd.cmp (Wd.R f n 0) (Wd.R g m 0))) ∧ Below w.heap.size w w' := by
  have c1 := refRunes_any f n w hf hn
  have c2 := fun w1 => refRunes_any g m w1 hg hm
  have hl1 := Wd.R_length f n 0 hf
  have hl2 := Wd.R_length g m 0 hg
  generalize Wd.R f n 0 = L at *
  generalize Wd.R g m 0 = M at *
  obtain ⟨z, hz⟩ : ∃ z, z = Wd.cmp L M := ⟨_, rfl⟩
  rw [← hz]
  have HZ := hide' hz
  clear hz
  go_enter Tryz.func48, Tryz.ntmps48
  go_wp2_with fail
  refine c1.mono ?_
  rintro e w1 ⟨v1, rfl, hr1, hb1⟩
  go_wp2_with fail
  refine (c2 w1).mono ?_
  rintro e w2 ⟨v2, rfl, hr2, hb2⟩
  have hr1' := hr1.below hb2 (Nat.le_refl _)
  have hB2 := hb1.trans (hb2.mono hb1.size)
  obtain ⟨p1, k1, rfl, a1, a2, a3⟩ := hr1'
  obtain ⟨p2, k2, rfl, b1, b2, b3⟩ := hr2
  clear hr1 c1 c2
  go_wp2_with fail
  go_loopw [7] (fun a wr => ∃ k : Nat, a = .int .i64 k ∧ k ≤ L.length ∧ k ≤ M.length ∧ Hid (L.take k = M.take k) ∧ Below w2.heap.size w2 wr) (fun a _ => L.length - (intOf a).toNat)
  case atStart => exact ⟨0, rfl, Nat.zero_le _, Nat.zero_le _, Wd.take0 L M, Below.refl _ _⟩
  case round =>
    obtain ⟨k, rfl, hk1, hk2, ht, hB⟩ := hrel
    have hBw := hB2.trans (hB.mono hB2.size)
    by_cases hl : k < L.length ∧ k < M.length
    · obtain ⟨l1, l2⟩ := hl
      have g1 : (k : Int) < L.length := by omega
      have g2 : (k : Int) < M.length := by omega
      rcases a3 with h0 | ⟨ga, oa, rfl, ra⟩
      · omega
      rcases b3 with h0 | ⟨gb, ob, rfl, rb⟩
      · omega
      have cx := (ra.below hB (Nat.le_refl _)) k l1
      have cy := (rb.below hB (Nat.le_refl _)) k l2
      clear ra rb
      by_cases he : Wd.lg L k = Wd.lg M k
      · have HT := hide' (Wd.take_snoc_eq ht.out l1 l2 he)
        rw [he] at cx
        clear he
        generalize Wd.lg M k = b at *
        have n1 : ¬ (b : Int) < b := by omega
        go_wp2
        go_quiet (fail)
        go_wp2
        go_quiet (fail)
        go_wp2
        go_roundw
        case rel => exact ⟨k + 1, by go_num, by omega, by omega, HT, below_drewN hB _⟩
        case measure => simp [intOf]; omega
      · have hz := Wd.cmp_at ht.out l1 l2 he
        generalize Wd.lg L k = a at *
        generalize Wd.lg M k = b at *
        by_cases h : (a : Int) < b
        · rw [Wd.cm_lt' h] at hz
          have HZ2 := hide' (HZ.out.trans hz)
          clear hz HZ
          go_wp2
          go_quiet (fail)
          go_wp2
          go_ret
          exact ⟨ret_int HZ2.out.symm, by first | exact below_drewN hBw _ | exact below_drewN (below_drewN hBw _) _⟩
        · have h' : (b : Int) < a := by omega
          rw [Wd.cm_gt' h'] at hz
          have HZ2 := hide' (HZ.out.trans hz)
          clear hz HZ
          go_wp2
          go_quiet (fail)
          go_wp2
          go_quiet (fail)
          go_wp2
          go_ret
          exact ⟨ret_int HZ2.out.symm, by first | exact below_drewN hBw _ | exact below_drewN (below_drewN hBw _) _⟩
    · have HZ2 := hide' (HZ.out.trans (Wd.cmp_end ht.out hk1 hk2 hl))
      clear HZ a3 b3
      by_cases h : k < L.length
      · have g1 : (k : Int) < L.length := by omega
        have g2 : ¬ (k : Int) < M.length := by omega
        go_wp2_with (go_at_call 75; refine (order_any _ _ _).mono ?_; rintro e w' ⟨rfl, rfl⟩)
        go_ret
        exact ⟨ret_int HZ2.out.symm, hBw⟩
      · have g1 : ¬ (k : Int) < L.length := by omega
        go_wp2_with (go_at_call 75; refine (order_any _ _ _).mono ?_; rintro e w' ⟨rfl, rfl⟩)
        go_ret
        exact ⟨ret_int HZ2.out.symm, hBw⟩
end Go.Proofs.YtfockjlegpbooaaGreatDoor
/-
  WALKS over mean.Compared and the document's.
-/
namespace Go.Proofs.YtfockjlegpbooaaGreatDoor
open Go.RowKit Go.Shelf Go.Lib
namespace Mn
/-- does the comparison hold? L: the text's characters, P: those of what it is compared with -/
def cmpP (L P : List Nat) (c num : Int) : Prop :=
  if c = 0 then True else if c = 1 then Wd.cmp L P = 0 else if c = 2 then ¬ Wd.cmp L P = 0 else if c = 3 then (Wd.fu L P).2 = -1
  else if c = 4 then P.length ≤ L.length ∧ Wd.St (Wd.lg L) (Wd.lg P) P.length (L.length - P.length)
  else if c = 5 then ∃ z, Wd.FIs (Wd.lg L) L.length (Wd.lg P) P.length z ∧ 0 ≤ z
  else if c = 6 then (L.length : Int) = num else if c = 7 then num < L.length else (L.length : Int) < num
/-- what a Compared answers: yes and no, as they are told -/
def CmpE (L P : List Nat) (c num : Int) (yes no : Value) (e : Ending) : Prop :=
  (0 ≤ c ∧ c ≤ 8 ∧ ∃ b : Bool, e = .returned (.tuple #[.bool b, yes]) ∧ (b = true ↔ cmpP L P c num)) ∨ (¬ (0 ≤ c ∧ c ≤ 8) ∧ e = .returned (.tuple #[.bool false, no]))
theorem CmpE.mk {L P : List Nat} {c num : Int} {yes no : Value} (h0 : 0 ≤ c) (h8 : c ≤ 8) (b : Bool) (h : b = true ↔ cmpP L P c num) : CmpE L P c num yes no (.returned (.tuple #[.bool b, yes])) := .inl ⟨h0, h8, b, rfl, h⟩
theorem find_iff {L P : List Nat} {z : Int} (h : Wd.FIs (Wd.lg L) L.length (Wd.lg P) P.length z) : (∃ z, Wd.FIs (Wd.lg L) L.length (Wd.lg P) P.length z ∧ 0 ≤ z) ↔ 0 ≤ z :=
  ⟨fun ⟨z', h', h0⟩ => by rw [h.uniq h']; exact h0, fun h0 => ⟨z, h, h0⟩⟩
end Mn
set_option maxRecDepth 100000 in
set_option maxHeartbeats 4000000 in
theorem mnCompared (f : Nat → Nat) (n : Nat) (g : Nat → Nat) (m : Nat) (c num : Int) (w : World) (hf : ∀ j, f j < 256) (hg : ∀ j, g j < 256) (hn : n ≤ 1099511627776) (hm : m ≤ 1099511627776) (hT : Lib.Utf8Tabs 1 2 w) :
    Calls Tryz.prog 23 #[.string (Rn.arr f n), .int .i64 c, .string (Rn.arr g m), .int .i64 num] w fun e w' => Mn.CmpE (Wd.R f n 0) (Wd.R g m 0) c num (.int .i64 0) (.int .i64 4) e ∧ Below w.heap.size w w' := by
  by_cases t0 : c = 0
  · subst t0
    generalize Wd.R f n 0 = L at *
    generalize Wd.R g m 0 = P at *
    go_enter Tryz.func23, Tryz.ntmps23
    go_wp2_with fail
    go_ret2
    refine ⟨Mn.CmpE.mk (by decide) (by decide) _ ?_, Below.refl _ _⟩
    unfold Mn.cmpP
    simp
  by_cases t1 : c = 1
  · subst t1
    have CC : ∀ w1, Below w.heap.size w w1 → _ := fun w1 hb => compare_any f n g m w1 hf hg (tabs_below hT hb (Nat.le_refl _))
    generalize Wd.R f n 0 = L at *
    generalize Wd.R g m 0 = P at *
    have HC := hide' CC
    clear CC
    go_enter Tryz.func23, Tryz.ntmps23
    go_wp2_with fail
    refine (HC.out w (Below.refl _ _)).mono ?_
    rintro e w1 ⟨rfl, hb1⟩
    have HBE := hide' (hb1)
    clear hb1 HC
    go_wp2_with fail
    go_ret2
    refine ⟨Mn.CmpE.mk (by decide) (by decide) _ ?_, HBE.out⟩
    unfold Mn.cmpP
    simp
  by_cases t2 : c = 2
  · subst t2
    have CC : ∀ w1, Below w.heap.size w w1 → _ := fun w1 hb => compare_any f n g m w1 hf hg (tabs_below hT hb (Nat.le_refl _))
    generalize Wd.R f n 0 = L at *
    generalize Wd.R g m 0 = P at *
    have HC := hide' CC
    clear CC
    go_enter Tryz.func23, Tryz.ntmps23
    go_wp2_with fail
    refine (HC.out w (Below.refl _ _)).mono ?_
    rintro e w1 ⟨rfl, hb1⟩
    have HBE := hide' (hb1)
    clear hb1 HC
    go_wp2_with fail
    go_ret2
    refine ⟨Mn.CmpE.mk (by decide) (by decide) _ ?_, HBE.out⟩
    unfold Mn.cmpP
    simp
  by_cases t3 : c = 3
  · subst t3
    have CC : ∀ w1, Below w.heap.size w w1 → _ := fun w1 hb => wBegins_any f n g m w1 hf hg (tabs_below hT hb (Nat.le_refl _))
    generalize Wd.R f n 0 = L at *
    generalize Wd.R g m 0 = P at *
    have HC := hide' CC
    clear CC
    go_enter Tryz.func23, Tryz.ntmps23
    go_wp2_with fail
    refine (HC.out w (Below.refl _ _)).mono ?_
    rintro e w1 ⟨rfl, hb1⟩
    have HBE := hide' (hb1)
    clear hb1 HC
    go_wp2_with fail
    go_ret2
    refine ⟨Mn.CmpE.mk (by decide) (by decide) _ ?_, HBE.out⟩
    unfold Mn.cmpP
    simp
  by_cases t4 : c = 4
  · subst t4
    have CC : ∀ w1, Below w.heap.size w w1 → _ := fun w1 hb => ends_any f n g m w1 hf hg hn hm (tabs_below hT hb (Nat.le_refl _))
    generalize Wd.R f n 0 = L at *
    generalize Wd.R g m 0 = P at *
    have HC := hide' CC
    clear CC
    go_enter Tryz.func23, Tryz.ntmps23
    go_wp2_with fail
    refine (HC.out w (Below.refl _ _)).mono ?_
    rintro e w1 ⟨⟨b, rfl, hb⟩, hb1⟩
    have HBB := hide' hb
    clear hb
    have HBE := hide' (hb1)
    clear hb1 HC
    go_wp2_with fail
    go_ret2
    refine ⟨Mn.CmpE.mk (by decide) (by decide) b ?_, HBE.out⟩
    rw [HBB.out]
    unfold Mn.cmpP
    simp
  by_cases t5 : c = 5
  · subst t5
    have CC : ∀ w1, Below w.heap.size w w1 → _ := fun w1 hb => find_any f n g m w1 hf hg (by omega) (by omega)
    generalize Wd.R f n 0 = L at *
    generalize Wd.R g m 0 = P at *
    have HC := hide' CC
    clear CC
    go_enter Tryz.func23, Tryz.ntmps23
    go_wp2_with fail
    refine (HC.out w (Below.refl _ _)).mono ?_
    rintro e w1 ⟨⟨z, rfl, hz⟩, hb1⟩
    have HZ := hide' hz
    clear hz
    have HBE := hide' (hb1)
    clear hb1 HC
    go_wp2_with fail
    go_ret2
    refine ⟨Mn.CmpE.mk (by decide) (by decide) _ ?_, HBE.out⟩
    unfold Mn.cmpP
    simp only [show ¬ ((5 : Int) = 0) by decide, show ¬ ((5 : Int) = 1) by decide, show ¬ ((5 : Int) = 2) by decide, show ¬ ((5 : Int) = 3) by decide, show ¬ ((5 : Int) = 4) by decide, if_false, if_true]
    rw [Mn.find_iff HZ.out]
    simp
  by_cases t6 : c = 6
  · subst t6
    have CC : ∀ w1, Below w.heap.size w w1 → _ := fun w1 hb => length_any f n w1 hf (by omega)
    generalize Wd.R f n 0 = L at *
    generalize Wd.R g m 0 = P at *
    have HC := hide' CC
    clear CC
    go_enter Tryz.func23, Tryz.ntmps23
    go_wp2_with fail
    refine (HC.out w (Below.refl _ _)).mono ?_
    rintro e w1 ⟨rfl, hb1⟩
    have HBE := hide' (hb1)
    clear hb1 HC
    go_wp2_with fail
    go_ret2
    refine ⟨Mn.CmpE.mk (by decide) (by decide) _ ?_, HBE.out⟩
    unfold Mn.cmpP
    simp
  by_cases t7 : c = 7
  · subst t7
    have CC : ∀ w1, Below w.heap.size w w1 → _ := fun w1 hb => length_any f n w1 hf (by omega)
    generalize Wd.R f n 0 = L at *
    generalize Wd.R g m 0 = P at *
    have HC := hide' CC
    clear CC
    go_enter Tryz.func23, Tryz.ntmps23
    go_wp2_with fail
    refine (HC.out w (Below.refl _ _)).mono ?_
    rintro e w1 ⟨rfl, hb1⟩
    have HBE := hide' (hb1)
    clear hb1 HC
    go_wp2_with fail
    go_ret2
    refine ⟨Mn.CmpE.mk (by decide) (by decide) _ ?_, HBE.out⟩
    unfold Mn.cmpP
    simp
  by_cases t8 : c = 8
  · subst t8
    have CC : ∀ w1, Below w.heap.size w w1 → _ := fun w1 hb => length_any f n w1 hf (by omega)
    generalize Wd.R f n 0 = L at *
    generalize Wd.R g m 0 = P at *
    have HC := hide' CC
    clear CC
    go_enter Tryz.func23, Tryz.ntmps23
    go_wp2_with fail
    refine (HC.out w (Below.refl _ _)).mono ?_
    rintro e w1 ⟨rfl, hb1⟩
    have HBE := hide' (hb1)
    clear hb1 HC
    go_wp2_with fail
    go_ret2
    refine ⟨Mn.CmpE.mk (by decide) (by decide) _ ?_, HBE.out⟩
    unfold Mn.cmpP
    simp
  have b0 : (c == 0) = false := by simpa using t0
  have b1 : (c == 1) = false := by simpa using t1
  have b2 : (c == 2) = false := by simpa using t2
  have b3 : (c == 3) = false := by simpa using t3
  have b4 : (c == 4) = false := by simpa using t4
  have b5 : (c == 5) = false := by simpa using t5
  have b6 : (c == 6) = false := by simpa using t6
  have b7 : (c == 7) = false := by simpa using t7
  have b8 : (c == 8) = false := by simpa using t8
  have hno : ¬ (0 ≤ c ∧ c ≤ 8) := by omega
  have HNO := hide' hno
  clear hno t0 t1 t2 t3 t4 t5 t6 t7 t8
  generalize Wd.R f n 0 = L at *
  generalize Wd.R g m 0 = P at *
  go_enter Tryz.func23, Tryz.ntmps23
  go_wp2_with fail
  go_ret2
  exact ⟨.inr ⟨HNO.out, rfl⟩, Below.refl _ _⟩
set_option maxRecDepth 100000 in
set_option maxHeartbeats 4000000 in
theorem refCompared (f : Nat → Nat) (n : Nat) (g : Nat → Nat) (m : Nat) (c num : Int) (w : World) (hf : ∀ j, f j < 256) (hg : ∀ j, g j < 256) (hn : n ≤ 1099511627776) (hm : m ≤ 1099511627776) :
    Calls Tryz.prog 24 #[.string (Rn.arr f n), .int .i64 c, .string (Rn.arr g m), .int .i64 num] w fun e w' => Mn.CmpE (Wd.R f n 0) (Wd.R g m 0) c num (.bool true) (.bool false) e ∧ Below w.heap.size w w' := by
  by_cases t0 : c = 0
  · subst t0
    have CL := hide' (refLength3_any f n w hf hn)
    generalize Wd.R f n 0 = L at *
    generalize Wd.R g m 0 = P at *
    go_enter Tryz.func24, Tryz.ntmps24
    go_wp2_with fail
    refine CL.out.mono ?_
    rintro e w0 ⟨rfl, hb0⟩
    have HB0 := hide' hb0
    clear hb0 CL
    go_wp2_with fail
    go_ret2
    refine ⟨Mn.CmpE.mk (by decide) (by decide) _ ?_, HB0.out⟩
    unfold Mn.cmpP
    simp
  by_cases t1 : c = 1
  · subst t1
    have CC : ∀ w1, Below w.heap.size w w1 → _ := fun w1 hb => refCompare_any f n g m w1 hf hg hn hm
    have HC := hide' CC
    clear CC
    have CL := hide' (refLength3_any f n w hf hn)
    generalize Wd.R f n 0 = L at *
    generalize Wd.R g m 0 = P at *
    go_enter Tryz.func24, Tryz.ntmps24
    go_wp2_with fail
    refine CL.out.mono ?_
    rintro e w0 ⟨rfl, hb0⟩
    have HB0 := hide' hb0
    clear hb0 CL
    go_wp2_with fail
    refine (HC.out w0 HB0.out).mono ?_
    rintro e w1 ⟨rfl, hb1⟩
    have HBE := hide' (HB0.out.trans (hb1.mono HB0.out.size))
    clear hb1 HC
    go_wp2_with fail
    go_ret2
    refine ⟨Mn.CmpE.mk (by decide) (by decide) _ ?_, HBE.out⟩
    unfold Mn.cmpP
    simp
  by_cases t2 : c = 2
  · subst t2
    have CC : ∀ w1, Below w.heap.size w w1 → _ := fun w1 hb => refCompare_any f n g m w1 hf hg hn hm
    have HC := hide' CC
    clear CC
    have CL := hide' (refLength3_any f n w hf hn)
    generalize Wd.R f n 0 = L at *
    generalize Wd.R g m 0 = P at *
    go_enter Tryz.func24, Tryz.ntmps24
    go_wp2_with fail
    refine CL.out.mono ?_
    rintro e w0 ⟨rfl, hb0⟩
    have HB0 := hide' hb0
    clear hb0 CL
    go_wp2_with fail
    refine (HC.out w0 HB0.out).mono ?_
    rintro e w1 ⟨rfl, hb1⟩
    have HBE := hide' (HB0.out.trans (hb1.mono HB0.out.size))
    clear hb1 HC
    go_wp2_with fail
    go_ret2
    refine ⟨Mn.CmpE.mk (by decide) (by decide) _ ?_, HBE.out⟩
    unfold Mn.cmpP
    simp
  by_cases t3 : c = 3
  · subst t3
    have CC : ∀ w1, Below w.heap.size w w1 → _ := fun w1 hb => refBegins3_any f n g m w1 hf hg hn hm
    have HC := hide' CC
    clear CC
    have CL := hide' (refLength3_any f n w hf hn)
    generalize Wd.R f n 0 = L at *
    generalize Wd.R g m 0 = P at *
    go_enter Tryz.func24, Tryz.ntmps24
    go_wp2_with fail
    refine CL.out.mono ?_
    rintro e w0 ⟨rfl, hb0⟩
    have HB0 := hide' hb0
    clear hb0 CL
    go_wp2_with fail
    refine (HC.out w0 HB0.out).mono ?_
    rintro e w1 ⟨⟨b, rfl, hb⟩, hb1⟩
    have HBB := hide' hb
    clear hb
    have HBE := hide' (HB0.out.trans (hb1.mono HB0.out.size))
    clear hb1 HC
    go_wp2_with fail
    go_ret2
    refine ⟨Mn.CmpE.mk (by decide) (by decide) b ?_, HBE.out⟩
    rw [HBB.out, ← Wd.fu_begins]
    unfold Mn.cmpP
    simp
  by_cases t4 : c = 4
  · subst t4
    have CC : ∀ w1, Below w.heap.size w w1 → _ := fun w1 hb => refEnds_any f n g m w1 hf hg hn hm
    have HC := hide' CC
    clear CC
    have CL := hide' (refLength3_any f n w hf hn)
    generalize Wd.R f n 0 = L at *
    generalize Wd.R g m 0 = P at *
    go_enter Tryz.func24, Tryz.ntmps24
    go_wp2_with fail
    refine CL.out.mono ?_
    rintro e w0 ⟨rfl, hb0⟩
    have HB0 := hide' hb0
    clear hb0 CL
    go_wp2_with fail
    refine (HC.out w0 HB0.out).mono ?_
    rintro e w1 ⟨⟨b, rfl, hb⟩, hb1⟩
    have HBB := hide' hb
    clear hb
    have HBE := hide' (HB0.out.trans (hb1.mono HB0.out.size))
    clear hb1 HC
    go_wp2_with fail
    go_ret2
    refine ⟨Mn.CmpE.mk (by decide) (by decide) b ?_, HBE.out⟩
    rw [HBB.out]
    unfold Mn.cmpP
    simp
  by_cases t5 : c = 5
  · subst t5
    have CC : ∀ w1, Below w.heap.size w w1 → _ := fun w1 hb => refFind_any f n g m w1 hf hg hn hm
    have HC := hide' CC
    clear CC
    have CL := hide' (refLength3_any f n w hf hn)
    generalize Wd.R f n 0 = L at *
    generalize Wd.R g m 0 = P at *
    go_enter Tryz.func24, Tryz.ntmps24
    go_wp2_with fail
    refine CL.out.mono ?_
    rintro e w0 ⟨rfl, hb0⟩
    have HB0 := hide' hb0
    clear hb0 CL
    go_wp2_with fail
    refine (HC.out w0 HB0.out).mono ?_
    rintro e w1 ⟨⟨z, rfl, hz⟩, hb1⟩
    have HZ := hide' hz
    clear hz
    have HBE := hide' (HB0.out.trans (hb1.mono HB0.out.size))
    clear hb1 HC
    go_wp2_with fail
    go_ret2
    refine ⟨Mn.CmpE.mk (by decide) (by decide) _ ?_, HBE.out⟩
    unfold Mn.cmpP
    simp only [show ¬ ((5 : Int) = 0) by decide, show ¬ ((5 : Int) = 1) by decide, show ¬ ((5 : Int) = 2) by decide, show ¬ ((5 : Int) = 3) by decide, show ¬ ((5 : Int) = 4) by decide, if_false, if_true]
    rw [Mn.find_iff HZ.out]
    simp
  by_cases t6 : c = 6
  · subst t6
    have CL := hide' (refLength3_any f n w hf hn)
    generalize Wd.R f n 0 = L at *
    generalize Wd.R g m 0 = P at *
    go_enter Tryz.func24, Tryz.ntmps24
    go_wp2_with fail
    refine CL.out.mono ?_
    rintro e w0 ⟨rfl, hb0⟩
    have HB0 := hide' hb0
    clear hb0 CL
    go_wp2_with fail
    go_ret2
    refine ⟨Mn.CmpE.mk (by decide) (by decide) _ ?_, HB0.out⟩
    unfold Mn.cmpP
    simp
  by_cases t7 : c = 7
  · subst t7
    have CL := hide' (refLength3_any f n w hf hn)
    generalize Wd.R f n 0 = L at *
    generalize Wd.R g m 0 = P at *
    go_enter Tryz.func24, Tryz.ntmps24
    go_wp2_with fail
    refine CL.out.mono ?_
    rintro e w0 ⟨rfl, hb0⟩
    have HB0 := hide' hb0
    clear hb0 CL
    go_wp2_with fail
    go_ret2
    refine ⟨Mn.CmpE.mk (by decide) (by decide) _ ?_, HB0.out⟩
    unfold Mn.cmpP
    simp
  by_cases t8 : c = 8
  · subst t8
    have CL := hide' (refLength3_any f n w hf hn)
    generalize Wd.R f n 0 = L at *
    generalize Wd.R g m 0 = P at *
    go_enter Tryz.func24, Tryz.ntmps24
    go_wp2_with fail
    refine CL.out.mono ?_
    rintro e w0 ⟨rfl, hb0⟩
    have HB0 := hide' hb0
    clear hb0 CL
    go_wp2_with fail
    go_ret2
    refine ⟨Mn.CmpE.mk (by decide) (by decide) _ ?_, HB0.out⟩
    unfold Mn.cmpP
    simp
  have b0 : (c == 0) = false := by simpa using t0
  have b1 : (c == 1) = false := by simpa using t1
  have b2 : (c == 2) = false := by simpa using t2
  have b3 : (c == 3) = false := by simpa using t3
  have b4 : (c == 4) = false := by simpa using t4
  have b5 : (c == 5) = false := by simpa using t5
  have b6 : (c == 6) = false := by simpa using t6
  have b7 : (c == 7) = false := by simpa using t7
  have b8 : (c == 8) = false := by simpa using t8
  have hno : ¬ (0 ≤ c ∧ c ≤ 8) := by omega
  have HNO := hide' hno
  clear hno t0 t1 t2 t3 t4 t5 t6 t7 t8
  have CL := hide' (refLength3_any f n w hf hn)
  generalize Wd.R f n 0 = L at *
  generalize Wd.R g m 0 = P at *
  go_enter Tryz.func24, Tryz.ntmps24
  go_wp2_with fail
  refine CL.out.mono ?_
  rintro e w0 ⟨rfl, hb0⟩
  have HB0 := hide' hb0
  clear hb0 CL
  go_wp2_with fail
  go_ret2
  exact ⟨.inr ⟨HNO.out, rfl⟩, HB0.out⟩
end Go.Proofs.YtfockjlegpbooaaGreatDoor
