import Derived.Test.YtfockjlegpbooaaGreatDoorWdFind
import Derived.Test.YtfockjlegpbooaaGreatDoorRnJoin
import Derived.Laws.AppendOwnNone
import Derived.Deep.QuietTactic
import Derived.BigQuiet
import Derived.WalkSmall
import Derived.Lib.SmallJoins
import Derived.Test.YtfockjlegpbooaaGreatDoorWdFu
import Derived.Laws.ShiftsVarLaws
import Derived.Test.YtfockjlegpbooaaGreatDoorWdExt
import Derived.Shelf.RegionOpen
/-
  WALKS over the document's Runes, text, Length, Stands.
-/
namespace Go.Proofs.YtfockjlegpbooaaGreatDoor
open Go.RowKit Go.Lib

def rc (L : List Nat) : List Value := L.map fun (r : Nat) => .int .i32 (r : Int)
theorem rc_length (L : List Nat) : (rc L).length = L.length := by simp [rc]
theorem rc_snoc (L : List Nat) (r : Nat) : rc (L ++ [r]) = rc L ++ [.int .i32 (r : Int)] := by simp [rc]
theorem infoRune : (Tryz.prog.info? 21).map (fun i => (i.zero, i.size, i.bytes)) = some (some (.int .i32 0), 1, 4) := by kernel_rfl
theorem rc_news (W : World) (r : Nat) : ∀ j u, ([.int .i32 (r : Int)] : List Value)[j]? = some u → (W.alloc (.cells #[.int .i32 (r : Int)] 21)).cell? (Addr.add ⟨W.heap.size, 0, none⟩ j) = some u := by
  intro j u hj
  match j, hj with
  | 0, hj => simp at hj; subst hj; simp [Addr.add]
  | (j + 1), hj => simp at hj
theorem rc_one (r : Nat) : ∀ u ∈ ([.int .i32 (r : Int)] : List Value), u.oneCell' = true := by
  intro u hu
  simp at hu
  subst hu
  rfl

/-- a slice of these runes -/
def RS (w : World) (L : List Nat) (v : Value) : Prop := ∃ pa cap, v = .slice pa L.length cap ∧ L.length ≤ cap ∧ cap ≤ maxLen ∧ (L.length = 0 ∨ ∃ g o, pa = some ⟨g, o, none⟩ ∧ Row .i32 w g o L.length (Wd.lg L))
theorem RS.below {w w' : World} {L : List Nat} {v : Value} (h : RS w L v) {B : Nat} (hb : Below B w w') (hB : w.heap.size ≤ B) : RS w' L v := by
  obtain ⟨pa, cap, h1, h2, h3, h4⟩ := h
  refine ⟨pa, cap, h1, h2, h3, ?_⟩
  rcases h4 with h4 | ⟨g, o, h4, h5⟩
  · exact .inl h4
  · exact .inr ⟨g, o, h4, h5.below hb hB⟩
theorem rs_of_owns {w : World} {B : Nat} {v : Value} {L : List Nat} (h : w.ownsRow B 21 1 v L.length (rc L)) : RS w L v := by
  rcases h.2 with ⟨h1, h2⟩ | ⟨g, cap, cur, h1, h2, h3, h4, h5, h6, h7⟩
  · exact ⟨none, 0, by rw [h1, h2], by omega, by unfold maxLen; omega, .inl h2⟩
  · refine ⟨_, cap, h1, h4, h5, .inr ⟨g, 0, rfl, fun j hj => ?_⟩⟩
    rw [Lib.cell_of_heap h3, Nat.zero_add]
    have e : cur.toList[j]? = (rc L)[j]? := by
      rw [← h7, List.getElem?_take]
      rw [if_pos (by omega)]
    rw [← Array.getElem?_toList, e]
    simp [rc, Wd.lg, hj]

set_option maxRecDepth 100000 in
set_option maxHeartbeats 2000000 in
theorem refRunes_own (f : Nat → Nat) (n : Nat) (w : World) (hf : ∀ j, f j < 256) (hn : n ≤ 1099511627776) :
    Calls Tryz.prog 74 #[.string (Rn.arr f n)] w fun e w' => ∃ v, e = .returned v ∧ w'.ownsRow w.heap.size 21 1 v (Wd.R f n 0).length (rc (Wd.R f n 0)) ∧ Below w.heap.size w w' := by
  have hsz := Rn.arr_size f n
  have hl := Wd.R_length f n 0 hf
  obtain ⟨i0, hi, hz0, hz1, hz2⟩ := info3 infoRune
  go_enter Tryz.func74, Tryz.ntmps74
  go_wp2
  go_loopw [3] (fun a wr => ∃ (pos : Nat) (pre : List Nat), wr.heap[w.heap.size]? = some (.stringIter (Rn.arr f n) pos) ∧ wr.ownsRow (w.heap.size + 1) 21 1 a pre.length (rc pre) ∧ Hid (pre ++ Wd.R f n pos = Wd.R f n 0) ∧ pre.length ≤ pos ∧ Below w.heap.size w wr)
    (fun _ wr => n - wr.iterPos w.heap.size)
  case atStart => exact ⟨0, [], World.iter_heap w _ 0, World.ownsRow_nil _ _ _ _, rfl, Nat.le_refl _, (Below.refl _ _).alloc (Nat.le_refl _) _⟩
  case round =>
    obtain ⟨pos, pre, hit, hown, hpre, hpl, hB⟩ := hrel
    by_cases hlt : pos < n
    · have hnx : ∀ ty, (Instr.next (.pointer (some ⟨w.heap.size, 0, none⟩)) true ty).run Tryz.prog wr = _ := fun ty => Lib.run_next_any_at wr w.heap.size (Rn.arr f n) pos ty hit (by rw [hsz]; exact hlt)
      rw [Rn.arr_decode f n pos hf hlt] at hnx
      have hp := hpre.out
      rw [Wd.R_step f n pos hf hlt] at hp
      have HP := hide' hp
      clear hpre hp
      obtain ⟨hd1, hd2, hd3⟩ := Rn.dec_pos (Rn.off f pos) (n - pos) (fun _ => hf _) (by omega)
      have hit2 := Lib.iterAt_heap wr w.heap.size (Rn.arr f n) pos (pos + (Rn.dec (Rn.off f pos) (n - pos)).2) hit
      have hB2 := Lib.below_iterAt hB (Nat.le_refl _) (Rn.arr f n) (pos + (Rn.dec (Rn.off f pos) (n - pos)).2)
      generalize (Rn.dec (Rn.off f pos) (n - pos)).1 = r at *
      generalize (Rn.dec (Rn.off f pos) (n - pos)).2 = d at *
      have hown2 := ownsRow_iterAt hown (Nat.lt_succ_self _) (Rn.arr f n) (pos + d)
      have hlw : w.heap.size < (wr.iterAt w.heap.size (Rn.arr f n) (pos + d)).heap.size := (Array.getElem?_eq_some_iff.1 hit2).1
      generalize wr.iterAt w.heap.size (Rn.arr f n) (pos + d) = W2 at *
      go_wp2_with (at_builtin; refine wpList_append_own _ rfl _ _ 129 rfl (w.heap.size + 1) 21 i0 (.int .i32 0) 1 4 Tryz.underlying129 hi hz0 hz1 hz2 rfl (by decide) _ pre.length (rc pre) rfl (hown2.alloc _) ⟨W2.heap.size, 0, none⟩ 1 1 [.int .i32 (r : Int)] rfl rfl ?c1 ?c2 ?c3 ?c4 ?c5 ?_)
      case c1 => exact rc_news _ r
      case c2 => exact rc_one r
      case c3 => unfold maxLen; omega
      case c4 => omega
      case c5 => simp; omega
      intro v' w3 hown' hgrow _
      have hB3 : Below w.heap.size w w3 := (hB2.alloc (Nat.le_of_lt hlw) _).grown hgrow (by simp; omega) (fun j hj => by have := (hown2.lt j hj).1; omega)
      have hit3 : w3.heap[w.heap.size]? = some (.stringIter (Rn.arr f n) (pos + d)) := by
        rw [hgrow.block _ (by simp; omega) (fun e => by have := (hown2.lt _ e.symm).1; omega), Lib.alloc_old W2 _ _ hlw]
        exact hit2
      have hown3 : w3.ownsRow (w.heap.size + 1) 21 1 v' (pre ++ [r]).length (rc (pre ++ [r])) := by rw [rc_snoc, List.length_append]; exact hown'
      clear hown hown' hgrow hB
      go_wp2_with fail
      go_roundw
      case rel => exact ⟨pos + d, pre ++ [r], hit3, hown3, by rw [List.append_assoc]; exact HP, by simp; omega, hB3⟩
      case measure => simp only [World.iterPos, hit3, hit]; omega
    · have hnx : ∀ ty, (Instr.next (.pointer (some ⟨w.heap.size, 0, none⟩)) true ty).run Tryz.prog wr = _ := fun ty => Lib.run_next_end_at wr w.heap.size (Rn.arr f n) pos ty hit (by rw [hsz]; exact hlt)
      have hp := hpre.out
      rw [Wd.R_end f n pos hlt, List.append_nil] at hp
      have HP := hide' hp
      clear hp hpre
      go_wp2_with fail
      go_ret
      exact ⟨_, rfl, by rw [← HP.out]; exact Joins.ownsRow_le hown (Nat.le_succ _), hB⟩
theorem refRunes_any (f : Nat → Nat) (n : Nat) (w : World) (hf : ∀ j, f j < 256) (hn : n ≤ 1099511627776) :
    Calls Tryz.prog 74 #[.string (Rn.arr f n)] w fun e w' => ∃ v, e = .returned v ∧ RS w' (Wd.R f n 0) v ∧ Below w.heap.size w w' := by
  refine (refRunes_own f n w hf hn).mono ?_
  rintro e w' ⟨v, rfl, ho, hb⟩
  exact ⟨v, rfl, rs_of_owns ho, hb⟩
end Go.Proofs.YtfockjlegpbooaaGreatDoor
/-
  WALKS over the document's Stands, Find, Begins, Ends, Length.
-/
namespace Go.Proofs.YtfockjlegpbooaaGreatDoor
open Go.RowKit

/-- numbers that lie one behind the other, or none -/
def RowO (w : World) (pa : Option Addr) (n : Nat) (p : Nat → Nat) : Prop := n = 0 ∨ ∃ g o, pa = some ⟨g, o, none⟩ ∧ Row .i32 w g o n p
theorem RowO.below {w w' : World} {pa : Option Addr} {n : Nat} {p : Nat → Nat} (h : RowO w pa n p) {B : Nat} (hb : Below B w w') (hB : w.heap.size ≤ B) : RowO w' pa n p := by
  rcases h with h | ⟨g, o, h1, h2⟩
  · exact .inl h
  · exact .inr ⟨g, o, h1, h2.below hb hB⟩

/-- the answer says whether it is so -/
def SaysB (e : Ending) (P : Prop) : Prop := ∃ b : Bool, e = .returned (.bool b) ∧ (b = true ↔ P)

set_option maxRecDepth 100000 in
set_option maxHeartbeats 2000000 in
theorem stands_any (l p : Nat → Nat) (pl pp : Option Addr) (ll cl m cp n : Nat) (w : World) (hn : n ≤ 4611686018427387903) (hlb : ll ≤ 4611686018427387903) (hmb : m ≤ 4611686018427387903) (hl : RowO w pl ll l) (hp : RowO w pp m p) :
    Calls Tryz.prog 76 #[.slice pl ll cl, .slice pp m cp, .int .i64 n] w fun e w' => SaysB e (n + m ≤ ll ∧ Wd.St l p m n) ∧ Below w.heap.size w w' := by
  by_cases hle : n + m ≤ ll
  · have hlei : ¬ (ll : Int) < (n : Int) + (m : Int) := by omega
    go_enter Tryz.func76, Tryz.ntmps76
    go_wp2
    go_loopw [7] (fun a wr => ∃ k : Nat, a = .int .i64 k ∧ k ≤ m ∧ Hid (∀ j, j < k → l (n + j) = p j) ∧ Below w.heap.size w wr) (fun a _ => m - (intOf a).toNat)
    case atStart => exact ⟨0, rfl, Nat.zero_le _, fun j hj => absurd hj (Nat.not_lt_zero _), Below.refl _ _⟩
    case round =>
      obtain ⟨k, rfl, hkm, hk, hB⟩ := hrel
      by_cases hlt : k < m
      · have hlti : (k : Int) < (m : Int) := by omega
        rcases hl with h0 | ⟨g, o, rfl, hl⟩
        · omega
        rcases hp with h0 | ⟨g2, o2, rfl, hp⟩
        · omega
        have c1 := (hl.below hB (Nat.le_refl _)) (n + k) (by omega)
        have c2 := (hp.below hB (Nat.le_refl _)) k hlt
        have hnk : n + k < ll := by omega
        clear hl hp
        by_cases he : l (n + k) = p k
        · rw [he] at c1
          have hx : ((p k : Int) == (p k : Int)) = true := by simp
          have HE := hide' he
          clear he
          go_wp2
          go_quiet (fail)
          go_wp2
          go_roundw
          case rel =>
            refine ⟨k + 1, by go_num, by omega, fun j hj => ?_, below_drewN hB _⟩
            by_cases e : j = k
            · subst e; exact HE.out
            · exact hk.out j (by omega)
          case measure => simp [intOf]; omega
        · have hei : ¬ ((l (n + k) : Int) = (p k : Int)) := by omega
          have HE := hide' he
          clear he
          go_wp2
          go_quiet (fail)
          go_wp2
          go_ret
          refine ⟨⟨false, rfl, ?_⟩, below_drewN hB _⟩
          simp only [Bool.false_eq_true, false_iff]
          rintro ⟨_, hs⟩
          exact HE.out (hs k hlt)
      · have hlti : ¬ (k : Int) < (m : Int) := by omega
        clear hl hp
        go_wp2
        go_ret
        refine ⟨⟨true, rfl, ?_⟩, hB⟩
        simp only [true_iff]
        exact fun j hj => hk.out j (by omega)
  · have hlei : (ll : Int) < (n : Int) + (m : Int) := by omega
    clear hl hp
    go_enter Tryz.func76, Tryz.ntmps76
    go_wp2
    go_ret
    refine ⟨⟨false, rfl, ?_⟩, Below.refl _ _⟩
    simp only [Bool.false_eq_true, false_iff]
    exact fun h => hle h.1

set_option maxRecDepth 100000 in
set_option maxHeartbeats 2000000 in
theorem refFind_any (f : Nat → Nat) (n : Nat) (g : Nat → Nat) (m : Nat) (w : World) (hf : ∀ j, f j < 256) (hg : ∀ j, g j < 256) (hn : n ≤ 1099511627776) (hm : m ≤ 1099511627776) :
    Calls Tryz.prog 51 #[.string (Rn.arr f n), .string (Rn.arr g m)] w fun e w' =>
      (∃ z : Int, e = .returned (.int .i64 z) ∧ Wd.FIs (Wd.lg (Wd.R f n 0)) (Wd.R f n 0).length (Wd.lg (Wd.R g m 0)) (Wd.R g m 0).length z) ∧ Below w.heap.size w w' := by
  have c1 := refRunes_any f n w hf hn
  have c2 := fun w1 => refRunes_any g m w1 hg hm
  have hl1 := Wd.R_length f n 0 hf
  have hl2 := Wd.R_length g m 0 hg
  generalize Wd.R f n 0 = L at *
  generalize Wd.R g m 0 = P at *
  go_enter Tryz.func51, Tryz.ntmps51
  go_wp2_with fail
  refine c1.mono ?_
  rintro e w1 ⟨v1, rfl, hr1, hb1⟩
  go_wp2_with fail
  refine (c2 w1).mono ?_
  rintro e w2 ⟨v2, rfl, hr2, hb2⟩
  have hr1' := hr1.below hb2 (Nat.le_refl _)
  have hB2 := hb1.trans (hb2.mono hb1.size)
  obtain ⟨p1, k1, rfl, a1, a2, a3⟩ := hr1'
  obtain ⟨p2, k2, rfl, b1, b2, b3⟩ := hr2
  have cS : ∀ (k : Nat) wr, k ≤ L.length → Below w2.heap.size w2 wr → _ := fun k wr hk hb => stands_any (Wd.lg L) (Wd.lg P) p1 p2 L.length k1 P.length k2 k wr (by omega) (by omega) (by omega) (RowO.below a3 hb (Nat.le_refl _)) (RowO.below b3 hb (Nat.le_refl _))
  clear a3 b3 hr1 c1 c2
  go_wp2_with fail
  go_loopw [7] (fun a wr => ∃ k : Nat, a = .int .i64 k ∧ k ≤ L.length + 1 ∧ Hid (∀ j, j < k → ¬ (j + P.length ≤ L.length ∧ Wd.St (Wd.lg L) (Wd.lg P) P.length j)) ∧ Below w2.heap.size w2 wr) (fun a _ => L.length + 1 - (intOf a).toNat)
  case atStart => exact ⟨0, rfl, Nat.zero_le _, fun j hj => absurd hj (Nat.not_lt_zero _), Below.refl _ _⟩
  case round =>
    obtain ⟨k, rfl, hkm, hk, hB⟩ := hrel
    by_cases hlt : k ≤ L.length
    · have hlti : (k : Int) ≤ (L.length : Int) := by omega
      have c := cS k wr hlt hB
      clear cS
      go_wp2_with fail
      refine c.mono ?_
      rintro e w3 ⟨⟨b, rfl, hb⟩, hb3⟩
      have hB3 := hB.trans (hb3.mono hB.size)
      cases b
      · have HB := hide' (fun h => Bool.noConfusion (hb.2 h) : ¬ (k + P.length ≤ L.length ∧ Wd.St (Wd.lg L) (Wd.lg P) P.length k))
        clear hb
        go_wp2_with fail
        go_roundw
        case rel =>
          refine ⟨k + 1, by go_num, by omega, fun j hj h => ?_, hB3⟩
          by_cases e : j = k
          · subst e
            exact HB.out h
          · exact hk.out j (by omega) h
        case measure => simp [intOf]; omega
      · have HB := hide' (hb.1 rfl)
        clear hb
        go_wp2_with fail
        go_ret
        have h := HB.out
        exact ⟨⟨k, rfl, .inr ⟨k, rfl, h.1, h.2, fun j hj hs => hk.out j hj ⟨by omega, hs⟩⟩⟩, hB2.trans (hB3.mono hB2.size)⟩
    · have hlti : ¬ (k : Int) ≤ (L.length : Int) := by omega
      clear cS
      go_wp2_with fail
      go_ret
      exact ⟨⟨-1, rfl, .inl ⟨rfl, fun j hj hs => hk.out j (by omega) ⟨hj, hs⟩⟩⟩, hB2.trans (hB.mono hB2.size)⟩
end Go.Proofs.YtfockjlegpbooaaGreatDoor
/-
  WALKS over cmp.Compare, words.units, words.Compare, words.CompareUnits, words.Begins.
-/
namespace Go.Proofs.YtfockjlegpbooaaGreatDoor
open Go.RowKit Go.Lib

set_option maxHeartbeats 1000000 in
theorem isNaN32_any (x : Int) (w : World) :
    Calls Tryz.prog 97 #[.int .i32 x] w fun e w' => e = .returned (.bool false) ∧ w' = w := by
  have hx : (x == x) = true := by simp
  go_enter Tryz.func97, Tryz.ntmps97
  go_wp2
  go_ret
  exact ⟨ret_bool (by simp), rfl⟩
set_option maxHeartbeats 1000000 in
theorem cmp32_any (x y : Int) (w : World) :
    Calls Tryz.prog 69 #[.int .i32 x, .int .i32 y] w fun e w' => e = .returned (.int .i64 (Wd.cm x y)) ∧ w' = w := by
  unfold Wd.cm
  by_cases h1 : x < y
  · rw [if_pos h1]
    go_enter Tryz.func69, Tryz.ntmps69
    go_wp2_with (go_at_call 97; refine (isNaN32_any _ _).mono ?_; rintro e w' ⟨rfl, rfl⟩)
    go_ret
    exact ⟨rfl, rfl⟩
  · rw [if_neg h1]
    by_cases h2 : y < x
    · rw [if_pos h2]
      go_enter Tryz.func69, Tryz.ntmps69
      go_wp2_with (go_at_call 97; refine (isNaN32_any _ _).mono ?_; rintro e w' ⟨rfl, rfl⟩)
      go_ret
      exact ⟨rfl, rfl⟩
    · rw [if_neg h2]
      go_enter Tryz.func69, Tryz.ntmps69
      go_wp2_with (go_at_call 97; refine (isNaN32_any _ _).mono ?_; rintro e w' ⟨rfl, rfl⟩)
      go_ret
      exact ⟨rfl, rfl⟩
theorem fu_lt : ∀ L M : List Nat, (∀ r ∈ L, Rn.scal r) → (∀ r ∈ M, Rn.scal r) → (-1 ≤ (Wd.fu L M).1 ∧ (Wd.fu L M).1 < 1114112) ∧ (-1 ≤ (Wd.fu L M).2 ∧ (Wd.fu L M).2 < 1114112)
  | [], [], _, _ => by simp [Wd.fu]
  | [], b :: _, _, h => by
    have := (h b (by simp)).1
    simp only [Wd.fu]
    omega
  | a :: _, [], h, _ => by
    have := (h a (by simp)).1
    simp only [Wd.fu]
    omega
  | a :: L, b :: M, hL, hM => by
    have h1 := (hL a (by simp)).1
    have h2 := (hM b (by simp)).1
    simp only [Wd.fu]
    split
    · exact fu_lt L M (fun r hr => hL r (by simp [hr])) (fun r hr => hM r (by simp [hr]))
    · simp only []
      omega

set_option maxHeartbeats 1000000 in
theorem compare_any (f : Nat → Nat) (n : Nat) (g : Nat → Nat) (m : Nat) (w : World) (hf : ∀ j, f j < 256) (hg : ∀ j, g j < 256)
    (hT : Lib.Utf8Tabs 1 2 w) :
    Calls Tryz.prog 42 #[.string (Rn.arr f n), .string (Rn.arr g m)] w fun e w' => e = .returned (.int .i64 (Wd.cmp (Wd.R f n 0) (Wd.R g m 0))) ∧ Below w.heap.size w w' := by
  have c := firstUnlike_any f n g m w hf hg hT
  unfold Wd.cmp
  generalize (Wd.fu (Wd.R f n 0) (Wd.R g m 0)).1 = a at *
  generalize (Wd.fu (Wd.R f n 0) (Wd.R g m 0)).2 = b at *
  go_enter Tryz.func42, Tryz.ntmps42
  go_wp2_with fail
  refine c.mono ?_
  rintro e w1 ⟨rfl, hb1⟩
  go_wp2_with (go_at_call 69; refine (cmp32_any _ _ _).mono ?_; rintro e w' ⟨rfl, rfl⟩)
  go_ret
  exact ⟨rfl, hb1⟩
set_option maxHeartbeats 1000000 in
theorem wBegins_any (f : Nat → Nat) (n : Nat) (g : Nat → Nat) (m : Nat) (w : World) (hf : ∀ j, f j < 256) (hg : ∀ j, g j < 256)
    (hT : Lib.Utf8Tabs 1 2 w) :
    Calls Tryz.prog 43 #[.string (Rn.arr f n), .string (Rn.arr g m)] w fun e w' => e = .returned (.bool (decide ((Wd.fu (Wd.R f n 0) (Wd.R g m 0)).2 = -1))) ∧ Below w.heap.size w w' := by
  have c := firstUnlike_any f n g m w hf hg hT
  generalize (Wd.fu (Wd.R f n 0) (Wd.R g m 0)).1 = a at *
  generalize (Wd.fu (Wd.R f n 0) (Wd.R g m 0)).2 = b at *
  go_enter Tryz.func43, Tryz.ntmps43
  go_wp2_with fail
  refine c.mono ?_
  rintro e w1 ⟨rfl, hb1⟩
  go_wp2
  go_ret
  exact ⟨ret_bool (by rw [Bool.eq_iff_iff]; simp), hb1⟩
end Go.Proofs.YtfockjlegpbooaaGreatDoor
/-
  WALKS over slices.Reverse at runes, and words.Reverse.
-/
namespace Go.Proofs.YtfockjlegpbooaaGreatDoor
open Go.RowKit Go.Shelf

/-- runes in a block of their own -/
structure InBlock (w : World) (g cap m : Nat) (v : Nat → Nat) (cs : Array Value) : Prop where
  blk : w.heap[g]? = some (.cells cs 21 (0, 0))
  size : cs.size = cap
  get : ∀ j, j < m → cs[j]? = some (.int .i32 (v j))
theorem InBlock.cell {w : World} {g cap m : Nat} {v : Nat → Nat} {cs : Array Value} (h : InBlock w g cap m v cs) {j : Nat} (hj : j < m) : w.cell? ⟨g, j, none⟩ = some (.int .i32 (v j)) := by
  rw [Lib.cell_of_heap h.blk]
  exact h.get j hj
theorem InBlock.frozen {w : World} {g cap m : Nat} {v : Nat → Nat} {cs : Array Value} (h : InBlock w g cap m v cs) (j : Nat) : w.frozen? ⟨g, j, none⟩ = false := Lib.frozen_of_heap h.blk j

theorem lg_reverse (L : List Nat) (j : Nat) (hj : j < L.length) : Wd.lg L (L.length - 1 - j) = L.reverse[j]'(by simpa using hj) := by
  unfold Wd.lg
  rw [List.getElem_reverse, List.getElem?_eq_getElem (by omega)]
  rfl
end Go.Proofs.YtfockjlegpbooaaGreatDoor
/-
  THE WALK over gimletlaw03.awake: answers that the document fixes.
-/
namespace Go.Proofs.YtfockjlegpbooaaGreatDoor
open Go.RowKit Go.Shelf

namespace Wd
theorem aw_find : FIs (lg [97, 98, 97, 98, 99]) 5 (lg [97, 98, 99]) 3 2 := by
  refine .inr ⟨2, rfl, by omega, fun i hi => ?_, fun k hk => ?_⟩
  · have : i = 0 ∨ i = 1 ∨ i = 2 := by omega
    rcases this with rfl | rfl | rfl <;> rfl
  · intro h
    have : k = 0 ∨ k = 1 := by omega
    rcases this with rfl | rfl
    · have := h 2 (by omega)
      simp [lg] at this
    · have := h 0 (by omega)
      simp [lg] at this
end Wd

end Go.Proofs.YtfockjlegpbooaaGreatDoor
