/-
  WALKS over the document's Stands, Find, Begins, Ends, Length.
-/
import Derived.Test.YtfbjkebinbemdaaDoorWdRef
namespace Go.Proofs.YtfbjkebinbemdaaDoor
open Go.RowKit

/-- numbers that lie one behind the other, or none -/
def RowO (w : World) (pa : Option Addr) (n : Nat) (p : Nat → Nat) : Prop := n = 0 ∨ ∃ g o, pa = some ⟨g, o, none⟩ ∧ Row .i32 w g o n p
theorem RowO.below {w w' : World} {pa : Option Addr} {n : Nat} {p : Nat → Nat} (h : RowO w pa n p) {B : Nat} (hb : Below B w w') (hB : w.heap.size ≤ B) : RowO w' pa n p := by
  rcases h with h | ⟨g, o, h1, h2⟩
  · exact .inl h
  · exact .inr ⟨g, o, h1, h2.below hb hB⟩

/-- the answer says whether it is so -/
def SaysB (e : Ending) (P : Prop) : Prop := ∃ b : Bool, e = .returned (.bool b) ∧ (b = true ↔ P)

set_option maxRecDepth 100000 in
set_option maxHeartbeats 2000000 in
theorem stands_any (l p : Nat → Nat) (pl pp : Option Addr) (ll cl m cp n : Nat) (w : World) (hn : n ≤ 4611686018427387903) (hlb : ll ≤ 4611686018427387903) (hmb : m ≤ 4611686018427387903) (hl : RowO w pl ll l) (hp : RowO w pp m p) :
    Calls Tryd.prog 53 #[.slice pl ll cl, .slice pp m cp, .int .i64 n] w fun e w' => SaysB e (n + m ≤ ll ∧ Wd.St l p m n) ∧ Below w.heap.size w w' := by
  by_cases hle : n + m ≤ ll
  · have hlei : ¬ (ll : Int) < (n : Int) + (m : Int) := by omega
    go_enter Tryd.func53, Tryd.ntmps53
    go_wp2
    go_loopw [7] (fun a wr => ∃ k : Nat, a = .int .i64 k ∧ k ≤ m ∧ Hid (∀ j, j < k → l (n + j) = p j) ∧ Below w.heap.size w wr) (fun a _ => m - (intOf a).toNat)
    case atStart => exact ⟨0, rfl, Nat.zero_le _, fun j hj => absurd hj (Nat.not_lt_zero _), Below.refl _ _⟩
    case round =>
      obtain ⟨k, rfl, hkm, hk, hB⟩ := hrel
      by_cases hlt : k < m
      · have hlti : (k : Int) < (m : Int) := by omega
        rcases hl with h0 | ⟨g, o, rfl, hl⟩
        · omega
        rcases hp with h0 | ⟨g2, o2, rfl, hp⟩
        · omega
        have c1 := (hl.below hB (Nat.le_refl _)) (n + k) (by omega)
        have c2 := (hp.below hB (Nat.le_refl _)) k hlt
        have hnk : n + k < ll := by omega
        clear hl hp
        by_cases he : l (n + k) = p k
        · rw [he] at c1
          have hx : ((p k : Int) == (p k : Int)) = true := by simp
          have HE := hide' he
          clear he
          go_wp2
          go_quiet (fail)
          go_wp2
          go_roundw
          case rel =>
            refine ⟨k + 1, by go_num, by omega, fun j hj => ?_, below_drewN hB _⟩
            by_cases e : j = k
            · subst e; exact HE.out
            · exact hk.out j (by omega)
          case measure => simp [intOf]; omega
        · have hei : ¬ ((l (n + k) : Int) = (p k : Int)) := by omega
          have HE := hide' he
          clear he
          go_wp2
          go_quiet (fail)
          go_wp2
          go_ret
          refine ⟨⟨false, rfl, ?_⟩, below_drewN hB _⟩
          simp only [Bool.false_eq_true, false_iff]
          rintro ⟨_, hs⟩
          exact HE.out (hs k hlt)
      · have hlti : ¬ (k : Int) < (m : Int) := by omega
        clear hl hp
        go_wp2
        go_ret
        refine ⟨⟨true, rfl, ?_⟩, hB⟩
        simp only [true_iff]
        exact fun j hj => hk.out j (by omega)
  · have hlei : (ll : Int) < (n : Int) + (m : Int) := by omega
    clear hl hp
    go_enter Tryd.func53, Tryd.ntmps53
    go_wp2
    go_ret
    refine ⟨⟨false, rfl, ?_⟩, Below.refl _ _⟩
    simp only [Bool.false_eq_true, false_iff]
    exact fun h => hle h.1

set_option maxRecDepth 100000 in
set_option maxHeartbeats 2000000 in
theorem refFind_any (f : Nat → Nat) (n : Nat) (g : Nat → Nat) (m : Nat) (w : World) (hf : ∀ j, f j < 256) (hg : ∀ j, g j < 256) (hn : n ≤ 1099511627776) (hm : m ≤ 1099511627776) :
    Calls Tryd.prog 23 #[.string (Rn.arr f n), .string (Rn.arr g m)] w fun e w' =>
      (∃ z : Int, e = .returned (.int .i64 z) ∧ Wd.FIs (Wd.lg (Wd.R f n 0)) (Wd.R f n 0).length (Wd.lg (Wd.R g m 0)) (Wd.R g m 0).length z) ∧ Below w.heap.size w w' := by
  have c1 := refRunes_any f n w hf hn
  have c2 := fun w1 => refRunes_any g m w1 hg hm
  have hl1 := Wd.R_length f n 0 hf
  have hl2 := Wd.R_length g m 0 hg
  generalize Wd.R f n 0 = L at *
  generalize Wd.R g m 0 = P at *
  go_enter Tryd.func23, Tryd.ntmps23
  go_wp2_with fail
  refine c1.mono ?_
  rintro e w1 ⟨v1, rfl, hr1, hb1⟩
  go_wp2_with fail
  refine (c2 w1).mono ?_
  rintro e w2 ⟨v2, rfl, hr2, hb2⟩
  have hr1' := hr1.below hb2 (Nat.le_refl _)
  have hB2 := hb1.trans (hb2.mono hb1.size)
  obtain ⟨p1, k1, rfl, a1, a2, a3⟩ := hr1'
  obtain ⟨p2, k2, rfl, b1, b2, b3⟩ := hr2
  have cS : ∀ (k : Nat) wr, k ≤ L.length → Below w2.heap.size w2 wr → _ := fun k wr hk hb => stands_any (Wd.lg L) (Wd.lg P) p1 p2 L.length k1 P.length k2 k wr (by omega) (by omega) (by omega) (RowO.below a3 hb (Nat.le_refl _)) (RowO.below b3 hb (Nat.le_refl _))
  clear a3 b3 hr1 c1 c2
  go_wp2_with fail
  go_loopw [7] (fun a wr => ∃ k : Nat, a = .int .i64 k ∧ k ≤ L.length + 1 ∧ Hid (∀ j, j < k → ¬ (j + P.length ≤ L.length ∧ Wd.St (Wd.lg L) (Wd.lg P) P.length j)) ∧ Below w2.heap.size w2 wr) (fun a _ => L.length + 1 - (intOf a).toNat)
  case atStart => exact ⟨0, rfl, Nat.zero_le _, fun j hj => absurd hj (Nat.not_lt_zero _), Below.refl _ _⟩
  case round =>
    obtain ⟨k, rfl, hkm, hk, hB⟩ := hrel
    by_cases hlt : k ≤ L.length
    · have hlti : (k : Int) ≤ (L.length : Int) := by omega
      have c := cS k wr hlt hB
      clear cS
      go_wp2_with fail
      refine c.mono ?_
      rintro e w3 ⟨⟨b, rfl, hb⟩, hb3⟩
      have hB3 := hB.trans (hb3.mono hB.size)
      cases b
      · have HB := hide' (fun h => Bool.noConfusion (hb.2 h) : ¬ (k + P.length ≤ L.length ∧ Wd.St (Wd.lg L) (Wd.lg P) P.length k))
        clear hb
        go_wp2_with fail
        go_roundw
        case rel =>
          refine ⟨k + 1, by go_num, by omega, fun j hj h => ?_, hB3⟩
          by_cases e : j = k
          · subst e
            exact HB.out h
          · exact hk.out j (by omega) h
        case measure => simp [intOf]; omega
      · have HB := hide' (hb.1 rfl)
        clear hb
        go_wp2_with fail
        go_ret
        have h := HB.out
        exact ⟨⟨k, rfl, .inr ⟨k, rfl, h.1, h.2, fun j hj hs => hk.out j hj ⟨by omega, hs⟩⟩⟩, hB2.trans (hB3.mono hB2.size)⟩
    · have hlti : ¬ (k : Int) ≤ (L.length : Int) := by omega
      clear cS
      go_wp2_with fail
      go_ret
      exact ⟨⟨-1, rfl, .inl ⟨rfl, fun j hj hs => hk.out j (by omega) ⟨hj, hs⟩⟩⟩, hB2.trans (hB.mono hB2.size)⟩
end Go.Proofs.YtfbjkebinbemdaaDoor
