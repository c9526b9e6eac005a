/-
  WALKS over refs.names, refs.common and refs.readName.
-/
import Derived.Test.YtbbbokkfhfmoeabDoorRfNum
import Derived.Test.YtbbbokkfhfmoeabDoorRfEsc
import Derived.Maps.RangeWalk
import Derived.BigQuiet
namespace Go.Proofs.YtbbbokkfhfmoeabDoor
open Go.RowKit Go.Lib

namespace Rf
/-- how many bytes n bytes f and a text have in common at the front, from a place on -/
def cp (f : Nat → Nat) (n : Nat) : List UInt8 → Nat → Nat
  | [], a => a
  | x :: r, a => if a < n ∧ f a = x.toNat then cp f n r (a + 1) else a
end Rf

set_option maxHeartbeats 1000000 in
theorem common_any (f : Nat → Nat) (pa : Option Addr) (n cap : Nat) (l : List UInt8) (w : World) (hn : n ≤ 9223372036854775806)
    (hpa : 0 < n → ∃ b o, pa = some ⟨b, o, none⟩ ∧ Bytes w b o n f ∧ b < w.heap.size) :
    Calls Tryd.prog 19 #[.slice pa n cap, .string ⟨l.toArray⟩] w fun e w' => e = .returned (.int .i64 (Rf.cp f n l 0)) ∧ Below w.heap.size w w' := by
  obtain ⟨m, hm⟩ : ∃ m, l.length = m := ⟨_, rfl⟩
  go_enter Tryd.func19, Tryd.ntmps19
  go_wp2
  go_loopw [5] (fun a wr => ∃ a' : Nat, a = .int .i64 a' ∧ a' ≤ m ∧ a' ≤ n ∧ Hid (Rf.cp f n (l.drop a') a' = Rf.cp f n l 0) ∧ Below w.heap.size w wr) (fun a _ => m - (RowKit.intOf a).toNat)
  case atStart => exact ⟨0, rfl, Nat.zero_le _, Nat.zero_le _, rfl, Below.refl _ _⟩
  case round =>
    obtain ⟨a, rfl, ham, han, hE, hB⟩ := hrel
    by_cases h1 : a < n
    · have g1 : (a : Int) < n := by omega
      obtain ⟨b, o, rfl, hby, -⟩ := hpa (by omega)
      have hx := hby.below hB (Nat.le_refl _) a h1
      by_cases h2 : a < m
      · have g2 : (a : Int) < m := by omega
        have hal : a < l.length := by omega
        obtain ⟨y, hy⟩ : ∃ y, l[a]'hal = y := ⟨_, rfl⟩
        have hix : ∀ h : a < (ByteArray.mk l.toArray).size, (ByteArray.mk l.toArray)[a]'h = y := fun h => strIndex l a hal y hy h
        have hst : Rf.cp f n (l.drop a) a = if a < n ∧ f a = y.toNat then Rf.cp f n (l.drop (a + 1)) (a + 1) else a := by
          rw [List.drop_eq_getElem_cons hal, hy]
          rfl
        generalize f a = x at *
        by_cases h3 : x = y.toNat
        · rw [if_pos ⟨h1, h3⟩, hE.out] at hst
          have e1 : ((x : Int) == (y.toNat : Int)) = true := by rw [h3]; simp
          have HST := hide' hst
          clear hst hE hpa hby hy h3
          go_wp2
          go_quiet (fail)
          go_wp2
          go_roundw
          case rel => exact ⟨a + 1, by go_num, by omega, by omega, HST.out.symm, below_drewN hB nq⟩
          case measure => simp [RowKit.intOf]; omega
        · rw [if_neg (fun q => h3 q.2), hE.out] at hst
          have e1 : ((x : Int) == (y.toNat : Int)) = false := by simp; omega
          have HST := hide' hst
          clear hst hE hpa hby hy h3
          go_wp2
          go_quiet (fail)
          go_wp2
          go_ret
          exact ⟨by rw [HST.out]; rfl, below_drewN hB nq⟩
      · obtain rfl : a = m := by omega
        have g2 : decide ((a : Int) < (a : Int)) = false := by simp
        have hst : Rf.cp f n (l.drop a) a = a := by
          rw [List.drop_eq_nil_of_le (by omega)]
          rfl
        rw [hE.out] at hst
        have HST := hide' hst
        clear hst hE hpa hby hx
        go_wp2
        go_quiet (fail)
        go_wp2
        go_ret
        exact ⟨by rw [HST.out]; rfl, below_drewN hB nq⟩
    · obtain rfl : a = n := by omega
      have g1 : decide ((a : Int) < (a : Int)) = false := by simp
      have hst : Rf.cp f a (l.drop a) a = a := by
        cases l.drop a with
        | nil => rfl
        | cons x r =>
          show (if _ then _ else _) = _
          rw [if_neg (by omega)]
      rw [hE.out] at hst
      have HST := hide' hst
      clear hst hE hpa
      go_wp2
      go_quiet (fail)
      go_wp2
      go_ret
      exact ⟨by rw [HST.out]; rfl, below_drewN hB nq⟩
end Go.Proofs.YtbbbokkfhfmoeabDoor
