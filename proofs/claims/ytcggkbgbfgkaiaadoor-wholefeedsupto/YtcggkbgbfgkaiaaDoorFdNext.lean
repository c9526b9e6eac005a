/-
  Peek in one, and THE WALK over feed's Next.
-/
import Derived.Test.YtcggkbgbfgkaiaaDoorFdPeekB
namespace Go.Proofs.YtcggkbgbfgkaiaaDoor
open Go.RowKit Go.Lib

namespace Fd
open Rn
/-- what Peek answers -/
def pkV (x : Nat × Nat × Nat × Nat) (pb pr pl pc : Nat) : Value :=
  if x.2.2.2 = 0 then .tuple #[.agg #[.int .i32 x.1, .int .i64 pb, .int .i64 pr, .int .i64 pl, .int .i64 pc, .int .i64 x.2.2.1], .int .i64 0]
  else if x.2.2.2 = 2 then .tuple #[.agg #[.int .i32 0, .int .i64 (pb + x.2.1 : Nat), .int .i64 (pr + x.2.1 : Nat), .int .i64 pl, .int .i64 (pc + x.2.1 : Nat), .int .i64 0], .int .i64 2]
  else .tuple #[.agg #[.int .i32 0, .int .i64 0, .int .i64 0, .int .i64 0, .int .i64 0, .int .i64 0], .int .i64 x.2.2.2]
theorem good_bad {f : Nat → Nat} {n : Nat} (hn : 0 < n) (hw : whole f n = false) : good f n = fk f n := by
  unfold good
  obtain ⟨m, rfl⟩ : ∃ m, n = m + 1 := ⟨n - 1, by omega⟩
  unfold goodFrom
  rw [if_neg (by omega), off_zero, Nat.sub_zero, hw]
  simp
end Fd

section
variable {D B : Nat} {v : Value} {g : Nat → Nat} {n k wh pb pr pl pc : Nat} {bad ended : Bool} {w : World}

theorem feedPeek_any (hT : Lib.Utf8Tabs 0 1 w) (hg : ∀ j, g j < 256) (h : FeedAt w D B v g n k wh pb pr pl pc bad ended) (hk : k ≤ n) (h1 : pb + n < 9223372036854775808) (h2 : pr + n < 9223372036854775808) (h3 : pc + n < 9223372036854775808) :
    Calls Tryd.prog 33 #[.pointer (some ⟨D, 0, none⟩)] w fun e w' => e = .returned (Fd.pkV (Fd.pk g n k ended) pb pr pl pc) ∧ Below w.heap.size w w' := by
  rcases owns_row h.2 with ⟨rfl, rfl⟩ | ⟨q, cap, rfl, hq1, hq2, hc, hm, hby⟩
  · obtain rfl : k = 0 := by omega
    have e : Fd.pk g 0 0 ended = (0, 0, 0, if ended then 3 else 1) := by
      unfold Fd.pk
      rw [if_neg (by simp [Rn.whole, Rn.fs]), if_pos (Nat.le_refl _)]
    rw [e]
    cases ended
    · exact peek_done h 0 (fun W _ => (next_nil W).mono fun e w' hh => ⟨hh.1, by rw [hh.2]; exact Below.refl _ _⟩)
    · exact peek_donee h 0 (fun W _ => (next_nil W).mono fun e w' hh => ⟨hh.1, by rw [hh.2]; exact Below.refl _ _⟩)
  · by_cases hkn : k = n
    · subst hkn
      have e : Fd.pk g k k ended = (0, 0, 0, if ended then 3 else 1) := by
        unfold Fd.pk
        rw [if_neg (by simp [Rn.whole, Rn.fs]), if_pos (Nat.le_refl _)]
      rw [e]
      cases ended
      · exact peek_done h 0 (fun W _ => (next_done q 0 k cap W hc hm).mono fun e w' hh => ⟨hh.1, by rw [hh.2]; exact Below.refl _ _⟩)
      · exact peek_donee h 0 (fun W _ => (next_done q 0 k cap W hc hm).mono fun e w' hh => ⟨hh.1, by rw [hh.2]; exact Below.refl _ _⟩)
    · have hlt : k < n := by omega
      have cN := fun W (hb : Below w.heap.size w W) => next_in g n q 0 cap k W (tabs_below hT hb (Nat.le_refl _)) hg hlt hc hm (hby.below hb (Nat.le_refl _))
      unfold Fd.pk
      by_cases hw : Rn.whole (Rn.off g k) (n - k) = true
      · rw [if_pos hw]
        simp only [Rn.nx_whole hw] at cN
        by_cases h13 : Rn.fv (Rn.off g k) = 13
        · rw [if_pos h13]
          rw [h13] at cN
          have cL := fun W (hF : FeedAt W D B (.slice (some ⟨q, 0, none⟩) n cap) g n k wh pb pr pl pc bad ended) => feedLineEnd_any hF hlt
          by_cases a1 : k + 1 < n
          · by_cases a2 : g (k + 1) = 10
            · simp only [if_pos a1, if_pos a2] at cL ⊢
              exact peek_cr h _ cN 10 pb pr pl pc 2 0 cL
            · simp only [if_pos a1, if_neg a2] at cL ⊢
              exact peek_cr h _ cN 10 pb pr pl pc 1 0 cL
          · cases ended
            · simp only [if_neg a1, Bool.false_eq_true, if_false] at cL ⊢
              exact peek_cr h _ cN 0 0 0 0 0 0 1 cL
            · simp only [if_neg a1, if_true] at cL ⊢
              exact peek_cr h _ cN 10 pb pr pl pc 1 0 cL
        · rw [if_neg h13]
          exact peek_have h _ _ h13 cN
      · have hw' : Rn.whole (Rn.off g k) (n - k) = false := by simpa using hw
        rw [if_neg hw, if_neg (show ¬ n ≤ k by omega)]
        by_cases hwt : Rn.waits (Rn.off g k) (n - k) = true
        · rw [if_pos hwt]
          simp only [(Rn.nx_waits hwt).1] at cN
          cases ended
          · exact peek_wait h _ cN
          · exact peek_short h (n - k) (by omega) (by omega) (by omega) cN
        · have hwt' : Rn.waits (Rn.off g k) (n - k) = false := by simpa using hwt
          rw [if_neg hwt]
          simp only [Rn.nx_bad (show 0 < n - k by omega) hwt' hw'] at cN
          have hle := Rn.fk_le (Rn.off g k) (n - k)
          refine peek_bad h q cap (Rn.fk (Rn.off g k) (n - k)) rfl hlt hc hm (by omega) (by omega) (by omega) 65533 cN (fun W hb => ?_)
          have cG := good_any (Rn.off g k) (n - k) q (0 + k) (cap - k) W (tabs_below hT hb (Nat.le_refl _)) (fun j => hg _) (by omega) (by omega) ((hby.below hb (Nat.le_refl _)).off (by omega))
          rw [Fd.good_bad (by omega) hw', Nat.zero_add] at cG
          exact cG
end
end Go.Proofs.YtcggkbgbfgkaiaaDoor
