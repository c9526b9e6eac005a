/-
  THE WALK over gimletlaw05.RefsCuts.
-/
import Derived.Test.YtbbbokkfhfmoeabDoorRfRead
import Derived.Test.YtbbbokkfhfmoeabDoorChArg
namespace Go.Proofs.YtbbbokkfhfmoeabDoor
open Go.RowKit Go.Lib

theorem rfRead_arg {f : Nat → Nat} {n : Nat} {v : Value} {w : World} (hS : Spans w) (hf : ∀ j, f j < 256) (hn : n ≤ 9223372036854775806) (hA : ArgS w f n v) :
    Calls Tryd.prog 6 #[v] w fun e w' => e = .returned (Rf.rdV (Rf.rd f n)) ∧ Below w.heap.size w w' := by
  obtain ⟨pa, cap, rfl, _, hp⟩ := hA.span
  refine rfRead_any f pa n cap w hS hf hn (fun h0 => ?_)
  rcases hp with h | ⟨b, o, e, hby⟩
  · omega
  · exact ⟨b, o, e, hby, block_lt_of_cell (hby 0 h0)⟩
theorem Rf.rd_w {f : Nat → Nat} {n : Nat} (h : (Rf.rd f n).2.2 = 1) : Rf.rd f n = (0, 0, 1) := by
  rcases Rf.rd_fine f n with r | r | r
  · exact r
  · omega
  · omega
/-- two behind one another -/
def Rf.two (f g : Nat → Nat) (n : Nat) : Nat → Nat := fun j => if j < n then f j else g (j - n)
theorem Rf.two_lt {f g : Nat → Nat} (hf : ∀ j, f j < 256) (hg : ∀ j, g j < 256) (n j : Nat) : Rf.two f g n j < 256 := by
  unfold Rf.two
  split
  · exact hf _
  · exact hg _
theorem Rf.two_bs (f g : Nat → Nat) (n m : Nat) : bs f n ++ bs g m = bs (Rf.two f g n) (n + m) := by
  apply List.ext_getElem?
  intro j
  by_cases h : j < n
  · rw [List.getElem?_append_left (by rw [bs_length]; exact h)]
    simp [bs, h, show j < n + m by omega, Rf.two]
  · rw [List.getElem?_append_right (by rw [bs_length]; omega), bs_length]
    by_cases h2 : j < n + m
    · simp [bs, h2, show j - n < m by omega, Rf.two, h]
    · simp [bs, h2, show ¬ j - n < m by omega]

end Go.Proofs.YtbbbokkfhfmoeabDoor
