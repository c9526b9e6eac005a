/-
  THE WALK over gimletlaw05.RefsWrites.
-/
import Derived.Test.YtbbbokkfhfmoeaaDoorRfFix
import Derived.Test.YtbbbokkfhfmoeaaDoorRfRefW
namespace Go.Proofs.YtbbbokkfhfmoeaaDoor
open Go.RowKit Go.Lib

set_option maxHeartbeats 1000000 in
theorem lawWrites_any (l : List UInt8) (w : World) (hS : Spans w) (hn : 6 * l.length ≤ 140737488355328) :
    Calls Tryd.prog 4 #[.string ⟨l.toArray⟩] w fun e w' => e = .returned (.bool true) ∧ Below w.heap.size w w' := by
  have c1 := rfFixed_any w hS
  have c2 := fun W => rfText_any l W hn
  have c3 := fun W => refText_any l W (by omega)
  have c4 := fun W => rfValue_any l W hn
  have c5 := fun W => refValue_any l W (by omega)
  generalize Rf.esc Rf.inT l = T at *
  generalize Rf.esc Rf.inV l = V at *
  clear hS
  go_enter Tryd.func4, Tryd.ntmps4
  go_wp2_with fail
  refine c1.mono ?_
  rintro e w1 ⟨rfl, hb1⟩
  clear c1
  go_wp2_with fail
  refine (c2 w1).mono ?_
  rintro e w2 ⟨rfl, hb2⟩
  have hB2 := hb1.trans (hb2.mono hb1.size)
  clear c2 hb1 hb2
  go_wp2_with fail
  refine (c3 w2).mono ?_
  rintro e w3 ⟨rfl, hb3⟩
  have hB3 := hB2.trans (hb3.mono hB2.size)
  clear c3 hb3 hB2
  go_wp2_with fail
  refine (c4 w3).mono ?_
  rintro e w4 ⟨rfl, hb4⟩
  have hB4 := hB3.trans (hb4.mono hB3.size)
  clear c4 hb4 hB3
  go_wp2_with fail
  refine (c5 w4).mono ?_
  rintro e w5 ⟨rfl, hb5⟩
  have hB5 := hB4.trans (hb5.mono hB4.size)
  clear c5 hb5 hB4
  go_wp2
  go_ret
  exact ⟨rfl, hB5⟩
end Go.Proofs.YtbbbokkfhfmoeaaDoor
