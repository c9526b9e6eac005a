/-
  NARROWER THAN 'FOR EVERY INPUT', by the rows' own cells (each row's printed sentence says how): KleeneChecks: loops · KleeneSimplifies: loops · KleeneKeeps: loops · KleeneGrows: loops · KleeneTurns: loops.
  DERIVED. THE GIVEN ROWS OF THIS SEAT. 6 by the template 'for every input the law returns true; each argument reads behind the call as it read before'; 0 by the template 'total and deterministic' (their statements: YtipnhfnjoaoceaaTotals.lean).
  GIVEN WITH THE SEED: the statements are not yours to turn. If you find one false, say at which input.
  Laid BY PROGRAM, IN A SANDBOX (cutbox-rows.mjs): the forced cells as the released guide's own fill.sh prints them over the translation d81e6547e3ea90c2… (all of the seat's roots in one cut). By AI agents, Wed Nov 11 2026. No macro, syntax, notation, axiom, sorry.
-/
import Derived.Test.YtipnhfnjoaoceaaChecked
import GoSem.Claim
import GoSem.ClaimJoined
import GoSem.ClaimMapViews
import Derived.JoinedTies
import Derived.KernelRfl
namespace Go.Proofs.Ytipnhfnjoaoceaa
/- THE CELL 'sum', in the pinned program and in every row, IS THE sha256 OF THE DUMP (.gsa) THAT YtipnhfnjoaoceaaProg.lean LOADS. Nothing in Lean hashes anything: it is a label: what it is worth is what the hold of that sum in a sandbox is worth. -/
noncomputable def Try.pinned : Pinned := { name := "ytipnhfnjoaoceaa", sum := "d81e6547e3ea90c2b9ab49d2ca51cb6cd3e57b66129f2cb77153575bda65b2da", checked := Try.checked }
namespace Rows
def none {H : Type} : Left H := { results := [], args := [] }

/-- 'gimletlaw14.KleeneValues': WHATEVER THE INPUT: true; the input reads as it did. -/
def kleeneValuesSpec : ChangeSpec := { name := "kleeneValues", fn := fun _ => fun
  | [d1, d2] => { results := [.lit (.bool true)], args := [d1, d2] }
  | _ => none }
def kleeneValuesRow : OpenClaim := { program := "ytipnhfnjoaoceaa", sum := "d81e6547e3ea90c2b9ab49d2ca51cb6cd3e57b66129f2cb77153575bda65b2da", func := "gimlet/gimletlaw14.KleeneValues", spec := "kleeneValues", unfollowed := true, recurses := true, apart := false }
def KleeneValuesSaid : Prop := kleeneValuesRow.holds Try.pinned (OpenSpec.ofChange kleeneValuesSpec)

/-- ITS FALSE NEIGHBOUR: 'it returns false'. Refute it at one input. -/
def kleeneValuesWrong : ChangeSpec := { name := "kleeneValues", fn := fun _ => fun
  | [d1, d2] => { results := [.lit (.bool false)], args := [d1, d2] }
  | _ => none }
def KleeneValuesWrongFalsely : Prop := kleeneValuesRow.holds Try.pinned (OpenSpec.ofChange kleeneValuesWrong)

/-- 'gimletlaw14.KleeneChecks': WHATEVER THE INPUT: true; the input reads as it did. -/
def kleeneChecksSpec : ChangeSpec := { name := "kleeneChecks", fn := fun _ => fun
  | [d] => { results := [.lit (.bool true)], args := [d] }
  | _ => none }
def kleeneChecksRow : OpenClaim := { program := "ytipnhfnjoaoceaa", sum := "d81e6547e3ea90c2b9ab49d2ca51cb6cd3e57b66129f2cb77153575bda65b2da", func := "gimlet/gimletlaw14.KleeneChecks", spec := "kleeneChecks", unfollowed := true, recurses := true, loops := true, apart := false }
def KleeneChecksSaid : Prop := kleeneChecksRow.holds Try.pinned (OpenSpec.ofChange kleeneChecksSpec)

/-- ITS FALSE NEIGHBOUR: 'it returns false'. Refute it at one input. -/
def kleeneChecksWrong : ChangeSpec := { name := "kleeneChecks", fn := fun _ => fun
  | [d] => { results := [.lit (.bool false)], args := [d] }
  | _ => none }
def KleeneChecksWrongFalsely : Prop := kleeneChecksRow.holds Try.pinned (OpenSpec.ofChange kleeneChecksWrong)

/-- 'gimletlaw14.KleeneSimplifies': WHATEVER THE INPUT: true; the input reads as it did. -/
def kleeneSimplifiesSpec : ChangeSpec := { name := "kleeneSimplifies", fn := fun _ => fun
  | [d1, d2] => { results := [.lit (.bool true)], args := [d1, d2] }
  | _ => none }
def kleeneSimplifiesRow : OpenClaim := { program := "ytipnhfnjoaoceaa", sum := "d81e6547e3ea90c2b9ab49d2ca51cb6cd3e57b66129f2cb77153575bda65b2da", func := "gimlet/gimletlaw14.KleeneSimplifies", spec := "kleeneSimplifies", unfollowed := true, recurses := true, loops := true, apart := false }
def KleeneSimplifiesSaid : Prop := kleeneSimplifiesRow.holds Try.pinned (OpenSpec.ofChange kleeneSimplifiesSpec)

/-- ITS FALSE NEIGHBOUR: 'it returns false'. Refute it at one input. -/
def kleeneSimplifiesWrong : ChangeSpec := { name := "kleeneSimplifies", fn := fun _ => fun
  | [d1, d2] => { results := [.lit (.bool false)], args := [d1, d2] }
  | _ => none }
def KleeneSimplifiesWrongFalsely : Prop := kleeneSimplifiesRow.holds Try.pinned (OpenSpec.ofChange kleeneSimplifiesWrong)

/-- 'gimletlaw14.KleeneKeeps': WHATEVER THE INPUT: true; the input reads as it did. -/
def kleeneKeepsSpec : ChangeSpec := { name := "kleeneKeeps", fn := fun _ => fun
  | [d1, d2, d3] => { results := [.lit (.bool true)], args := [d1, d2, d3] }
  | _ => none }
def kleeneKeepsRow : OpenClaim := { program := "ytipnhfnjoaoceaa", sum := "d81e6547e3ea90c2b9ab49d2ca51cb6cd3e57b66129f2cb77153575bda65b2da", func := "gimlet/gimletlaw14.KleeneKeeps", spec := "kleeneKeeps", unfollowed := true, recurses := true, loops := true, apart := false }
def KleeneKeepsSaid : Prop := kleeneKeepsRow.holds Try.pinned (OpenSpec.ofChange kleeneKeepsSpec)

/-- ITS FALSE NEIGHBOUR: 'it returns false'. Refute it at one input. -/
def kleeneKeepsWrong : ChangeSpec := { name := "kleeneKeeps", fn := fun _ => fun
  | [d1, d2, d3] => { results := [.lit (.bool false)], args := [d1, d2, d3] }
  | _ => none }
def KleeneKeepsWrongFalsely : Prop := kleeneKeepsRow.holds Try.pinned (OpenSpec.ofChange kleeneKeepsWrong)

/-- 'gimletlaw14.KleeneGrows': WHATEVER THE INPUT: true; the input reads as it did. -/
def kleeneGrowsSpec : ChangeSpec := { name := "kleeneGrows", fn := fun _ => fun
  | [d1, d2, d3] => { results := [.lit (.bool true)], args := [d1, d2, d3] }
  | _ => none }
def kleeneGrowsRow : OpenClaim := { program := "ytipnhfnjoaoceaa", sum := "d81e6547e3ea90c2b9ab49d2ca51cb6cd3e57b66129f2cb77153575bda65b2da", func := "gimlet/gimletlaw14.KleeneGrows", spec := "kleeneGrows", unfollowed := true, recurses := true, loops := true, apart := false }
def KleeneGrowsSaid : Prop := kleeneGrowsRow.holds Try.pinned (OpenSpec.ofChange kleeneGrowsSpec)

/-- ITS FALSE NEIGHBOUR: 'it returns false'. Refute it at one input. -/
def kleeneGrowsWrong : ChangeSpec := { name := "kleeneGrows", fn := fun _ => fun
  | [d1, d2, d3] => { results := [.lit (.bool false)], args := [d1, d2, d3] }
  | _ => none }
def KleeneGrowsWrongFalsely : Prop := kleeneGrowsRow.holds Try.pinned (OpenSpec.ofChange kleeneGrowsWrong)

/-- 'gimletlaw14.KleeneTurns': WHATEVER THE INPUT: true; the input reads as it did. -/
def kleeneTurnsSpec : ChangeSpec := { name := "kleeneTurns", fn := fun _ => fun
  | [d] => { results := [.lit (.bool true)], args := [d] }
  | _ => none }
def kleeneTurnsRow : OpenClaim := { program := "ytipnhfnjoaoceaa", sum := "d81e6547e3ea90c2b9ab49d2ca51cb6cd3e57b66129f2cb77153575bda65b2da", func := "gimlet/gimletlaw14.KleeneTurns", spec := "kleeneTurns", unfollowed := true, recurses := true, loops := true, apart := false }
def KleeneTurnsSaid : Prop := kleeneTurnsRow.holds Try.pinned (OpenSpec.ofChange kleeneTurnsSpec)

/-- ITS FALSE NEIGHBOUR: 'it returns false'. Refute it at one input. -/
def kleeneTurnsWrong : ChangeSpec := { name := "kleeneTurns", fn := fun _ => fun
  | [d] => { results := [.lit (.bool false)], args := [d] }
  | _ => none }
def KleeneTurnsWrongFalsely : Prop := kleeneTurnsRow.holds Try.pinned (OpenSpec.ofChange kleeneTurnsWrong)

/- THE SECOND FORM. 'bulk': how many values and letters a reading holds, each counted each time it is reached (what is shared counts as often as it is met; a slice's spare places count too). A statement '..UptoSaid' is the law's where the arguments, and the package variables that the reading takes, are together of bulk at most 1048576: NARROWER than '..Said'. Prove '..Said' where nothing that the law and all that it calls make is longer than what came in: it says more and counts as full. Else prove '..UptoSaid'. A law counts once. -/
mutual
def uptoBulk {H : Type} : DataW H → Nat
  | .lit (.string bytes) => bytes.length + 1
  | .lit _ => 1
  | .nil => 1
  | .ptr d => uptoBulk d + 1
  | .slice elems spare => uptoBulkAll elems + uptoBulkAll spare + 1
  | .agg parts => uptoBulkAll parts + 1
  | .iface _ d => uptoBulk d + 1
  | .map entries => uptoBulkEntries entries + 1
  | .held _ => 1
def uptoBulkAll {H : Type} : List (DataW H) → Nat
  | [] => 0
  | d :: r => uptoBulk d + uptoBulkAll r
def uptoBulkEntries {H : Type} : List (Lit × DataW H) → Nat
  | [] => 0
  | x :: r => uptoBulkEntry x + uptoBulkEntries r
def uptoBulkEntry {H : Type} : Lit × DataW H → Nat
  | (.string bytes, d) => bytes.length + uptoBulk d + 1
  | (_, d) => uptoBulk d + 1
 end
def uptoSmall : (H : Type) → List (DataW H) → Bool := fun _ ds => decide (uptoBulkAll ds ≤ 1048576)
def OpenSpec.upto (s : _root_.Go.ChangeSpec) : _root_.Go.OpenSpec := { _root_.Go.OpenSpec.ofChange s with cond := some uptoSmall }

/-- 'gimletlaw14.KleeneValues', WHERE WHAT IT READS IS OF BULK AT MOST 1048576: true; the input reads as it did. -/
def kleeneValuesUptoRow : OpenClaim := { program := "ytipnhfnjoaoceaa", sum := "d81e6547e3ea90c2b9ab49d2ca51cb6cd3e57b66129f2cb77153575bda65b2da", func := "gimlet/gimletlaw14.KleeneValues", spec := "kleeneValues", unfollowed := true, recurses := true, apart := false, narrowed := true }
def KleeneValuesUptoSaid : Prop := kleeneValuesUptoRow.holds Try.pinned (OpenSpec.upto kleeneValuesSpec)

/-- 'gimletlaw14.KleeneChecks', WHERE WHAT IT READS IS OF BULK AT MOST 1048576: true; the input reads as it did. -/
def kleeneChecksUptoRow : OpenClaim := { program := "ytipnhfnjoaoceaa", sum := "d81e6547e3ea90c2b9ab49d2ca51cb6cd3e57b66129f2cb77153575bda65b2da", func := "gimlet/gimletlaw14.KleeneChecks", spec := "kleeneChecks", unfollowed := true, recurses := true, loops := true, apart := false, narrowed := true }
def KleeneChecksUptoSaid : Prop := kleeneChecksUptoRow.holds Try.pinned (OpenSpec.upto kleeneChecksSpec)

/-- 'gimletlaw14.KleeneSimplifies', WHERE WHAT IT READS IS OF BULK AT MOST 1048576: true; the input reads as it did. -/
def kleeneSimplifiesUptoRow : OpenClaim := { program := "ytipnhfnjoaoceaa", sum := "d81e6547e3ea90c2b9ab49d2ca51cb6cd3e57b66129f2cb77153575bda65b2da", func := "gimlet/gimletlaw14.KleeneSimplifies", spec := "kleeneSimplifies", unfollowed := true, recurses := true, loops := true, apart := false, narrowed := true }
def KleeneSimplifiesUptoSaid : Prop := kleeneSimplifiesUptoRow.holds Try.pinned (OpenSpec.upto kleeneSimplifiesSpec)

/-- 'gimletlaw14.KleeneKeeps', WHERE WHAT IT READS IS OF BULK AT MOST 1048576: true; the input reads as it did. -/
def kleeneKeepsUptoRow : OpenClaim := { program := "ytipnhfnjoaoceaa", sum := "d81e6547e3ea90c2b9ab49d2ca51cb6cd3e57b66129f2cb77153575bda65b2da", func := "gimlet/gimletlaw14.KleeneKeeps", spec := "kleeneKeeps", unfollowed := true, recurses := true, loops := true, apart := false, narrowed := true }
def KleeneKeepsUptoSaid : Prop := kleeneKeepsUptoRow.holds Try.pinned (OpenSpec.upto kleeneKeepsSpec)

/-- 'gimletlaw14.KleeneGrows', WHERE WHAT IT READS IS OF BULK AT MOST 1048576: true; the input reads as it did. -/
def kleeneGrowsUptoRow : OpenClaim := { program := "ytipnhfnjoaoceaa", sum := "d81e6547e3ea90c2b9ab49d2ca51cb6cd3e57b66129f2cb77153575bda65b2da", func := "gimlet/gimletlaw14.KleeneGrows", spec := "kleeneGrows", unfollowed := true, recurses := true, loops := true, apart := false, narrowed := true }
def KleeneGrowsUptoSaid : Prop := kleeneGrowsUptoRow.holds Try.pinned (OpenSpec.upto kleeneGrowsSpec)

/-- 'gimletlaw14.KleeneTurns', WHERE WHAT IT READS IS OF BULK AT MOST 1048576: true; the input reads as it did. -/
def kleeneTurnsUptoRow : OpenClaim := { program := "ytipnhfnjoaoceaa", sum := "d81e6547e3ea90c2b9ab49d2ca51cb6cd3e57b66129f2cb77153575bda65b2da", func := "gimlet/gimletlaw14.KleeneTurns", spec := "kleeneTurns", unfollowed := true, recurses := true, loops := true, apart := false, narrowed := true }
def KleeneTurnsUptoSaid : Prop := kleeneTurnsUptoRow.holds Try.pinned (OpenSpec.upto kleeneTurnsSpec)

end Rows
end Go.Proofs.Ytipnhfnjoaoceaa
