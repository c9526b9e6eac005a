/-
  WALKS over the document's written, Text and Value.
-/
import Derived.Test.YtbbbokkfhfmoeabDoorRfEsc
import Derived.BigQuiet
namespace Go.Proofs.YtbbbokkfhfmoeabDoor
open Go.RowKit Go.Lib

namespace Rf
/-- how a byte is written, by the first j of the forms -/
def wr (bl : List UInt8) (fl : List (List UInt8)) (x : UInt8) : Nat → List UInt8
  | 0 => [x]
  | j + 1 => if x = bl[j]?.getD 0 then fl[j]?.getD [] else wr bl fl x j
def bT : List UInt8 := [38, 60, 62, 13]
def fT : List (List UInt8) := [[38, 97, 109, 112, 59], [38, 108, 116, 59], [38, 103, 116, 59], [38, 35, 120, 68, 59]]
def bV : List UInt8 := [38, 60, 34, 9, 10, 13]
def fV : List (List UInt8) := [[38, 97, 109, 112, 59], [38, 108, 116, 59], [38, 113, 117, 111, 116, 59], [38, 35, 120, 57, 59], [38, 35, 120, 65, 59], [38, 35, 120, 68, 59]]
theorem wrT0 : ∀ k : Fin 256, wr bT fT (UInt8.ofNat k.val) 4 = one inT (UInt8.ofNat k.val) := by decide +kernel
theorem wrV0 : ∀ k : Fin 256, wr bV fV (UInt8.ofNat k.val) 6 = one inV (UInt8.ofNat k.val) := by decide +kernel
theorem wrT (x : UInt8) : wr bT fT x 4 = one inT x := by
  have := wrT0 ⟨x.toNat, x.toNat_lt⟩
  simpa using this
theorem wrV (x : UInt8) : wr bV fV x 6 = one inV x := by
  have := wrV0 ⟨x.toNat, x.toNat_lt⟩
  simpa using this
theorem flat_le (g : UInt8 → List UInt8) (hg : ∀ x, (g x).length ≤ 6) (l : List UInt8) : (l.flatMap g).length ≤ 6 * l.length := by
  induction l with
  | nil => simp
  | cons a l ih =>
    have := hg a
    rw [List.flatMap_cons, List.length_append, List.length_cons]
    omega
theorem one_le {form : Nat → List UInt8} (hf : ∀ x, (form x).length ≤ 6) (x : UInt8) : (one form x).length ≤ 6 := by
  unfold one
  split
  · simp
  · exact hf _
theorem flat_take (g : UInt8 → List UInt8) (l : List UInt8) (k : Nat) (h : k < l.length) : (l.take (k + 1)).flatMap g = (l.take k).flatMap g ++ g (l[k]'h) := by
  rw [List.take_succ_eq_append_getElem h, List.flatMap_append]
  simp only [List.flatMap_cons, List.flatMap_nil, List.append_nil]
end Rf

theorem strAppend (a b : List UInt8) : (ByteArray.mk a.toArray) ++ (ByteArray.mk b.toArray) = ⟨(a ++ b).toArray⟩ := by
  have e : ((ByteArray.mk a.toArray) ++ (ByteArray.mk b.toArray)).data = (a ++ b).toArray := by
    rw [ByteArray.data_append]
    simp
  exact congrArg ByteArray.mk e

end Go.Proofs.YtbbbokkfhfmoeabDoor
