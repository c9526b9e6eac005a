/-
  What lexis.Words answers; what lies in memory while it reads.
-/
import Derived.Test.YtoccedbnnafjcaaDoorLxValM
import Derived.Test.YtoccedbnnafjcaaDoorLxFar
import Derived.Test.YtoccedbnnafjcaaDoorLxWdsM
import Derived.Test.YtoccedbnnafjcaaDoorRnGood
namespace Go.Proofs.YtoccedbnnafjcaaDoor
open Go.RowKit Go.Lib
namespace Lx
/-- the byte that is wrong, and why -/
def flt (f : Nat → Nat) (n : Nat) : Option (Nat × Int) := if V f n 0 = true then (words f n).2.map (fun a => (a, 104)) else some (Rn.good f n, 103)
/-- a fault lies there -/
def FaultAt (w : World) (d a : Nat) (f : Nat → Nat) (n : Nat) (why : Int) : Prop :=
  w.heap[d]? = some (.cells #[.int .i64 (a : Nat), .int .i64 ((Rn.plc f n a).1 : Nat), .int .i64 ((Rn.plc f n a).2.1 : Nat), .int .i64 ((Rn.plc f n a).2.2 : Nat), .int .i64 why] 40 (0, 0))
/-- what Words answers -/
inductive WordsE (f : Nat → Nat) (n : Nat) (w : World) : Ending → World → Prop
  | bad (a : Nat) (why : Int) (d : Nat) (w' : World) (h : flt f n = some (a, why)) (hd : w.heap.size ≤ d) (hF : FaultAt w' d a f n why) (hb : Below w.heap.size w w') : WordsE f n w (.returned (.tuple #[.slice none 0 0, .iface 34 (.pointer (some ⟨d, 0, none⟩))])) w'
  | ok (v : Value) (w' : World) (h : flt f n = none) (hv : V f n 0 = true) (hr : w'.ownsRow w.heap.size 43 7 v (words f n).1.length (wdls f n (words f n).1)) (hb : Below w.heap.size w w') : WordsE f n w (.returned (.tuple #[v, .nilIface])) w'
theorem plA_info : (Tryd.prog.info? 30).map (·.size) = some 4 := by kernel_rfl
theorem plA_one (p : Nat × Nat × Nat × Nat) : (plA p).all (·.oneCell') = true := by simp [plA, Value.oneCell']
theorem setAll_pl (p q : Nat × Nat × Nat × Nat) : setAll (plA p) 0 (plA q).toList = plA q := by kernel_rfl
theorem setAll_wd (k : Nat) (tx : ByteArray) (nm : Nat) (p q : Nat × Nat × Nat × Nat) : setAll (wdC k tx nm p) 3 (plA q).toList = wdC k tx nm q := by kernel_rfl
/-- where Words stands between two words -/
structure Wst (f : Nat → Nat) (n : Nat) (w : World) (Pb : Nat) (at_ d fuel : Nat) (acc : List (Nat × Wd)) (v4 : Value) (wr : World) : Prop where
  row : wr.ownsRow (Pb + 1) 43 7 v4 acc.length (wdls f n acc)
  pl : wr.heap[Pb]? = some (.cells (plA (d, Rn.plc f n d)) 30 (0, 0))
  rd : Fd.Run f n 0 d
  ra : Fd.Run f n 0 at_
  da : d ≤ at_
  an : at_ ≤ n
  fu : n ≤ at_ + fuel
  e1 : acc ++ (wds f n fuel at_).1 = (words f n).1
  e2 : (wds f n fuel at_).2 = (words f n).2
  sz : acc.length ≤ at_
  bl : Below w.heap.size w wr
  lo : w.heap.size ≤ Pb
theorem row_at {w w' : World} {B : Nat} {e : TypeId} {size : Nat} {v : Value} {n : Nat} {ys : List Value} (h : w.ownsRow B e size v n ys) (hk : ∀ g, v.ownBlock = some g → w'.heap[g]? = w.heap[g]?) : w'.ownsRow B e size v n ys := by
  refine ⟨h.1, ?_⟩
  rcases h.2 with h1 | ⟨g, cap, cur, hv, hb, hg, rest⟩
  · exact .inl h1
  · exact .inr ⟨g, cap, cur, hv, hb, (hk g (by rw [hv]; rfl)).trans hg, rest⟩
theorem row_base {w : World} {B B' : Nat} {e : TypeId} {size : Nat} {v : Value} {n : Nat} {ys : List Value} (h : w.ownsRow B e size v n ys) (hB : B' ≤ B) : w.ownsRow B' e size v n ys := by
  refine ⟨h.1, ?_⟩
  rcases h.2 with h1 | ⟨g, cap, cur, hv, hb, rest⟩
  · exact .inl h1
  · exact .inr ⟨g, cap, cur, hv, Nat.le_trans hB hb, rest⟩
theorem row_keep {w w' : World} {B : Nat} {e : TypeId} {k : Nat} {u : Value} {n : Nat} {ys : List Value} (ho : w.ownsRow B e k u n ys) (h : ∀ q, B ≤ q → q < w.heap.size → w'.heap[q]? = w.heap[q]?) : w'.ownsRow B e k u n ys :=
  row_at ho fun q hq => h q (ho.lt q hq).1 (ho.lt q hq).2
end Lx
end Go.Proofs.YtoccedbnnafjcaaDoor
