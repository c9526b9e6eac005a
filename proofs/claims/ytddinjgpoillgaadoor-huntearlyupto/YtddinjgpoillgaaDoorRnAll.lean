/-
  WALKS over runes.All and the function that it hands back: places and characters, one by one.
-/
import Derived.Test.YtddinjgpoillgaaDoorRnStr
import Derived.RangeFuncNested
import Derived.RangeFuncBound
import Derived.RangeFuncCalls
import Derived.RangeFuncLeaves
import Derived.Shelf.Abstract
import Derived.Shelf.RegionOpen
import Derived.OwnWalkIn
import Derived.TacticsInMore
import Derived.LoopNIn
import Derived.LoopIn
namespace Go.Proofs.YtddinjgpoillgaaDoor
open Go.RowKit Go.Shelf
attribute [local go_sem] Oper.semAt_some

namespace Rn
/-- a place below n and a character -/
abbrev Chr (n : Nat) := { x : Nat × Nat // x.1 < n ∧ x.2 < 2097152 }
/-- the characters from a place on, by at most so many -/
def chFrom (f : Nat → Nat) (n : Nat) (hf : ∀ j, f j < 256) : Nat → Nat → List (Chr n)
  | 0, _ => []
  | fuel + 1, p => if h : p < n then ⟨(p, (dec (off f p) (n - p)).1), h, dec_lt _ _ (fun _ => hf _) (by omega)⟩ :: chFrom f n hf fuel (p + (dec (off f p) (n - p)).2) else []
def chs (f : Nat → Nat) (n : Nat) (hf : ∀ j, f j < 256) : List (Chr n) := chFrom f n hf n 0
theorem chFrom_end (f : Nat → Nat) (n : Nat) (hf : ∀ j, f j < 256) (fuel p : Nat) (h : ¬ p < n) : chFrom f n hf fuel p = [] := by
  cases fuel with
  | zero => rfl
  | succ m => unfold chFrom; rw [dif_neg h]
def encC {n : Nat} (x : Chr n) : Array Value := #[.int .i64 (x.1.1 : Int), .int .i32 (x.1.2 : Int)]
end Rn

theorem grownBy_iterAt (w : World) (k : Nat) (s : ByteArray) (p : Nat) : w.grownBy (w.iterAt k s p) (some k) :=
  ⟨rfl, rfl, rfl, by rw [Lib.iterAt_size]; exact Nat.le_refl _, fun j _ hj => Lib.iterAt_other w k j s p (fun e => hj (by rw [e]))⟩

set_option maxRecDepth 100000 in
set_option maxHeartbeats 2000000 in
/-- the function that All hands back: for every loop body that keeps what is no cells -/
theorem all1_in (F : Fence) (m : Nat) (hF : F.fn 38) (hro : F.round = none) (hm : 1 ≤ m) (l Bs n : Nat) (f : Nat → Nat) (hf : ∀ j, f j < 256) (J Jx : List (Rn.Chr n) → World → Prop)
    (W : World) (hJ : AbidesFrom W.heap.size J)
    (hY : ∀ pre x W1, J pre W1 → pre.length < n → YieldAt F (m - 1) Tryd.prog l (Rn.encC x) W1 fun e W' =>
      (e = .returned (.bool true) ∧ J (pre ++ [x]) W' ∧ KeepsWalks W1 W') ∨ (e = .returned (.bool false) ∧ Jx (pre ++ [x]) W'))
    (hBs : W.cell? ⟨Bs, 0, none⟩ = some (.string (Rn.arr f n))) (h0 : J [] W) :
    CallsIn F m Tryd.prog 38 #[.func (.yield l) #[] #[], .pointer (some ⟨Bs, 0, none⟩)] W fun e W' => (∃ v, e = .returned v) ∧
      ((∃ ys, ys = Rn.chs f n hf ∧ J ys W') ∨ (∃ pre, pre <+: Rn.chs f n hf ∧ Jx pre W')) := by
  refine callsIn_of_wp Tryd.func38 rfl hF ?_ hro
  simp only [Tryd.ntmps38, List.size_toArray, List.length_cons, List.length_nil, Nat.reduceAdd, Nat.reduceSub, Array.replicate_succ, Array.replicate_zero, List.push_toArray, List.append_toArray, List.nil_append, List.cons_append]
  have hsz := Rn.arr_size f n
  gi_wp2
  gi_loopw [] (fun wr => ∃ (pos fuel : Nat) (pre : List (Rn.Chr n)), wr.heap[W.heap.size]? = some (.stringIter (Rn.arr f n) pos) ∧ J pre wr ∧ pre ++ Rn.chFrom f n hf fuel pos = Rn.chs f n hf ∧ n ≤ pos + fuel ∧ pre.length ≤ pos)
    (fun wr => n - wr.iterPos W.heap.size)
  case atStart =>
    refine ⟨0, n, [], World.iter_heap W _ 0, ?_, rfl, by omega, by simp⟩
    exact hJ [] W _ none h0 (World.grownBy_alloc W _ none) (fun r e => by cases e)
  case round =>
    obtain ⟨pos, fuel, pre, hit, hJs, hpre, hfu, hpl⟩ := hrel
    by_cases hlt : pos < n
    · have hnx : ∀ ty, (Instr.next (.pointer (some ⟨W.heap.size, 0, none⟩)) true ty).run Tryd.prog wr = _ := fun ty => Lib.run_next_any_at wr W.heap.size (Rn.arr f n) pos ty hit (by rw [hsz]; exact hlt)
      rw [Rn.arr_decode f n pos hf hlt] at hnx
      obtain ⟨q, rfl⟩ : ∃ q, fuel = q + 1 := ⟨fuel - 1, by omega⟩
      unfold Rn.chFrom at hpre
      rw [dif_pos hlt] at hpre
      obtain ⟨hd1, hd2, hd3⟩ := Rn.dec_pos (Rn.off f pos) (n - pos) (fun _ => hf _) (by omega)
      have hJ2 := hJ pre wr _ (some W.heap.size) hJs (grownBy_iterAt wr W.heap.size (Rn.arr f n) (pos + (Rn.dec (Rn.off f pos) (n - pos)).2)) (fun r e => by cases e; exact ⟨Nat.le_refl _, _, hit, rfl⟩)
      have hit2 := Lib.iterAt_heap wr W.heap.size (Rn.arr f n) pos (pos + (Rn.dec (Rn.off f pos) (n - pos)).2) hit
      have hx4 := Rn.dec_lt (Rn.off f pos) (n - pos) (fun _ => hf _) (by omega)
      obtain ⟨fn, tmps, assign, body, hy, hR⟩ := hY pre ⟨(pos, (Rn.dec (Rn.off f pos) (n - pos)).1), hlt, hx4⟩ _ hJ2 (by omega)
      simp only [Rn.encC] at hy
      have HP := hide' hpre
      clear hpre hY hJs hJ2
      gi_wp2
      refine hR.mono ?_
      rintro e W3 (⟨rfl, hJ3, hk3⟩ | ⟨rfl, hJx3⟩)
      · have hit3 := hk3.same _ _ hit2 rfl
        gi_wp2
        go_roundw
        case rel => exact ⟨pos + (Rn.dec (Rn.off f pos) (n - pos)).2, q, _, hit3, hJ3, by rw [List.append_assoc]; exact HP.out, by omega, by simp; omega⟩
        case measure => simp only [World.iterPos, hit3, hit]; omega
      · gi_wp2
        refine bodyPost_ret (results_none rfl _ _ _) rfl ?_
        exact ⟨⟨_, rfl⟩, .inr ⟨_, ⟨_, by rw [List.append_assoc]; exact HP.out⟩, hJx3⟩⟩
    · have hnx : ∀ ty, (Instr.next (.pointer (some ⟨W.heap.size, 0, none⟩)) true ty).run Tryd.prog wr = _ := fun ty => Lib.run_next_end_at wr W.heap.size (Rn.arr f n) pos ty hit (by rw [hsz]; exact hlt)
      rw [Rn.chFrom_end _ _ _ _ _ hlt, List.append_nil] at hpre
      have HP := hide' hpre
      clear hpre hY
      gi_wp2
      go_end0
      exact ⟨⟨_, rfl⟩, .inl ⟨_, HP.out, hJs⟩⟩

set_option maxHeartbeats 1000000 in
/-- All: the string is boxed; the function value captures the box -/
theorem all_in (F : Fence) (m : Nat) (hF : F.fn 34) (hro : F.round = none) (s : ByteArray) (w : World) :
    CallsIn F m Tryd.prog 34 #[.string s] w fun e w' => e = .returned (.func (.func 38) #[] #[.pointer (some ⟨w.heap.size, 0, none⟩)]) ∧ w' = w.alloc (.cells #[.string s] 9) := by
  refine callsIn_of_wp Tryd.func34 rfl hF ?_ hro
  simp only [Tryd.ntmps34, List.size_toArray, List.length_cons, List.length_nil, Nat.reduceAdd, Nat.reduceSub, Array.replicate_succ, Array.replicate_zero, List.push_toArray, List.append_toArray, List.nil_append, List.cons_append]
  gi_wp2
  go_ret
  exact ⟨rfl, rfl⟩

/-- All gives the characters, in order; or a beginning of them -/
theorem all_stops (F : Fence) (m : Nat) (hF : F.fn 38) (hro : F.round = none) (hm : 1 ≤ m) (Bs n : Nat) (f : Nat → Nat) (hf : ∀ j, f j < 256) (w : World)
    (hBs : w.cell? ⟨Bs, 0, none⟩ = some (.string (Rn.arr f n))) :
    SeqStopsK F m Tryd.prog 38 #[.pointer (some ⟨Bs, 0, none⟩)] (Rn.encC (n := n)) KeepsWalks (fun ys => ys = Rn.chs f n hf) (fun pre => pre <+: Rn.chs f n hf) n w := fun l J Jx W hW hJ _ hY h0 =>
  all1_in F m hF hro hm l Bs n f hf J Jx W hJ hY ((hW.cell (p := ⟨Bs, 0, none⟩) (block_lt_of_cell hBs)).trans hBs) h0
end Go.Proofs.YtddinjgpoillgaaDoor
