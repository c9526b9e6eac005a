import Derived.Test.YtcmjipgigkalcaaDoorTrBuild
import Derived.RangeFuncNested
import Derived.RangeFuncBound
import Derived.RangeFuncCalls
import Derived.RangeFuncLeaves
import Derived.Shelf.Abstract
import Derived.Shelf.RegionOpen
import Derived.OwnWalkIn
import Derived.TacticsInMore
import Derived.LoopNIn
import Derived.LoopIn
import Derived.OrdersHeld
import Derived.OrdersIn
import Derived.Deep.RegionHeld
/-
  WALKS over (*tree.Tree).Len, lacks, behind, tree.numbers and the function that it hands back, Along (but by child).
-/
namespace Go.Proofs.YtcmjipgigkalcaaDoor
open Go.RowKit Go.Shelf Go.Lib
attribute [local go_sem] Oper.semAt_some
namespace Tr
/-- the numbers from a to the one ahead of b -/
def numL (a b : Int) : List Int := (List.range (b - a).toNat).map fun (k : Nat) => a + (k : Int)
theorem numL_nil {a b : Int} (h : ¬ a < b) : numL a b = [] := by
  unfold numL
  rw [show (b - a).toNat = 0 by omega]
  rfl
theorem numL_step {a b : Int} (h : a < b) : numL a b = a :: numL (a + 1) b := by
  unfold numL
  rw [show (b - a).toNat = (b - (a + 1)).toNat + 1 by omega, List.range_succ_eq_map, List.map_cons, List.map_map]
  congr 1
  · simp
  · apply List.map_congr_left
    intro k _
    show a + ((k + 1 : Nat) : Int) = a + 1 + (k : Int)
    omega
theorem numL_length (a b : Int) : (numL a b).length = (b - a).toNat := by simp [numL]
/-- a number from a on, below b -/
abbrev Num (a b : Int) := { x : Int // a ≤ x ∧ x < b }
def numF (a b : Int) : Nat → Int → List (Num a b)
  | 0, _ => []
  | k + 1, x => if h : a ≤ x ∧ x < b then ⟨x, h⟩ :: numF a b k (x + 1) else []
def numS (a b : Int) : List (Num a b) := numF a b (b - a).toNat a
theorem numF_val (a b : Int) : ∀ (k : Nat) (x : Int), a ≤ x → (b - x).toNat = k → (numF a b k x).map (·.1) = numL x b
  | 0, x, _, h => by rw [numL_nil (by omega)]; rfl
  | k + 1, x, hx, h => by
    unfold numF
    rw [dif_pos ⟨hx, by omega⟩, List.map_cons, numF_val a b k (x + 1) (by omega) (by omega)]
    exact (numL_step (show x < b by omega)).symm
theorem numS_val (a b : Int) : (numS a b).map (·.1) = numL a b := numF_val a b _ a (Int.le_refl _) rfl
theorem numS_length (a b : Int) : (numS a b).length = (b - a).toNat := by
  have := congrArg List.length (numS_val a b)
  rw [List.length_map, numL_length] at this
  exact this
def encI {a b : Int} (x : Num a b) : Array Value := #[.int .i64 x.1]
/-- the box keeps its number -/
def Keep1 (Be : Nat) (W W' : World) : Prop := W'.cell? ⟨Be, 0, none⟩ = W.cell? ⟨Be, 0, none⟩
theorem keep1_t {Be : Nat} {A B C : World} (h : Keep1 Be A B) (k : Keep1 Be B C) : Keep1 Be A C := k.trans h
theorem keep1_b {Be : Nat} {w : World} (hB : Be < w.heap.size) (W : World) (l : Nat) (o o' : Obj) (h1 : w.heap.size ≤ l) (_ : W.heap[l]? = some o) (_ : o.isCells = false) (_ : o.isWalk = false) : Keep1 Be W (W.putObj l o') :=
  World.cell?_of_block (World.putObj_heap_other (by show Be ≠ l; omega))
end Tr
set_option maxRecDepth 100000 in
set_option maxHeartbeats 2000000 in
/-- the function that numbers hands back -/
theorem trNum1 (F : Fence) (m : Nat) (hF : F.fn 55) (hro : F.round = none) (hm : 1 ≤ m) (l Bf Be : Nat) (a b : Int) (ha : -1099511627776 ≤ a) (hb : b ≤ 1099511627776) (J Jx : List (Tr.Num a b) → World → Prop) (W : World)
    (hY : ∀ pre x W1, J pre W1 → pre.length < (Tr.numS a b).length → YieldAt F (m - 1) Tryd.prog l (Tr.encI x) W1 fun e W' =>
      (e = .returned (.bool true) ∧ J (pre ++ [x]) W' ∧ Tr.Keep1 Be W1 W') ∨ (e = .returned (.bool false) ∧ Jx (pre ++ [x]) W'))
    (hBf : W.cell? ⟨Bf, 0, none⟩ = some (.int .i64 a)) (hBe : W.cell? ⟨Be, 0, none⟩ = some (.int .i64 b)) (h0 : J [] W) :
    CallsIn F m Tryd.prog 55 #[.func (.yield l) #[] #[], .pointer (some ⟨Bf, 0, none⟩), .pointer (some ⟨Be, 0, none⟩)] W fun e W' => (∃ v, e = .returned v) ∧
      ((∃ ys, ys = Tr.numS a b ∧ J ys W') ∨ (∃ pre, pre <+: Tr.numS a b ∧ Jx pre W')) := by
  refine callsIn_of_wp Tryd.func55 rfl hF ?_ hro
  simp only [Tryd.ntmps55, List.size_toArray, List.length_cons, List.length_nil, Nat.reduceAdd, Nat.reduceSub, Array.replicate_succ, Array.replicate_zero, List.push_toArray, List.append_toArray, List.nil_append, List.cons_append]
  gi_wp2
  gi_loopw [4] (fun v wr => ∃ (x : Int) (q : List (Tr.Num a b)), v = .int .i64 x ∧ a ≤ x ∧ (x ≤ b ∨ x = a) ∧ Hid (q ++ Tr.numF a b (b - x).toNat x = Tr.numS a b) ∧ J q wr ∧ wr.cell? ⟨Be, 0, none⟩ = some (.int .i64 b)) (fun v _ => (b - RowKit.intOf v).toNat)
  case atStart => exact ⟨a, [], rfl, Int.le_refl _, .inr rfl, rfl, h0, hBe⟩
  case round =>
    obtain ⟨x, q, rfl, hx1, hx2, hq, hJs, cB⟩ := hrel
    by_cases hlt : x < b
    · have hq2 := hq.out
      rw [show (b - x).toNat = (b - (x + 1)).toNat + 1 by omega] at hq2
      unfold Tr.numF at hq2
      rw [dif_pos ⟨hx1, hlt⟩] at hq2
      have hln := congrArg List.length hq2
      rw [List.length_append, List.length_cons] at hln
      obtain ⟨fn, tmps, assign, body, hy, hR⟩ := hY q ⟨x, hx1, hlt⟩ wr hJs (by omega)
      simp only [Tr.encI] at hy
      have HQ := hide' hq2
      have hw : IntKind.i64.wrap (x + 1) = x + 1 := by rw [IntKind.wrap_i64]; omega
      clear hq hq2 hY hJs hln
      gi_wp2
      refine hR.mono ?_
      rintro e W3 (⟨rfl, hJ3, hk3⟩ | ⟨rfl, hJx3⟩)
      · have cB3 : W3.cell? ⟨Be, 0, none⟩ = some (.int .i64 b) := hk3.trans cB
        gi_wp2
        go_roundw
        case rel => exact ⟨x + 1, q ++ [⟨x, hx1, hlt⟩], rfl, by omega, .inl (by omega), by show _ = _; rw [List.append_assoc]; exact HQ.out, hJ3, cB3⟩
        case measure => simp [RowKit.intOf]; omega
      · gi_wp2
        refine bodyPost_ret (results_none rfl _ _ _) rfl ?_
        exact ⟨⟨_, rfl⟩, .inr ⟨_, ⟨_, by rw [List.append_assoc]; exact HQ.out⟩, hJx3⟩⟩
    · have hq2 := hq.out
      rw [show (b - x).toNat = 0 by omega, show Tr.numF a b 0 x = [] from rfl, List.append_nil] at hq2
      have HQ := hide' hq2
      clear hq hq2 hY
      gi_wp2
      go_end0
      exact ⟨⟨_, rfl⟩, .inl (by rw [← HQ.out]; exact hJs)⟩
theorem trNum_stops (F : Fence) (m : Nat) (hF : F.fn 55) (hro : F.round = none) (hm : 1 ≤ m) (Bf Be : Nat) (a b : Int) (ha : -1099511627776 ≤ a) (hb : b ≤ 1099511627776) (w : World) (hBf : w.cell? ⟨Bf, 0, none⟩ = some (.int .i64 a)) (hBe : w.cell? ⟨Be, 0, none⟩ = some (.int .i64 b)) :
    SeqStopsK F m Tryd.prog 55 #[.pointer (some ⟨Bf, 0, none⟩), .pointer (some ⟨Be, 0, none⟩)] (Tr.encI (a := a) (b := b)) (Tr.Keep1 Be) (fun ys => ys = Tr.numS a b) (fun pre => pre <+: Tr.numS a b) (Tr.numS a b).length w := fun l J Jx W hW _ _ hY h0 =>
  trNum1 F m hF hro hm l Bf Be a b ha hb J Jx W hY ((hW.cell (p := ⟨Bf, 0, none⟩) (block_lt_of_cell hBf)).trans hBf) ((hW.cell (p := ⟨Be, 0, none⟩) (block_lt_of_cell hBe)).trans hBe) h0
theorem trNumbers (a b : Int) (w : World) :
    Calls Tryd.prog 42 #[.int .i64 a, .int .i64 b] w fun e w' => e = .returned (.func (.func 55) #[] #[.pointer (some ⟨w.heap.size, 0, none⟩), .pointer (some ⟨w.heap.size + 1, 0, none⟩)]) ∧ w' = (w.alloc (.cells #[.int .i64 a] 3)).alloc (.cells #[.int .i64 b] 3) := by
  go_enter Tryd.func42, Tryd.ntmps42
  go_wp2
  go_ret
  exact ⟨rfl, rfl⟩
set_option maxHeartbeats 1000000 in
theorem trLen (W : World) (B D n : Nat) (E : Nat → Tr.Ev Value) (L q cap nd : Nat) (h : Tr.TreeR W B D n E L q cap nd) :
    Calls Tryd.prog 10 #[.pointer (some ⟨D, 0, none⟩)] W fun e w' => e = .returned (.int .i64 (nd : Nat)) ∧ w' = W := by
  have c1 := h.c1
  clear h
  go_enter Tryd.func10, Tryd.ntmps10
  go_wp2
  go_ret
  exact ⟨rfl, rfl⟩
set_option maxHeartbeats 1000000 in
theorem trLacks (W : World) (B D n : Nat) (E : Nat → Tr.Ev Value) (L q cap nd : Nat) (h : Tr.TreeR W B D n E L q cap nd) (k least : Int) :
    Calls Tryd.prog 29 #[.pointer (some ⟨D, 0, none⟩), .int .i64 k, .int .i64 least] W fun e w' => e = .returned (.int .i64 (if k < least ∨ (nd : Int) ≤ k then 2 else 0)) ∧ w' = W := by
  have c1 := h.c1
  clear h
  by_cases h1 : k < least
  · rw [if_pos (.inl h1)]
    go_enter Tryd.func29, Tryd.ntmps29
    go_wp2
    go_ret
    exact ⟨rfl, rfl⟩
  · by_cases h2 : (nd : Int) ≤ k
    · rw [if_pos (.inr h2)]
      go_enter Tryd.func29, Tryd.ntmps29
      go_wp2
      go_ret
      exact ⟨rfl, rfl⟩
    · rw [if_neg (fun h => h.elim h1 h2)]
      go_enter Tryd.func29, Tryd.ntmps29
      go_wp2
      go_ret
      exact ⟨rfl, rfl⟩
namespace Tr
/-- the number behind those of the nodes in k -/
def bh (E : Nat → Ev Value) (n nd : Nat) (k : Int) : Int := if k < 0 then nd else ((grun E n).nth k.toNat).beh
end Tr
set_option maxHeartbeats 1000000 in
theorem trBehind (W : World) (B D n : Nat) (E : Nat → Tr.Ev Value) (L q cap nd : Nat) (h : Tr.TreeR W B D n E L q cap nd) (k : Int) (hk : k < nd) :
    Calls Tryd.prog 44 #[.pointer (some ⟨D, 0, none⟩), .int .i64 k] W fun e w' => e = .returned (.int .i64 (Tr.bh E n nd k)) ∧ w' = W := by
  have c1 := h.c1
  unfold Tr.bh
  by_cases h1 : k < 0
  · rw [if_pos h1]
    clear h
    go_enter Tryd.func44, Tryd.ntmps44
    go_wp2
    go_ret
    exact ⟨rfl, rfl⟩
  · rw [if_neg h1]
    obtain ⟨j, rfl⟩ : ∃ j : Nat, k = j := ⟨k.toNat, by omega⟩
    obtain ⟨_, c2, _, _⟩ := h.node (k := j) (by omega)
    rw [Int.toNat_natCast]
    clear h
    go_enter Tryd.func44, Tryd.ntmps44
    go_wp2
    go_ret
    exact ⟨rfl, rfl⟩
namespace Tr
/-- where an axis begins and ends, but child -/
def alF (E : Nat → Ev Value) (n nd : Nat) (k ax : Int) : Int × Int :=
  if k < -1 ∨ (nd : Int) ≤ k then (0, 0) else if ax = 1 then (k + 1, bh E n nd k) else if ax = 2 then (k, bh E n nd k) else if ax = 3 then (k, k + 1) else (0, 0)
end Tr
set_option maxHeartbeats 2000000 in
theorem trAlong (W : World) (B D n : Nat) (E : Nat → Tr.Ev Value) (L q cap nd : Nat) (h : Tr.TreeR W B D n E L q cap nd) (hn : nd ≤ 1048576) (k ax : Int) (h0 : ax ≠ 0) :
    Calls Tryd.prog 31 #[.pointer (some ⟨D, 0, none⟩), .int .i64 k, .int .i64 ax] W fun e w' => e = .returned (.func (.func 55) #[] #[.pointer (some ⟨W.heap.size, 0, none⟩), .pointer (some ⟨W.heap.size + 1, 0, none⟩)]) ∧ w' = (W.alloc (.cells #[.int .i64 (Tr.alF E n nd k ax).1] 3)).alloc (.cells #[.int .i64 (Tr.alF E n nd k ax).2] 3) := by
  have cL := trLacks W B D n E L q cap nd h k (-1)
  unfold Tr.alF
  by_cases c1 : k < -1 ∨ (nd : Int) ≤ k
  · rw [if_pos c1] at cL ⊢
    have cN := trNumbers 0 0 W
    clear c1 h
    go_enter Tryd.func31, Tryd.ntmps31
    go_wp2_with fail
    refine cL.mono ?_
    rintro e w1 ⟨rfl, rfl⟩
    clear cL
    go_wp2_with fail
    refine cN.mono ?_
    rintro e w1 ⟨rfl, rfl⟩
    clear cN
    go_wp2_with fail
    go_ret
    exact ⟨rfl, rfl⟩
  · rw [if_neg c1] at cL ⊢
    have cB := trBehind W B D n E L q cap nd h k (by omega)
    have cN : ∀ a b, _ := fun a b => trNumbers a b W
    have hw : IntKind.i64.wrap (k + 1) = k + 1 := by rw [IntKind.wrap_i64]; omega
    have HCB := hide' cB
    have HCN := hide' cN
    clear c1 h cB cN
    by_cases a1 : ax = 1
    · rw [if_pos a1]
      subst a1
      go_enter Tryd.func31, Tryd.ntmps31
      go_wp2_with fail
      refine cL.mono ?_
      rintro e w1 ⟨rfl, rfl⟩
      clear cL
      go_wp2_with fail
      refine HCB.out.mono ?_
      rintro e w1 ⟨rfl, rfl⟩
      go_wp2_with fail
      refine (HCN.out _ _).mono ?_
      rintro e w1 ⟨rfl, rfl⟩
      go_wp2_with fail
      go_ret
      exact ⟨rfl, rfl⟩
    · rw [if_neg a1]
      by_cases a2 : ax = 2
      · rw [if_pos a2]
        subst a2
        go_enter Tryd.func31, Tryd.ntmps31
        go_wp2_with fail
        refine cL.mono ?_
        rintro e w1 ⟨rfl, rfl⟩
        clear cL
        go_wp2_with fail
        refine HCB.out.mono ?_
        rintro e w1 ⟨rfl, rfl⟩
        go_wp2_with fail
        refine (HCN.out _ _).mono ?_
        rintro e w1 ⟨rfl, rfl⟩
        go_wp2_with fail
        go_ret
        exact ⟨rfl, rfl⟩
      · rw [if_neg a2]
        by_cases a3 : ax = 3
        · rw [if_pos a3]
          subst a3
          go_enter Tryd.func31, Tryd.ntmps31
          go_wp2_with fail
          refine cL.mono ?_
          rintro e w1 ⟨rfl, rfl⟩
          clear cL
          go_wp2_with fail
          refine (HCN.out _ _).mono ?_
          rintro e w1 ⟨rfl, rfl⟩
          go_wp2_with fail
          go_ret
          exact ⟨rfl, rfl⟩
        · rw [if_neg a3]
          go_enter Tryd.func31, Tryd.ntmps31
          go_wp2_with fail
          refine cL.mono ?_
          rintro e w1 ⟨rfl, rfl⟩
          clear cL
          go_wp2_with fail
          refine (HCN.out _ _).mono ?_
          rintro e w1 ⟨rfl, rfl⟩
          go_wp2_with fail
          go_ret
          exact ⟨rfl, rfl⟩
end Go.Proofs.YtcmjipgigkalcaaDoor
/-
  A region that draws its order, within a round of a loop over an iterator: the orders of its operations are walked as outside of one, if none of them defers.
-/
namespace Go.Proofs.YtcmjipgigkalcaaDoor
open Go.RowKit Go.Shelf Go.Lib
namespace Tr
theorem rowsIn_of {P : Program} {row : String} {args : Array Value} {w : World} {R : Value → World → Prop} {n l : Nat} (h : Rows P row args w R) : RowsIn (Fence.wide.inRound l) n P row args w R := fun c cs _ =>
  let ⟨v, w', r, s⟩ := h c cs
  ⟨v, w', r, stepsIn_wide.2 s⟩
theorem opIn_of {P : Program} {ops : Array Oper} {Q : Exit → Act → World → Prop} {i n l : Nat} {K K' : Act → World → Prop} {a : Act} {w : World} (hd : ∀ o : Oper, ops[i]? = some o → ∀ c, o.op ≠ .defer c) (hL : ¬ LetsOut Q)
    (hK : ∀ a w, K a w → K' a w) (h : wpOp P ops Q i K a w) : wpOpIn (Fence.wide.inRound l) n P ops Q i K' a w := by
  unfold wpOp at h
  unfold wpOpIn
  cases ho : ops[i]? with
  | none =>
    rw [ho] at h
    exact hK _ _ h
  | some o =>
    rw [ho] at h
    dsimp only at h ⊢
    split at h
    · next hw =>
      rw [if_pos hw]
      rcases h with h | ⟨_, h⟩
      · refine ⟨fun _ _ => trivial, ?_⟩
        rw [Oper.semAt_eq _ _ _ (hd o ho)]
        unfold Oper.wp at h
        generalize (execOp a.eval o).run P w = r at *
        cases r with
        | ok x w' =>
          cases x with
          | value v => exact hK _ _ h
          | skip => exact hK _ _ h
          | defer d => exact hK _ _ h
          | enter f args =>
            refine ⟨(fun e => by cases e), CallsIn.inRound l (callsIn_wide.2 (Calls.mono h fun e w'' he => ?_))⟩
            cases e with
            | returned v => exact hK _ _ he
            | panicked c => exact he
            | outgrown => exact he
          | row rw args => exact ⟨(fun e => by cases e), rowsIn_of (Rows.mono h fun v w'' he => hK _ _ he)⟩
          | _ => exact h.elim
        | halt x w' =>
          cases x <;> exact h
      · exact absurd h hL
    · next hw =>
      rw [if_neg hw]
      exact ⟨fun _ _ => trivial, hK _ _ h⟩
theorem anyIn_of {P : Program} {md : Region.Mode} {ops : Array Oper} {Q : Exit → Act → World → Prop} {n l : Nat} (hd : ∀ (i : Nat) (o : Oper), ops[i]? = some o → ∀ c, o.op ≠ .defer c) (hL : ¬ LetsOut Q) :
    ∀ (fuel : Nat) (listed : Array Bool) (a : Act) (w : World), wpAny P md ops Q fuel listed a w → wpAnyIn (Fence.wide.inRound l) n P md ops Q fuel listed a w
  | 0, _, _, _, h => h
  | fuel + 1, _, _, _, h => ⟨h.1, fun i hi => opIn_of (hd i) hL (fun a w h => anyIn_of hd hL fuel _ a w h) (h.2 i hi)⟩
/-- the beginning, within a round -/
theorem wpIn_round_held {P : Program} {ops : Array Oper} {Q : Exit → Act → World → Prop} {S : World → Prop} {n l id : Nat} {a : Act} {w : World} (hm : P.follows .mixedOrders = true) (hd : (ops.all fun o => match o.op with | .defer _ => false | _ => true) = true) (hL : ¬ LetsOut Q) (hS : S w.drew)
    (h : S w.drew → wpAnyH P .any ops Q S ops.size (Array.replicate ops.size false) a w.drew) : (Code.region id ops true).wpIn (Fence.wide.inRound l) n P Q a w := by
  refine wpIn_region_any hm (anyIn_of (fun i o hi c e => ?_) hL _ _ _ _ (wpAny_of_held _ _ _ _ (h hS)))
  obtain ⟨hlt, rfl⟩ := Array.getElem?_eq_some_iff.1 hi
  have := Array.all_eq_true.1 hd i hlt
  rw [e] at this
  cases this
end Tr
end Go.Proofs.YtcmjipgigkalcaaDoor
