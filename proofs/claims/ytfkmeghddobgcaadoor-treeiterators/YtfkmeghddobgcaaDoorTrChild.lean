/-
  WALKS over (*tree.Tree).children and the function that it hands back; Along by child.
-/
import Derived.Test.YtfkmeghddobgcaaDoorTrAxM
namespace Go.Proofs.YtfkmeghddobgcaaDoor
open Go.RowKit Go.Shelf Go.Lib
attribute [local go_sem] Oper.semAt_some
namespace Tr
/-- what 'behind' reads of a tree -/
structure TN (W : World) (D q cap nd n : Nat) (E : Nat → Ev Value) : Prop where
  c1 : W.cell? ⟨D, 1, none⟩ = some (.slice (some ⟨q, 0, none⟩) nd cap)
  nb : ∀ k, k < nd → W.cell? ⟨q, k * 4 + 1, none⟩ = some (.int .i64 ((grun E n).nth k).beh)
theorem TreeR.tn {W : World} {B D n : Nat} {E : Nat → Ev Value} {L q cap nd : Nat} (h : TreeR W B D n E L q cap nd) : TN W D q cap nd n E := ⟨h.c1, fun _ hk => (h.node hk).2.1⟩
/-- these blocks are as they were -/
def Keep4 (a b c d : Nat) (W W' : World) : Prop := ∀ k, k = a ∨ k = b ∨ k = c ∨ k = d → W'.heap[k]? = W.heap[k]?
theorem keep4_t {a b c d : Nat} {A B C : World} (h : Keep4 a b c d A B) (k : Keep4 a b c d B C) : Keep4 a b c d A C := fun i hi => (k i hi).trans (h i hi)
theorem keep4_b {a b c d N : Nat} (ha : a < N) (hb : b < N) (hc : c < N) (hd : d < N) (W : World) (l : Nat) (o o' : Obj) (h1 : N ≤ l) (_ : W.heap[l]? = some o) (_ : o.isCells = false) (_ : o.isWalk = false) : Keep4 a b c d W (W.putObj l o') :=
  fun k hk => World.putObj_heap_other (by omega)
theorem TN.keep {W W' : World} {D q cap nd n : Nat} {E : Nat → Ev Value} (h : TN W D q cap nd n E) (hD : W'.heap[D]? = W.heap[D]?) (hq : W'.heap[q]? = W.heap[q]?) : TN W' D q cap nd n E :=
  ⟨(World.cell?_of_block (a := ⟨D, 1, none⟩) hD).trans h.c1, fun k hk => (World.cell?_of_block (a := ⟨q, k * 4 + 1, none⟩) hq).trans (h.nb k hk)⟩
end Tr
set_option maxHeartbeats 1000000 in
theorem trBehindN (W : World) (D q cap nd n : Nat) (E : Nat → Tr.Ev Value) (h : Tr.TN W D q cap nd n E) (k : Int) (hk : k < nd) :
    Calls Tryd.prog 42 #[.pointer (some ⟨D, 0, none⟩), .int .i64 k] W fun e w' => e = .returned (.int .i64 (Tr.bh E n nd k)) ∧ w' = W := by
  have c1 := h.c1
  unfold Tr.bh
  by_cases h1 : k < 0
  · rw [if_pos h1]
    clear h
    go_enter Tryd.func42, Tryd.ntmps42
    go_wp2
    go_ret
    exact ⟨rfl, rfl⟩
  · rw [if_neg h1]
    obtain ⟨j, rfl⟩ : ∃ j : Nat, k = j := ⟨k.toNat, by omega⟩
    have c2 := h.nb j (by omega)
    rw [Int.toNat_natCast]
    clear h
    go_enter Tryd.func42, Tryd.ntmps42
    go_wp2
    go_ret
    exact ⟨rfl, rfl⟩
set_option maxRecDepth 100000 in
set_option maxHeartbeats 2000000 in
/-- the function that children hands back -/
theorem trCh1 (m : Nat) (hm : 1 ≤ m) (l Bt Bn D q cap nd n : Nat) (E : Nat → Tr.Ev Value) (k : Int) (hsh : Tr.Shape E (Tr.grun E n) nd n) (hk0 : -1 ≤ k) (hk : k < nd) (hnd : nd ≤ 1048576) (J Jx : List (Tr.Num (k + 1) (Tr.bh E n nd k)) → World → Prop) (W : World)
    (hY : ∀ pre x W1, J pre W1 → pre.length < (Tr.chS E n nd k).length → YieldAt Fence.wide (m - 1) Tryd.prog l (Tr.encI x) W1 fun e W' =>
      (e = .returned (.bool true) ∧ J (pre ++ [x]) W' ∧ Tr.Keep4 Bt Bn D q W1 W') ∨ (e = .returned (.bool false) ∧ Jx (pre ++ [x]) W'))
    (hBt : W.cell? ⟨Bt, 0, none⟩ = some (.pointer (some ⟨D, 0, none⟩))) (hBn : W.cell? ⟨Bn, 0, none⟩ = some (.int .i64 k)) (hT : Tr.TN W D q cap nd n E) (h0 : J [] W) :
    CallsIn Fence.wide m Tryd.prog 53 #[.func (.yield l) #[] #[], .pointer (some ⟨Bt, 0, none⟩), .pointer (some ⟨Bn, 0, none⟩)] W fun e W' => (∃ v, e = .returned v) ∧
      ((∃ ys, ys = Tr.chS E n nd k ∧ J ys W') ∨ (∃ pre, pre <+: Tr.chS E n nd k ∧ Jx pre W')) := by
  have hbu := Tr.bh_up hsh hk0 hk
  have hstep : ∀ x, k + 1 ≤ x → x < Tr.bh E n nd k → ∃ h, Tr.chF E n nd (k + 1) (Tr.bh E n nd k) (Tr.bh E n nd k - x).toNat x = ⟨x, h⟩ :: Tr.chF E n nd (k + 1) (Tr.bh E n nd k) (Tr.bh E n nd k - Tr.bh E n nd x).toNat (Tr.bh E n nd x) := fun x h1 h2 => ⟨⟨h1, h2⟩, Tr.chF_step hsh (by omega) hbu.2 h1 h2⟩
  have hend : ∀ x, ¬ x < Tr.bh E n nd k → Tr.chF E n nd (k + 1) (Tr.bh E n nd k) (Tr.bh E n nd k - x).toNat x = [] := fun x h => Tr.chF_end h
  have hin : ∀ x, k + 1 ≤ x → x < Tr.bh E n nd k → x < Tr.bh E n nd x ∧ Tr.bh E n nd x ≤ Tr.bh E n nd k := fun x h1 h2 => ⟨(Tr.bh_up hsh (by omega) (by omega)).1, Tr.bh_in hsh hk0 hk (by omega) h2⟩
  have hCS : Tr.chS E n nd k = Tr.chF E n nd (k + 1) (Tr.bh E n nd k) (Tr.bh E n nd k - (k + 1)).toNat (k + 1) := rfl
  have cB : ∀ W1 x, Tr.TN W1 D q cap nd n E → x < (nd : Int) → _ := fun W1 x h1 h2 => trBehindN W1 D q cap nd n E h1 x h2
  have C0 := hide' (cB W k hT hk)
  generalize Tr.chS E n nd k = CS at *
  obtain ⟨b, hb⟩ : ∃ b, Tr.bh E n nd k = b := ⟨_, rfl⟩
  have HST := hide' hstep
  have HEN := hide' hend
  have HIN := hide' hin
  have HCB := hide' cB
  have HCS := hide' hCS
  have HT := hide' hT
  have HY := hide' hY
  have hw : IntKind.i64.wrap (k + 1) = k + 1 := by rw [IntKind.wrap_i64]; omega
  clear hstep hend hin cB hCS hT hY hsh hb
  obtain ⟨hb1, hb2⟩ := hbu
  generalize Tr.bh E n nd k = b at *
  refine callsIn_of_wp Tryd.func53 rfl trivial ?_ rfl
  simp only [Tryd.ntmps53, List.size_toArray, List.length_cons, List.length_nil, Nat.reduceAdd, Nat.reduceSub, Array.replicate_succ, Array.replicate_zero, List.push_toArray, List.append_toArray, List.nil_append, List.cons_append]
  gi_wp2_with fail
  refine ⟨trivial, ?_⟩
  refine (callsIn_wide.2 C0.out).mono ?_
  rintro e w1 ⟨rfl, rfl⟩
  clear C0
  gi_wp2
  gi_loopw [5] (fun v wr => ∃ (x : Int) (ps : List (Tr.Num (k + 1) b)), v = .int .i64 x ∧ k + 1 ≤ x ∧ x ≤ b ∧ Hid (ps ++ Tr.chF E n nd (k + 1) b (b - x).toNat x = CS) ∧ J ps wr ∧ wr.cell? ⟨Bt, 0, none⟩ = some (.pointer (some ⟨D, 0, none⟩)) ∧ Hid (Tr.TN wr D q cap nd n E)) (fun v _ => (b - RowKit.intOf v).toNat)
  case atStart => exact ⟨k + 1, [], rfl, Int.le_refl _, by omega, HCS.out.symm, h0, hBt, HT⟩
  case round =>
    obtain ⟨x, ps, rfl, hx1, hx2, hq, hJs, cT, HTN⟩ := hrel
    by_cases hlt : x < b
    · have hq2 := hq.out
      obtain ⟨hh, e⟩ := HST.out x hx1 hlt
      rw [e] at hq2
      have hln := congrArg List.length hq2
      rw [List.length_append, List.length_cons] at hln
      obtain ⟨fn, tmps, assign, body, hy, hR⟩ := HY.out ps ⟨x, hh⟩ wr hJs (by omega)
      simp only [Tr.encI] at hy
      have HQ := hide' hq2
      obtain ⟨hi1, hi2⟩ := HIN.out x hx1 hlt
      have hxn : x < (nd : Int) := by omega
      clear hq hq2 HY hJs hln e
      gi_wp2
      refine hR.mono ?_
      rintro e W3 (⟨rfl, hJ3, hk3⟩ | ⟨rfl, hJx3⟩)
      · have cT3 : W3.cell? ⟨Bt, 0, none⟩ = some (.pointer (some ⟨D, 0, none⟩)) := (World.cell?_of_block (a := ⟨Bt, 0, none⟩) (hk3 Bt (.inl rfl))).trans cT
        have hT3 : Tr.TN W3 D q cap nd n E := HTN.out.keep (hk3 D (.inr (.inr (.inl rfl)))) (hk3 q (.inr (.inr (.inr rfl))))
        have HT3 := hide' hT3
        have C3 := hide' (HCB.out W3 x hT3 hxn)
        clear hT3 hk3
        gi_wp2_with fail
        refine ⟨trivial, ?_⟩
        refine (callsIn_wide.2 C3.out).mono ?_
        rintro e w4 ⟨rfl, rfl⟩
        clear C3
        gi_wp2
        go_roundw
        case rel => exact ⟨Tr.bh E n nd x, ps ++ [⟨x, hh⟩], rfl, by omega, hi2, by show _ = _; rw [List.append_assoc]; exact HQ.out, hJ3, cT3, HT3⟩
        case measure => simp [RowKit.intOf]; omega
      · gi_wp2
        refine bodyPost_ret (results_none rfl _ _ _) rfl ?_
        exact ⟨⟨_, rfl⟩, .inr ⟨_, ⟨_, by rw [List.append_assoc]; exact HQ.out⟩, hJx3⟩⟩
    · have hq2 := hq.out
      rw [HEN.out x (by omega), List.append_nil] at hq2
      have HQ := hide' hq2
      clear hq hq2 HY
      gi_wp2
      go_end0
      exact ⟨⟨_, rfl⟩, .inl (by rw [← HQ.out]; exact hJs)⟩
theorem trCh_stops (m : Nat) (hm : 1 ≤ m) (Bt Bn B D n : Nat) (E : Nat → Tr.Ev Value) (L q cap nd : Nat) (k : Int) (hk0 : -1 ≤ k) (hk : k < nd) (hnd : nd ≤ 1048576) (w : World) (h : Tr.TreeR w B D n E L q cap nd) (hBt : w.cell? ⟨Bt, 0, none⟩ = some (.pointer (some ⟨D, 0, none⟩))) (hBn : w.cell? ⟨Bn, 0, none⟩ = some (.int .i64 k)) :
    SeqStopsK Fence.wide m Tryd.prog 53 #[.pointer (some ⟨Bt, 0, none⟩), .pointer (some ⟨Bn, 0, none⟩)] (Tr.encI (a := k + 1) (b := Tr.bh E n nd k)) (Tr.Keep4 Bt Bn D q) (fun ys => ys = Tr.chS E n nd k) (fun pre => pre <+: Tr.chS E n nd k) (Tr.chS E n nd k).length w := fun l J Jx W hW _ _ hY h0 =>
  trCh1 m hm l Bt Bn D q cap nd n E k h.shp hk0 hk hnd J Jx W hY ((hW.cell (p := ⟨Bt, 0, none⟩) (block_lt_of_cell hBt)).trans hBt) ((hW.cell (p := ⟨Bn, 0, none⟩) (block_lt_of_cell hBn)).trans hBn) (h.below hW).tn h0
theorem trChildren (D : Nat) (k : Int) (w : World) :
    Calls Tryd.prog 41 #[.pointer (some ⟨D, 0, none⟩), .int .i64 k] w fun e w' => e = .returned (.func (.func 53) #[] #[.pointer (some ⟨w.heap.size, 0, none⟩), .pointer (some ⟨w.heap.size + 1, 0, none⟩)]) ∧ w' = (w.alloc (.cells #[.pointer (some ⟨D, 0, none⟩)] 25)).alloc (.cells #[.int .i64 k] 3) := by
  go_enter Tryd.func41, Tryd.ntmps41
  go_wp2
  go_ret
  exact ⟨rfl, rfl⟩
set_option maxHeartbeats 2000000 in
theorem trAlongC (W : World) (B D n : Nat) (E : Nat → Tr.Ev Value) (L q cap nd : Nat) (h : Tr.TreeR W B D n E L q cap nd) (k : Int) (h0 : -1 ≤ k) (h1 : k < nd) :
    Calls Tryd.prog 25 #[.pointer (some ⟨D, 0, none⟩), .int .i64 k, .int .i64 0] W fun e w' => e = .returned (.func (.func 53) #[] #[.pointer (some ⟨W.heap.size, 0, none⟩), .pointer (some ⟨W.heap.size + 1, 0, none⟩)]) ∧ w' = (W.alloc (.cells #[.pointer (some ⟨D, 0, none⟩)] 25)).alloc (.cells #[.int .i64 k] 3) := by
  have cL := trLacks W B D n E L q cap nd h k (-1)
  rw [if_neg (by omega)] at cL
  have CC := hide' (trChildren D k W)
  clear h
  go_enter Tryd.func25, Tryd.ntmps25
  go_wp2_with fail
  refine cL.mono ?_
  rintro e w1 ⟨rfl, rfl⟩
  clear cL
  go_wp2_with fail
  refine CC.out.mono ?_
  rintro e w1 ⟨rfl, rfl⟩
  clear CC
  go_wp2_with fail
  go_ret
  exact ⟨rfl, rfl⟩
end Go.Proofs.YtfkmeghddobgcaaDoor
