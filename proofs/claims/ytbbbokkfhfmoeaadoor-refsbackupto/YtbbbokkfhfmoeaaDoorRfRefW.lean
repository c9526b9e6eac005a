/-
  WALKS over the document's written, Text and Value.
-/
import Derived.Test.YtbbbokkfhfmoeaaDoorRfEsc
import Derived.BigQuiet
namespace Go.Proofs.YtbbbokkfhfmoeaaDoor
open Go.RowKit Go.Lib

namespace Rf
/-- how a byte is written, by the first j of the forms -/
def wr (bl : List UInt8) (fl : List (List UInt8)) (x : UInt8) : Nat → List UInt8
  | 0 => [x]
  | j + 1 => if x = bl[j]?.getD 0 then fl[j]?.getD [] else wr bl fl x j
def bT : List UInt8 := [38, 60, 62, 13]
def fT : List (List UInt8) := [[38, 97, 109, 112, 59], [38, 108, 116, 59], [38, 103, 116, 59], [38, 35, 120, 68, 59]]
def bV : List UInt8 := [38, 60, 34, 9, 10, 13]
def fV : List (List UInt8) := [[38, 97, 109, 112, 59], [38, 108, 116, 59], [38, 113, 117, 111, 116, 59], [38, 35, 120, 57, 59], [38, 35, 120, 65, 59], [38, 35, 120, 68, 59]]
theorem wrT0 : ∀ k : Fin 256, wr bT fT (UInt8.ofNat k.val) 4 = one inT (UInt8.ofNat k.val) := by decide +kernel
theorem wrV0 : ∀ k : Fin 256, wr bV fV (UInt8.ofNat k.val) 6 = one inV (UInt8.ofNat k.val) := by decide +kernel
theorem wrT (x : UInt8) : wr bT fT x 4 = one inT x := by
  have := wrT0 ⟨x.toNat, x.toNat_lt⟩
  simpa using this
theorem wrV (x : UInt8) : wr bV fV x 6 = one inV x := by
  have := wrV0 ⟨x.toNat, x.toNat_lt⟩
  simpa using this
theorem flat_le (g : UInt8 → List UInt8) (hg : ∀ x, (g x).length ≤ 6) (l : List UInt8) : (l.flatMap g).length ≤ 6 * l.length := by
  induction l with
  | nil => simp
  | cons a l ih =>
    have := hg a
    rw [List.flatMap_cons, List.length_append, List.length_cons]
    omega
theorem one_le {form : Nat → List UInt8} (hf : ∀ x, (form x).length ≤ 6) (x : UInt8) : (one form x).length ≤ 6 := by
  unfold one
  split
  · simp
  · exact hf _
theorem flat_take (g : UInt8 → List UInt8) (l : List UInt8) (k : Nat) (h : k < l.length) : (l.take (k + 1)).flatMap g = (l.take k).flatMap g ++ g (l[k]'h) := by
  rw [List.take_succ_eq_append_getElem h, List.flatMap_append]
  simp only [List.flatMap_cons, List.flatMap_nil, List.append_nil]
end Rf

theorem strAppend (a b : List UInt8) : (ByteArray.mk a.toArray) ++ (ByteArray.mk b.toArray) = ⟨(a ++ b).toArray⟩ := by
  have e : ((ByteArray.mk a.toArray) ++ (ByteArray.mk b.toArray)).data = (a ++ b).toArray := by
    rw [ByteArray.data_append]
    simp
  exact congrArg ByteArray.mk e

set_option maxHeartbeats 1000000 in
theorem refWritten_any (l bl : List UInt8) (fl : List (List UInt8)) (q K : Nat) (w : World) (hK : bl.length = K) (hK2 : K ≤ 100) (hn : l.length ≤ 140737488355328) (h6 : ∀ x, (Rf.wr bl fl x K).length ≤ 6) (hfl : ∀ j, j < K → w.cell? ⟨q, j, none⟩ = some (.string ⟨(fl[j]?.getD []).toArray⟩)) :
    Calls Tryd.prog 27 #[.string ⟨l.toArray⟩, .string ⟨bl.toArray⟩, .slice (some ⟨q, 0, none⟩) K K] w fun e w' => e = .returned (.string ⟨(l.flatMap fun x => Rf.wr bl fl x K).toArray⟩) ∧ Below w.heap.size w w' := by
  obtain ⟨n, hln⟩ : ∃ n, l.length = n := ⟨_, rfl⟩
  have HK := hide' hK
  have HFL := hide' hfl
  clear hfl
  go_enter Tryd.func27, Tryd.ntmps27
  go_wp2
  go_loopw [7, 8] (fun out i wr => ∃ i' : Nat, i = .int .i64 i' ∧ i' ≤ n ∧ out = .string ⟨((l.take i').flatMap fun x => Rf.wr bl fl x K).toArray⟩ ∧ Below w.heap.size w wr) (fun _ i _ => n - (RowKit.intOf i).toNat)
  case atStart => exact ⟨0, rfl, Nat.zero_le _, rfl, Below.refl _ _⟩
  case round =>
    obtain ⟨a, rfl, han, rfl, hB⟩ := hrel
    by_cases hlt : a < n
    · have g1 : (a : Int) < n := by omega
      have hal : a < l.length := by omega
      have hst := Rf.flat_take (fun x => Rf.wr bl fl x K) l a hal
      obtain ⟨y, hy⟩ : ∃ y, l[a]'hal = y := ⟨_, rfl⟩
      rw [hy] at hst
      have hix : ∀ h : a < (ByteArray.mk l.toArray).size, (ByteArray.mk l.toArray)[a]'h = y := fun h => strIndex l a hal y hy h
      have hex : (ByteArray.mk l.toArray).extract a (a + 1) = ⟨[y].toArray⟩ := by
        rw [strExtract, show a + 1 - a = 1 by omega, List.drop_eq_getElem_cons hal, hy]
        rfl
      have hO := Rf.flat_le (fun x => Rf.wr bl fl x K) h6 (l.take a)
      simp only [List.length_take] at hO
      generalize ((l.take a).flatMap fun x => Rf.wr bl fl x K) = O at *
      have HST := hide' hst
      clear hst hy
      go_wp2
      obtain ⟨w0, hw0⟩ : ∃ w0, wr = w0 := ⟨_, rfl⟩
      rw [hw0] at hB
      go_loopw [9, 10] (fun fo j w1 => ∃ j' : Nat, j = .int .i64 j' ∧ j' ≤ K ∧ fo = .string ⟨(Rf.wr bl fl y j').toArray⟩ ∧ Below w.heap.size w w1) (fun _ j _ => K - (RowKit.intOf j).toNat)
      case atStart => exact ⟨0, rfl, Nat.zero_le _, rfl, by rw [hw0]; exact hB⟩
      case round =>
        clear hw0 hB w0
        obtain ⟨j, rfl, hjk, rfl, hB⟩ := hrel
        by_cases hlj : j < K
        · have g2 : (j : Int) < K := by omega
          have hjl : j < bl.length := by rw [HK.out]; exact hlj
          obtain ⟨z, hz⟩ : ∃ z, bl[j]'hjl = z := ⟨_, rfl⟩
          have hiz : ∀ h : j < (ByteArray.mk bl.toArray).size, (ByteArray.mk bl.toArray)[j]'h = z := fun h => strIndex bl j hjl z hz h
          have hf0 := HFL.out j hlj
          have hf1 := (hB.cell (p := ⟨q, j, none⟩) (block_lt_of_cell hf0)).trans hf0
          have hfj : ∀ nq, (wr.drewN nq).cell? ⟨q, j, none⟩ = some (.string ⟨(fl[j]?.getD []).toArray⟩) := fun nq => hf1
          have hw : Rf.wr bl fl y (j + 1) = if y = z then fl[j]?.getD [] else Rf.wr bl fl y j := by
            show (if y = bl[j]?.getD 0 then _ else _) = _
            rw [List.getElem?_eq_getElem hjl, hz]
            rfl
          generalize fl[j]?.getD [] = fj at *
          by_cases hyz : y = z
          · rw [if_pos hyz] at hw
            have e1 : ((y.toNat : Int) == (z.toNat : Int)) = true := by rw [hyz]; simp
            have HW := hide' hw
            clear hw hyz hz hf0 hf1
            go_wp2
            go_quiet (fail)
            go_wp2
            go_roundw
            case rel => exact ⟨j + 1, by go_num, by omega, by rw [HW.out], below_drewN hB nq⟩
            case measure => simp [RowKit.intOf]; omega
          · rw [if_neg hyz] at hw
            have e1 : ((y.toNat : Int) == (z.toNat : Int)) = false := by
              simp only [beq_eq_false_iff_ne, ne_eq]
              intro e
              exact hyz (UInt8.toNat_inj.1 (by omega))
            have HW := hide' hw
            clear hw hyz hz hf0 hf1
            go_wp2
            go_quiet (fail)
            go_wp2
            go_roundw
            case rel => exact ⟨j + 1, by go_num, by omega, by rw [HW.out], below_drewN hB nq⟩
            case measure => simp [RowKit.intOf]; omega
        · obtain rfl : j = K := by omega
          have g2 : ¬ (j : Int) < j := by omega
          have h6y := h6 y
          generalize Rf.wr bl fl y j = G at *
          have g3 : O.length + G.length ≤ 9223372036854775807 := by omega
          clear h6y
          go_wp2
          go_roundw
          case rel => exact ⟨a + 1, by go_num, by omega, by rw [HST.out, strAppend], hB⟩
          case measure => simp [RowKit.intOf]; omega
    · obtain rfl : a = n := by omega
      have g1 : ¬ (a : Int) < a := by omega
      rw [show l.take a = l by rw [← hln]; simp]
      go_wp2
      go_ret
      exact ⟨rfl, hB⟩

theorem refText_any (l : List UInt8) (w : World) (hn : l.length ≤ 140737488355328) :
    Calls Tryd.prog 13 #[.string ⟨l.toArray⟩] w fun e w' => e = .returned (.string ⟨(Rf.esc Rf.inT l).toArray⟩) ∧ Below w.heap.size w w' := by
  obtain ⟨W, hW⟩ : ∃ W, w.alloc (.cells #[.string ⟨#[38, 97, 109, 112, 59]⟩, .string ⟨#[38, 108, 116, 59]⟩, .string ⟨#[38, 103, 116, 59]⟩, .string ⟨#[38, 35, 120, 68, 59]⟩] 9) = W := ⟨_, rfl⟩
  have hh : W.heap[w.heap.size]? = some (.cells #[.string ⟨#[38, 97, 109, 112, 59]⟩, .string ⟨#[38, 108, 116, 59]⟩, .string ⟨#[38, 103, 116, 59]⟩, .string ⟨#[38, 35, 120, 68, 59]⟩] 9 (0, 0)) := by rw [← hW]; show (w.heap.push _)[w.heap.size]? = _; simp
  have c := refWritten_any l Rf.bT Rf.fT w.heap.size 4 W rfl (by omega) hn (fun x => by rw [Rf.wrT]; exact Rf.one_le Rf.inT_le x) (fun j hj => by
    rw [Lib.cell_of_heap hh]
    match j, hj with
    | 0, _ => rfl
    | 1, _ => rfl
    | 2, _ => rfl
    | 3, _ => rfl
    | (j + 4), h => omega)
  rw [show (fun x => Rf.wr Rf.bT Rf.fT x 4) = Rf.one Rf.inT from funext Rf.wrT] at c
  unfold Rf.bT at c
  clear hh
  subst hW
  go_enter Tryd.func13, Tryd.ntmps13
  go_wp2_with fail
  refine c.mono ?_
  rintro e w1 ⟨rfl, hb1⟩
  go_wp2
  go_ret
  exact ⟨rfl, ((Below.refl _ _).alloc (Nat.le_refl _) _).trans (hb1.mono (by simp))⟩
theorem refValue_any (l : List UInt8) (w : World) (hn : l.length ≤ 140737488355328) :
    Calls Tryd.prog 15 #[.string ⟨l.toArray⟩] w fun e w' => e = .returned (.string ⟨(Rf.esc Rf.inV l).toArray⟩) ∧ Below w.heap.size w w' := by
  obtain ⟨W, hW⟩ : ∃ W, w.alloc (.cells #[.string ⟨#[38, 97, 109, 112, 59]⟩, .string ⟨#[38, 108, 116, 59]⟩, .string ⟨#[38, 113, 117, 111, 116, 59]⟩, .string ⟨#[38, 35, 120, 57, 59]⟩, .string ⟨#[38, 35, 120, 65, 59]⟩, .string ⟨#[38, 35, 120, 68, 59]⟩] 9) = W := ⟨_, rfl⟩
  have hh : W.heap[w.heap.size]? = some (.cells #[.string ⟨#[38, 97, 109, 112, 59]⟩, .string ⟨#[38, 108, 116, 59]⟩, .string ⟨#[38, 113, 117, 111, 116, 59]⟩, .string ⟨#[38, 35, 120, 57, 59]⟩, .string ⟨#[38, 35, 120, 65, 59]⟩, .string ⟨#[38, 35, 120, 68, 59]⟩] 9 (0, 0)) := by rw [← hW]; show (w.heap.push _)[w.heap.size]? = _; simp
  have c := refWritten_any l Rf.bV Rf.fV w.heap.size 6 W rfl (by omega) hn (fun x => by rw [Rf.wrV]; exact Rf.one_le Rf.inV_le x) (fun j hj => by
    rw [Lib.cell_of_heap hh]
    match j, hj with
    | 0, _ => rfl
    | 1, _ => rfl
    | 2, _ => rfl
    | 3, _ => rfl
    | 4, _ => rfl
    | 5, _ => rfl
    | (j + 6), h => omega)
  rw [show (fun x => Rf.wr Rf.bV Rf.fV x 6) = Rf.one Rf.inV from funext Rf.wrV] at c
  unfold Rf.bV at c
  clear hh
  subst hW
  go_enter Tryd.func15, Tryd.ntmps15
  go_wp2_with fail
  refine c.mono ?_
  rintro e w1 ⟨rfl, hb1⟩
  go_wp2
  go_ret
  exact ⟨rfl, ((Below.refl _ _).alloc (Nat.le_refl _) _).trans (hb1.mono (by simp))⟩
end Go.Proofs.YtbbbokkfhfmoeaaDoor
