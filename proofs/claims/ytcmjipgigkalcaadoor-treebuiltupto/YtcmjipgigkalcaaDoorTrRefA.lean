/-
  THE WALK over the document's Along of layer 9 (made by gen_refal.py).
-/
import Derived.Test.YtcmjipgigkalcaaDoorTrRefT
import Derived.Test.YtcmjipgigkalcaaDoorTrAlong
namespace Go.Proofs.YtcmjipgigkalcaaDoor
open Go.RowKit Go.Shelf Go.Lib
namespace Tr
/-- is the node of number x on the axis of n, behind n? -/
def raP (L : Nat → RN) (n ax : Int) (x : Int) : Bool := decide (ax = 1 ∨ ax = 2 ∨ (ax = 0 ∧ (L x.toNat).par = n))
theorem ra_next (L : Nat → RN) (n ax : Int) (i : Nat) : (numL (n + 1) (n + 1 + ((i + 1 : Nat) : Int))).filter (raP L n ax) = (numL (n + 1) (n + 1 + i)).filter (raP L n ax) ++ (if raP L n ax (n + 1 + i) then [n + 1 + (i : Int)] else []) := by
  have e : numL (n + 1 + (i : Int)) (n + 1 + ((i + 1 : Nat) : Int)) = [n + 1 + (i : Int)] := by
    unfold numL
    rw [show (n + 1 + ((i + 1 : Nat) : Int) - (n + 1 + (i : Int))).toNat = 1 by omega]
    simp
  rw [numL_app (a := n + 1) (b := n + 1 + (i : Int)) (by omega) (by omega), e, List.filter_append]
  congr 1
  by_cases h : raP L n ax (n + 1 + (i : Int)) <;> simp [h]
theorem ra_len (L : Nat → RN) (n ax : Int) (pre : List Int) (i : Nat) : (pre ++ (numL (n + 1) (n + 1 + (i : Int))).filter (raP L n ax)).length ≤ pre.length + i := by
  rw [List.length_append]
  have h1 := List.length_filter_le (raP L n ax) (numL (n + 1) (n + 1 + (i : Int)))
  have h2 : (numL (n + 1) (n + 1 + (i : Int))).length = i := by unfold numL; simp; omega
  omega
theorem newOne (W : World) (x : Int) : ∀ j u, ([.int .i64 x] : List Value)[j]? = some u → (W.alloc (.cells #[.int .i64 x] 3)).cell? ((⟨W.heap.size, 0, none⟩ : Addr).add j) = some u := by
  intro j u hu
  match j, hu with
  | 0, hu =>
    show World.cell? _ ⟨W.heap.size, 0, none⟩ = _
    rw [Lib.cell_of_heap (heap_alloc_new W _)]
    exact hu
theorem oneOne (x : Int) : ∀ u ∈ ([.int .i64 x] : List Value), u.oneCell' = true := by
  intro u hu
  obtain rfl : u = .int .i64 x := by simpa using hu
  rfl
end Tr
set_option maxRecDepth 100000 in
set_option maxHeartbeats 4000000 in
theorem refAlN0 (v : Value) (m : Nat) (L : Nat → Tr.RN) (w : World) (k : Nat) (lst : Int) (h : Tr.NRow w v m L) (hm : m ≤ 1048576) (hn : k < m) (hl : (L k).last = lst) (hl1 : (k : Int) ≤ lst) (hl2 : lst < m) :
    Calls Tryd.prog 21 #[v, .int .i64 (k : Int), .int .i64 (0 : Int)] w fun r w' => ∃ u, r = .returned u ∧ Tr.IO w' w.heap.size u ([] ++ (Tr.numL ((k : Int) + 1) (lst + 1)).filter (Tr.raP L (k : Int) (0 : Int))) ∧ Below w.heap.size w w' := by
  obtain ⟨p, cap, rfl, c1, c2, c3⟩ := h
  obtain ⟨b, o, rfl, c4⟩ := c3 (by omega)
  have hC : ∀ x, x < m → w.cell? ⟨b, o + x * 13 + 8, none⟩ = some (.int .i64 (L x).par) := fun x hx => c4 x 8 (.int .i64 (L x).par) hx rfl
  have HC := hide' hC
  obtain ⟨i0, hi, hz0, hz1, hz2⟩ := info_parts Tr.intInfo
  have qL := c4 k 9 (.int .i64 (L k).last) hn rfl
  rw [hl] at qL
  have hlt0 := block_lt_of_cell qL
  have t1 : ¬ (k : Int) < -1 := by omega
  have t2 : ¬ (k : Int) ≥ (m : Int) := by omega
  have t3 : (k : Int) ≥ 0 := by omega
  have t4 : (k : Int) < (m : Int) := by omega
  clear hl
  clear c4 c3 hC
  go_enter Tryd.func21, Tryd.ntmps21
  have HS1 : Hid (Tr.IO w w.heap.size (.slice none 0 0) ([] ++ (Tr.numL ((k : Int) + 1) ((k : Int) + 1 + ((0 : Nat) : Int))).filter (Tr.raP L (k : Int) (0 : Int)))) := by
    rw [show (Tr.numL ((k : Int) + 1) ((k : Int) + 1 + ((0 : Nat) : Int))) = [] by unfold Tr.numL; simp]
    exact Tr.io_nil w w.heap.size
  go_wp2_with fail
  go_loopw [7, 9] (fun out v wr => ∃ i : Nat, v = .int .i64 ((k : Int) + 1 + i) ∧ (k : Int) + 1 + i ≤ lst + 1 ∧ Hid (Tr.IO wr w.heap.size out ([] ++ (Tr.numL ((k : Int) + 1) ((k : Int) + 1 + i)).filter (Tr.raP L (k : Int) (0 : Int)))) ∧ Hid (Below w.heap.size w wr)) (fun _ v _ => (lst + 1 - RowKit.intOf v).toNat)
  case atStart => exact ⟨0, by simp, by omega, HS1, Below.refl _ _⟩
  case round =>
    obtain ⟨i, rfl, hi1, HO, HB⟩ := hrel
    by_cases hlt : (k : Int) + 1 + (i : Int) ≤ lst
    · obtain ⟨x, hx⟩ : ∃ x : Nat, (k : Int) + 1 + (i : Int) = x := ⟨((k : Int) + 1 + (i : Int)).toNat, by omega⟩
      have hnx := Tr.ra_next L (k : Int) (0 : Int) i
      have hlen := Tr.ra_len L (k : Int) (0 : Int) [] i
      have q := (HB.out.cell (p := ⟨b, o + x * 13 + 8, none⟩) (block_lt_of_cell (HC.out x (by omega)))).trans (HC.out x (by omega))
      have g1 : (x : Int) < (m : Int) := by omega
      have g2 : (x : Int) ≤ lst := by omega
      have hi2 : i ≤ 1048577 := by omega
      have e1 : (x : Int) + 1 = (k : Int) + 1 + ((i + 1 : Nat) : Int) := by omega
      rw [hx] at hnx hi1 hlen HO ⊢
      have hgl := hide' hlt
      clear hlt
      generalize hl : [] ++ (Tr.numL ((k : Int) + 1) (x : Int)).filter (Tr.raP L (k : Int) (0 : Int)) = l at *
      have hnx2 : [] ++ (Tr.numL ((k : Int) + 1) ((k : Int) + 1 + ((i + 1 : Nat) : Int))).filter (Tr.raP L (k : Int) (0 : Int)) = l ++ (if Tr.raP L (k : Int) (0 : Int) x then [(x : Int)] else []) := by rw [hnx, ← List.append_assoc, hl]
      have HNX := hide' hnx2
      clear hnx hnx2 hl
      simp only [List.length_nil] at hlen
      obtain ⟨po, co, hvo, _, _⟩ := Tr.owns_sl HO.out
      subst hvo
      have hbs := HB.out.size
      by_cases hpar : (L x).par = (k : Int)
      · have hp : Tr.raP L (k : Int) (0 : Int) x = true := by unfold Tr.raP; simp [hpar]
        have e5 : ((L x).par == (k : Int)) = true := by simpa using hpar
        have hown := HO.out
        go_wp2_with (at_builtin; refine wpList_append_own _ rfl _ _ 52 rfl w.heap.size 3 i0 (.int .i64 0) 1 8 Tryd.underlying52 hi hz0 hz1 hz2 rfl (by decide) _ _ _ rfl (hown.alloc _) ⟨wr.heap.size, 0, none⟩ 1 1 [.int .i64 (x : Int)] rfl rfl ?d1 ?d2 ?d3 ?d4 ?d5 ?_)
        case d1 => exact Tr.newOne wr x
        case d2 => exact Tr.oneOne x
        case d3 => unfold maxLen; omega
        case d4 => omega
        case d5 => simp; omega
        intro v' w3 hown' hg3 _
        have HB3 := hide' ((HB.out.alloc (Nat.le_trans HB.out.size (Nat.le_refl _)) (.cells #[.int .i64 x] 3)).grown hg3 (by simp; omega) (fun j hj => (hown.lt j hj).1))
        have HO3 : Hid (Tr.IO w3 w.heap.size v' (l ++ [(x : Int)])) := by
          unfold Tr.IO
          rw [Tr.ic_app, List.length_append]
          exact hown'
        clear hown hown' hg3
        go_wp2_with fail
        go_roundw
        case rel => exact ⟨i + 1, by congr 1 <;> omega, by omega, by rw [HNX.out, hp]; exact HO3, HB3⟩
        case measure => simp [RowKit.intOf]; omega
      · have hp : Tr.raP L (k : Int) (0 : Int) x = false := by unfold Tr.raP; simp [hpar]
        have e5 : ((L x).par == (k : Int)) = false := by simpa using hpar
        go_wp2_with fail
        go_roundw
        case rel => exact ⟨i + 1, by congr 1 <;> omega, by omega, by rw [HNX.out, hp]; simpa using HO, HB⟩
        case measure => simp [RowKit.intOf]; omega
    · have g2 : ¬ ((k : Int) + 1 + (i : Int) ≤ lst) := hlt
      have el : lst + 1 = (k : Int) + 1 + (i : Int) := by omega
      have HE := hide' el
      clear el
      obtain ⟨po, co, hvo, _, _⟩ := Tr.owns_sl HO.out
      subst hvo
      go_wp2
      go_ret
      exact ⟨_, rfl, by rw [HE.out]; exact HO.out, HB.out⟩
set_option maxRecDepth 100000 in
set_option maxHeartbeats 4000000 in
theorem refAlN1 (v : Value) (m : Nat) (L : Nat → Tr.RN) (w : World) (k : Nat) (lst : Int) (h : Tr.NRow w v m L) (hm : m ≤ 1048576) (hn : k < m) (hl : (L k).last = lst) (hl1 : (k : Int) ≤ lst) (hl2 : lst < m) :
    Calls Tryd.prog 21 #[v, .int .i64 (k : Int), .int .i64 (1 : Int)] w fun r w' => ∃ u, r = .returned u ∧ Tr.IO w' w.heap.size u ([] ++ (Tr.numL ((k : Int) + 1) (lst + 1)).filter (Tr.raP L (k : Int) (1 : Int))) ∧ Below w.heap.size w w' := by
  obtain ⟨p, cap, rfl, c1, c2, c3⟩ := h
  obtain ⟨b, o, rfl, c4⟩ := c3 (by omega)
  have hC : ∀ x, x < m → w.cell? ⟨b, o + x * 13 + 8, none⟩ = some (.int .i64 (L x).par) := fun x hx => c4 x 8 (.int .i64 (L x).par) hx rfl
  have HC := hide' hC
  obtain ⟨i0, hi, hz0, hz1, hz2⟩ := info_parts Tr.intInfo
  have qL := c4 k 9 (.int .i64 (L k).last) hn rfl
  rw [hl] at qL
  have hlt0 := block_lt_of_cell qL
  have t1 : ¬ (k : Int) < -1 := by omega
  have t2 : ¬ (k : Int) ≥ (m : Int) := by omega
  have t3 : (k : Int) ≥ 0 := by omega
  have t4 : (k : Int) < (m : Int) := by omega
  clear hl
  clear c4 c3 hC
  go_enter Tryd.func21, Tryd.ntmps21
  have HS1 : Hid (Tr.IO w w.heap.size (.slice none 0 0) ([] ++ (Tr.numL ((k : Int) + 1) ((k : Int) + 1 + ((0 : Nat) : Int))).filter (Tr.raP L (k : Int) (1 : Int)))) := by
    rw [show (Tr.numL ((k : Int) + 1) ((k : Int) + 1 + ((0 : Nat) : Int))) = [] by unfold Tr.numL; simp]
    exact Tr.io_nil w w.heap.size
  go_wp2_with fail
  go_loopw [7, 9] (fun out v wr => ∃ i : Nat, v = .int .i64 ((k : Int) + 1 + i) ∧ (k : Int) + 1 + i ≤ lst + 1 ∧ Hid (Tr.IO wr w.heap.size out ([] ++ (Tr.numL ((k : Int) + 1) ((k : Int) + 1 + i)).filter (Tr.raP L (k : Int) (1 : Int)))) ∧ Hid (Below w.heap.size w wr)) (fun _ v _ => (lst + 1 - RowKit.intOf v).toNat)
  case atStart => exact ⟨0, by simp, by omega, HS1, Below.refl _ _⟩
  case round =>
    obtain ⟨i, rfl, hi1, HO, HB⟩ := hrel
    by_cases hlt : (k : Int) + 1 + (i : Int) ≤ lst
    · obtain ⟨x, hx⟩ : ∃ x : Nat, (k : Int) + 1 + (i : Int) = x := ⟨((k : Int) + 1 + (i : Int)).toNat, by omega⟩
      have hnx := Tr.ra_next L (k : Int) (1 : Int) i
      have hlen := Tr.ra_len L (k : Int) (1 : Int) [] i
      have q := (HB.out.cell (p := ⟨b, o + x * 13 + 8, none⟩) (block_lt_of_cell (HC.out x (by omega)))).trans (HC.out x (by omega))
      have g1 : (x : Int) < (m : Int) := by omega
      have g2 : (x : Int) ≤ lst := by omega
      have hi2 : i ≤ 1048577 := by omega
      have e1 : (x : Int) + 1 = (k : Int) + 1 + ((i + 1 : Nat) : Int) := by omega
      rw [hx] at hnx hi1 hlen HO ⊢
      have hgl := hide' hlt
      clear hlt
      generalize hl : [] ++ (Tr.numL ((k : Int) + 1) (x : Int)).filter (Tr.raP L (k : Int) (1 : Int)) = l at *
      have hnx2 : [] ++ (Tr.numL ((k : Int) + 1) ((k : Int) + 1 + ((i + 1 : Nat) : Int))).filter (Tr.raP L (k : Int) (1 : Int)) = l ++ (if Tr.raP L (k : Int) (1 : Int) x then [(x : Int)] else []) := by rw [hnx, ← List.append_assoc, hl]
      have HNX := hide' hnx2
      clear hnx hnx2 hl
      simp only [List.length_nil] at hlen
      obtain ⟨po, co, hvo, _, _⟩ := Tr.owns_sl HO.out
      subst hvo
      have hbs := HB.out.size
      have hp : Tr.raP L (k : Int) (1 : Int) x = true := by unfold Tr.raP; simp
      have hown := HO.out
      go_wp2_with (at_builtin; refine wpList_append_own _ rfl _ _ 52 rfl w.heap.size 3 i0 (.int .i64 0) 1 8 Tryd.underlying52 hi hz0 hz1 hz2 rfl (by decide) _ _ _ rfl (hown.alloc _) ⟨wr.heap.size, 0, none⟩ 1 1 [.int .i64 (x : Int)] rfl rfl ?d1 ?d2 ?d3 ?d4 ?d5 ?_)
      case d1 => exact Tr.newOne wr x
      case d2 => exact Tr.oneOne x
      case d3 => unfold maxLen; omega
      case d4 => omega
      case d5 => simp; omega
      intro v' w3 hown' hg3 _
      have HB3 := hide' ((HB.out.alloc (Nat.le_trans HB.out.size (Nat.le_refl _)) (.cells #[.int .i64 x] 3)).grown hg3 (by simp; omega) (fun j hj => (hown.lt j hj).1))
      have HO3 : Hid (Tr.IO w3 w.heap.size v' (l ++ [(x : Int)])) := by
        unfold Tr.IO
        rw [Tr.ic_app, List.length_append]
        exact hown'
      clear hown hown' hg3
      go_wp2_with fail
      go_roundw
      case rel => exact ⟨i + 1, by congr 1 <;> omega, by omega, by rw [HNX.out, hp]; exact HO3, HB3⟩
      case measure => simp [RowKit.intOf]; omega
    · have g2 : ¬ ((k : Int) + 1 + (i : Int) ≤ lst) := hlt
      have el : lst + 1 = (k : Int) + 1 + (i : Int) := by omega
      have HE := hide' el
      clear el
      obtain ⟨po, co, hvo, _, _⟩ := Tr.owns_sl HO.out
      subst hvo
      go_wp2
      go_ret
      exact ⟨_, rfl, by rw [HE.out]; exact HO.out, HB.out⟩
set_option maxRecDepth 100000 in
set_option maxHeartbeats 4000000 in
theorem refAlN2 (v : Value) (m : Nat) (L : Nat → Tr.RN) (w : World) (k : Nat) (lst : Int) (h : Tr.NRow w v m L) (hm : m ≤ 1048576) (hn : k < m) (hl : (L k).last = lst) (hl1 : (k : Int) ≤ lst) (hl2 : lst < m) :
    Calls Tryd.prog 21 #[v, .int .i64 (k : Int), .int .i64 (2 : Int)] w fun r w' => ∃ u, r = .returned u ∧ Tr.IO w' w.heap.size u ([(k : Int)] ++ (Tr.numL ((k : Int) + 1) (lst + 1)).filter (Tr.raP L (k : Int) (2 : Int))) ∧ Below w.heap.size w w' := by
  obtain ⟨p, cap, rfl, c1, c2, c3⟩ := h
  obtain ⟨b, o, rfl, c4⟩ := c3 (by omega)
  have hC : ∀ x, x < m → w.cell? ⟨b, o + x * 13 + 8, none⟩ = some (.int .i64 (L x).par) := fun x hx => c4 x 8 (.int .i64 (L x).par) hx rfl
  have HC := hide' hC
  obtain ⟨i0, hi, hz0, hz1, hz2⟩ := info_parts Tr.intInfo
  have qL := c4 k 9 (.int .i64 (L k).last) hn rfl
  rw [hl] at qL
  have hlt0 := block_lt_of_cell qL
  have t1 : ¬ (k : Int) < -1 := by omega
  have t2 : ¬ (k : Int) ≥ (m : Int) := by omega
  have t3 : (k : Int) ≥ 0 := by omega
  have t4 : (k : Int) < (m : Int) := by omega
  clear hl
  clear c4 c3 hC
  go_enter Tryd.func21, Tryd.ntmps21
  go_wp2_with (at_builtin; refine wpList_append_own _ rfl _ _ 52 rfl w.heap.size 3 i0 (.int .i64 0) 1 8 Tryd.underlying52 hi hz0 hz1 hz2 rfl (by decide) _ _ _ rfl ((Tr.io_nil w w.heap.size).alloc _) ⟨w.heap.size, 0, none⟩ 1 1 [.int .i64 (k : Int)] rfl rfl ?c1 ?c2 ?c3 ?c4 ?c5 ?_)
  case c2 => rfl
  case c3 => unfold maxLen; omega
  intro v' w1 hown' hg1 _
  obtain ⟨g', cap', hv1⟩ := ownsRow_succ hown'
  have hv2 : v' = .slice (some ⟨g', 0, none⟩) 1 cap' := hv1
  clear hv1
  subst hv2
  have HB1 : Hid (Below w.heap.size w w1) := (((Below.refl _ _).alloc (Nat.le_refl _) (.cells #[.int .i64 (k : Int)] 3)).grown hg1 (by simp) (fun j hj => by cases hj))
  have HS1 : Hid (Tr.IO w1 w.heap.size (.slice (some ⟨g', 0, none⟩) 1 cap') ([(k : Int)] ++ (Tr.numL ((k : Int) + 1) ((k : Int) + 1 + ((0 : Nat) : Int))).filter (Tr.raP L (k : Int) (2 : Int)))) := by
    rw [show (Tr.numL ((k : Int) + 1) ((k : Int) + 1 + ((0 : Nat) : Int))) = [] by unfold Tr.numL; simp]
    exact hown'
  have qL1 := (HB1.out.cell (p := ⟨b, o + k * 13 + 9, none⟩) hlt0).trans qL
  clear hown' hg1 qL
  go_wp2_with fail
  go_loopw [7, 9] (fun out v wr => ∃ i : Nat, v = .int .i64 ((k : Int) + 1 + i) ∧ (k : Int) + 1 + i ≤ lst + 1 ∧ Hid (Tr.IO wr w.heap.size out ([(k : Int)] ++ (Tr.numL ((k : Int) + 1) ((k : Int) + 1 + i)).filter (Tr.raP L (k : Int) (2 : Int)))) ∧ Hid (Below w.heap.size w wr)) (fun _ v _ => (lst + 1 - RowKit.intOf v).toNat)
  case atStart => exact ⟨0, by simp, by omega, HS1, HB1⟩
  case round =>
    obtain ⟨i, rfl, hi1, HO, HB⟩ := hrel
    by_cases hlt : (k : Int) + 1 + (i : Int) ≤ lst
    · obtain ⟨x, hx⟩ : ∃ x : Nat, (k : Int) + 1 + (i : Int) = x := ⟨((k : Int) + 1 + (i : Int)).toNat, by omega⟩
      have hnx := Tr.ra_next L (k : Int) (2 : Int) i
      have hlen := Tr.ra_len L (k : Int) (2 : Int) [(k : Int)] i
      have q := (HB.out.cell (p := ⟨b, o + x * 13 + 8, none⟩) (block_lt_of_cell (HC.out x (by omega)))).trans (HC.out x (by omega))
      have g1 : (x : Int) < (m : Int) := by omega
      have g2 : (x : Int) ≤ lst := by omega
      have hi2 : i ≤ 1048577 := by omega
      have e1 : (x : Int) + 1 = (k : Int) + 1 + ((i + 1 : Nat) : Int) := by omega
      rw [hx] at hnx hi1 hlen HO ⊢
      have hgl := hide' hlt
      clear hlt
      generalize hl : [(k : Int)] ++ (Tr.numL ((k : Int) + 1) (x : Int)).filter (Tr.raP L (k : Int) (2 : Int)) = l at *
      have hnx2 : [(k : Int)] ++ (Tr.numL ((k : Int) + 1) ((k : Int) + 1 + ((i + 1 : Nat) : Int))).filter (Tr.raP L (k : Int) (2 : Int)) = l ++ (if Tr.raP L (k : Int) (2 : Int) x then [(x : Int)] else []) := by rw [hnx, ← List.append_assoc, hl]
      have HNX := hide' hnx2
      clear hnx hnx2 hl
      simp only [List.length_cons, List.length_nil] at hlen
      obtain ⟨po, co, hvo, _, _⟩ := Tr.owns_sl HO.out
      subst hvo
      have hbs := HB.out.size
      have hp : Tr.raP L (k : Int) (2 : Int) x = true := by unfold Tr.raP; simp
      have hown := HO.out
      go_wp2_with (at_builtin; refine wpList_append_own _ rfl _ _ 52 rfl w.heap.size 3 i0 (.int .i64 0) 1 8 Tryd.underlying52 hi hz0 hz1 hz2 rfl (by decide) _ _ _ rfl (hown.alloc _) ⟨wr.heap.size, 0, none⟩ 1 1 [.int .i64 (x : Int)] rfl rfl ?d1 ?d2 ?d3 ?d4 ?d5 ?_)
      case d1 => exact Tr.newOne wr x
      case d2 => exact Tr.oneOne x
      case d3 => unfold maxLen; omega
      case d4 => omega
      case d5 => simp; omega
      intro v' w3 hown' hg3 _
      have HB3 := hide' ((HB.out.alloc (Nat.le_trans HB.out.size (Nat.le_refl _)) (.cells #[.int .i64 x] 3)).grown hg3 (by simp; omega) (fun j hj => (hown.lt j hj).1))
      have HO3 : Hid (Tr.IO w3 w.heap.size v' (l ++ [(x : Int)])) := by
        unfold Tr.IO
        rw [Tr.ic_app, List.length_append]
        exact hown'
      clear hown hown' hg3
      go_wp2_with fail
      go_roundw
      case rel => exact ⟨i + 1, by congr 1 <;> omega, by omega, by rw [HNX.out, hp]; exact HO3, HB3⟩
      case measure => simp [RowKit.intOf]; omega
    · have g2 : ¬ ((k : Int) + 1 + (i : Int) ≤ lst) := hlt
      have el : lst + 1 = (k : Int) + 1 + (i : Int) := by omega
      have HE := hide' el
      clear el
      obtain ⟨po, co, hvo, _, _⟩ := Tr.owns_sl HO.out
      subst hvo
      go_wp2
      go_ret
      exact ⟨_, rfl, by rw [HE.out]; exact HO.out, HB.out⟩
set_option maxRecDepth 100000 in
set_option maxHeartbeats 4000000 in
theorem refAlN3 (v : Value) (m : Nat) (L : Nat → Tr.RN) (w : World) (k : Nat) (lst : Int) (h : Tr.NRow w v m L) (hm : m ≤ 1048576) (hn : k < m) (hl : (L k).last = lst) (hl1 : (k : Int) ≤ lst) (hl2 : lst < m) :
    Calls Tryd.prog 21 #[v, .int .i64 (k : Int), .int .i64 (3 : Int)] w fun r w' => ∃ u, r = .returned u ∧ Tr.IO w' w.heap.size u ([(k : Int)] ++ (Tr.numL ((k : Int) + 1) (lst + 1)).filter (Tr.raP L (k : Int) (3 : Int))) ∧ Below w.heap.size w w' := by
  obtain ⟨p, cap, rfl, c1, c2, c3⟩ := h
  obtain ⟨b, o, rfl, c4⟩ := c3 (by omega)
  have hC : ∀ x, x < m → w.cell? ⟨b, o + x * 13 + 8, none⟩ = some (.int .i64 (L x).par) := fun x hx => c4 x 8 (.int .i64 (L x).par) hx rfl
  have HC := hide' hC
  obtain ⟨i0, hi, hz0, hz1, hz2⟩ := info_parts Tr.intInfo
  have qL := c4 k 9 (.int .i64 (L k).last) hn rfl
  rw [hl] at qL
  have hlt0 := block_lt_of_cell qL
  have t1 : ¬ (k : Int) < -1 := by omega
  have t2 : ¬ (k : Int) ≥ (m : Int) := by omega
  have t3 : (k : Int) ≥ 0 := by omega
  have t4 : (k : Int) < (m : Int) := by omega
  clear hl
  clear c4 c3 hC
  go_enter Tryd.func21, Tryd.ntmps21
  go_wp2_with (at_builtin; refine wpList_append_own _ rfl _ _ 52 rfl w.heap.size 3 i0 (.int .i64 0) 1 8 Tryd.underlying52 hi hz0 hz1 hz2 rfl (by decide) _ _ _ rfl ((Tr.io_nil w w.heap.size).alloc _) ⟨w.heap.size, 0, none⟩ 1 1 [.int .i64 (k : Int)] rfl rfl ?c1 ?c2 ?c3 ?c4 ?c5 ?_)
  case c2 => rfl
  case c3 => unfold maxLen; omega
  intro v' w1 hown' hg1 _
  obtain ⟨g', cap', hv1⟩ := ownsRow_succ hown'
  have hv2 : v' = .slice (some ⟨g', 0, none⟩) 1 cap' := hv1
  clear hv1
  subst hv2
  have HB1 : Hid (Below w.heap.size w w1) := (((Below.refl _ _).alloc (Nat.le_refl _) (.cells #[.int .i64 (k : Int)] 3)).grown hg1 (by simp) (fun j hj => by cases hj))
  have HS1 : Hid (Tr.IO w1 w.heap.size (.slice (some ⟨g', 0, none⟩) 1 cap') ([(k : Int)] ++ (Tr.numL ((k : Int) + 1) ((k : Int) + 1 + ((0 : Nat) : Int))).filter (Tr.raP L (k : Int) (3 : Int)))) := by
    rw [show (Tr.numL ((k : Int) + 1) ((k : Int) + 1 + ((0 : Nat) : Int))) = [] by unfold Tr.numL; simp]
    exact hown'
  have qL1 := (HB1.out.cell (p := ⟨b, o + k * 13 + 9, none⟩) hlt0).trans qL
  clear hown' hg1 qL
  go_wp2_with fail
  go_loopw [7, 9] (fun out v wr => ∃ i : Nat, v = .int .i64 ((k : Int) + 1 + i) ∧ (k : Int) + 1 + i ≤ lst + 1 ∧ Hid (Tr.IO wr w.heap.size out ([(k : Int)] ++ (Tr.numL ((k : Int) + 1) ((k : Int) + 1 + i)).filter (Tr.raP L (k : Int) (3 : Int)))) ∧ Hid (Below w.heap.size w wr)) (fun _ v _ => (lst + 1 - RowKit.intOf v).toNat)
  case atStart => exact ⟨0, by simp, by omega, HS1, HB1⟩
  case round =>
    obtain ⟨i, rfl, hi1, HO, HB⟩ := hrel
    by_cases hlt : (k : Int) + 1 + (i : Int) ≤ lst
    · obtain ⟨x, hx⟩ : ∃ x : Nat, (k : Int) + 1 + (i : Int) = x := ⟨((k : Int) + 1 + (i : Int)).toNat, by omega⟩
      have hnx := Tr.ra_next L (k : Int) (3 : Int) i
      have hlen := Tr.ra_len L (k : Int) (3 : Int) [(k : Int)] i
      have q := (HB.out.cell (p := ⟨b, o + x * 13 + 8, none⟩) (block_lt_of_cell (HC.out x (by omega)))).trans (HC.out x (by omega))
      have g1 : (x : Int) < (m : Int) := by omega
      have g2 : (x : Int) ≤ lst := by omega
      have hi2 : i ≤ 1048577 := by omega
      have e1 : (x : Int) + 1 = (k : Int) + 1 + ((i + 1 : Nat) : Int) := by omega
      rw [hx] at hnx hi1 hlen HO ⊢
      have hgl := hide' hlt
      clear hlt
      generalize hl : [(k : Int)] ++ (Tr.numL ((k : Int) + 1) (x : Int)).filter (Tr.raP L (k : Int) (3 : Int)) = l at *
      have hnx2 : [(k : Int)] ++ (Tr.numL ((k : Int) + 1) ((k : Int) + 1 + ((i + 1 : Nat) : Int))).filter (Tr.raP L (k : Int) (3 : Int)) = l ++ (if Tr.raP L (k : Int) (3 : Int) x then [(x : Int)] else []) := by rw [hnx, ← List.append_assoc, hl]
      have HNX := hide' hnx2
      clear hnx hnx2 hl
      simp only [List.length_cons, List.length_nil] at hlen
      obtain ⟨po, co, hvo, _, _⟩ := Tr.owns_sl HO.out
      subst hvo
      have hbs := HB.out.size
      have hp : Tr.raP L (k : Int) (3 : Int) x = false := by unfold Tr.raP; simp
      go_wp2_with fail
      go_roundw
      case rel => exact ⟨i + 1, by congr 1 <;> omega, by omega, by rw [HNX.out, hp]; simpa using HO, HB⟩
      case measure => simp [RowKit.intOf]; omega
    · have g2 : ¬ ((k : Int) + 1 + (i : Int) ≤ lst) := hlt
      have el : lst + 1 = (k : Int) + 1 + (i : Int) := by omega
      have HE := hide' el
      clear el
      obtain ⟨po, co, hvo, _, _⟩ := Tr.owns_sl HO.out
      subst hvo
      go_wp2
      go_ret
      exact ⟨_, rfl, by rw [HE.out]; exact HO.out, HB.out⟩
set_option maxRecDepth 100000 in
set_option maxHeartbeats 4000000 in
theorem refAlNX (v : Value) (m : Nat) (L : Nat → Tr.RN) (w : World) (k : Nat) (ax : Int) (lst : Int) (h : Tr.NRow w v m L) (hm : m ≤ 1048576) (hn : k < m) (hl : (L k).last = lst) (hl1 : (k : Int) ≤ lst) (hl2 : lst < m) (hx : ax < 0 ∨ 3 < ax) :
    Calls Tryd.prog 21 #[v, .int .i64 (k : Int), .int .i64 ax] w fun r w' => ∃ u, r = .returned u ∧ Tr.IO w' w.heap.size u ([] ++ (Tr.numL ((k : Int) + 1) (lst + 1)).filter (Tr.raP L (k : Int) ax)) ∧ Below w.heap.size w w' := by
  obtain ⟨p, cap, rfl, c1, c2, c3⟩ := h
  obtain ⟨b, o, rfl, c4⟩ := c3 (by omega)
  have hC : ∀ x, x < m → w.cell? ⟨b, o + x * 13 + 8, none⟩ = some (.int .i64 (L x).par) := fun x hx => c4 x 8 (.int .i64 (L x).par) hx rfl
  have HC := hide' hC
  obtain ⟨i0, hi, hz0, hz1, hz2⟩ := info_parts Tr.intInfo
  have qL := c4 k 9 (.int .i64 (L k).last) hn rfl
  rw [hl] at qL
  have hlt0 := block_lt_of_cell qL
  have t1 : ¬ (k : Int) < -1 := by omega
  have t2 : ¬ (k : Int) ≥ (m : Int) := by omega
  have t3 : (k : Int) ≥ 0 := by omega
  have t4 : (k : Int) < (m : Int) := by omega
  clear hl
  have x0 : (ax == 0) = false := by simp; omega
  have x1 : (ax == 1) = false := by simp; omega
  have x2 : (ax == 2) = false := by simp; omega
  have x3 : (ax == 3) = false := by simp; omega
  clear c4 c3 hC
  go_enter Tryd.func21, Tryd.ntmps21
  have HS1 : Hid (Tr.IO w w.heap.size (.slice none 0 0) ([] ++ (Tr.numL ((k : Int) + 1) ((k : Int) + 1 + ((0 : Nat) : Int))).filter (Tr.raP L (k : Int) ax))) := by
    rw [show (Tr.numL ((k : Int) + 1) ((k : Int) + 1 + ((0 : Nat) : Int))) = [] by unfold Tr.numL; simp]
    exact Tr.io_nil w w.heap.size
  go_wp2_with fail
  go_loopw [7, 9] (fun out v wr => ∃ i : Nat, v = .int .i64 ((k : Int) + 1 + i) ∧ (k : Int) + 1 + i ≤ lst + 1 ∧ Hid (Tr.IO wr w.heap.size out ([] ++ (Tr.numL ((k : Int) + 1) ((k : Int) + 1 + i)).filter (Tr.raP L (k : Int) ax))) ∧ Hid (Below w.heap.size w wr)) (fun _ v _ => (lst + 1 - RowKit.intOf v).toNat)
  case atStart => exact ⟨0, by simp, by omega, HS1, Below.refl _ _⟩
  case round =>
    obtain ⟨i, rfl, hi1, HO, HB⟩ := hrel
    by_cases hlt : (k : Int) + 1 + (i : Int) ≤ lst
    · obtain ⟨x, hx⟩ : ∃ x : Nat, (k : Int) + 1 + (i : Int) = x := ⟨((k : Int) + 1 + (i : Int)).toNat, by omega⟩
      have hnx := Tr.ra_next L (k : Int) ax i
      have hlen := Tr.ra_len L (k : Int) ax [] i
      have q := (HB.out.cell (p := ⟨b, o + x * 13 + 8, none⟩) (block_lt_of_cell (HC.out x (by omega)))).trans (HC.out x (by omega))
      have g1 : (x : Int) < (m : Int) := by omega
      have g2 : (x : Int) ≤ lst := by omega
      have hi2 : i ≤ 1048577 := by omega
      have e1 : (x : Int) + 1 = (k : Int) + 1 + ((i + 1 : Nat) : Int) := by omega
      rw [hx] at hnx hi1 hlen HO ⊢
      have hgl := hide' hlt
      clear hlt
      generalize hl : [] ++ (Tr.numL ((k : Int) + 1) (x : Int)).filter (Tr.raP L (k : Int) ax) = l at *
      have hnx2 : [] ++ (Tr.numL ((k : Int) + 1) ((k : Int) + 1 + ((i + 1 : Nat) : Int))).filter (Tr.raP L (k : Int) ax) = l ++ (if Tr.raP L (k : Int) ax x then [(x : Int)] else []) := by rw [hnx, ← List.append_assoc, hl]
      have HNX := hide' hnx2
      clear hnx hnx2 hl
      simp only [List.length_nil] at hlen
      obtain ⟨po, co, hvo, _, _⟩ := Tr.owns_sl HO.out
      subst hvo
      have hbs := HB.out.size
      have hp : Tr.raP L (k : Int) ax x = false := by unfold Tr.raP; simp; omega
      go_wp2_with fail
      go_roundw
      case rel => exact ⟨i + 1, by congr 1 <;> omega, by omega, by rw [HNX.out, hp]; simpa using HO, HB⟩
      case measure => simp [RowKit.intOf]; omega
    · have g2 : ¬ ((k : Int) + 1 + (i : Int) ≤ lst) := hlt
      have el : lst + 1 = (k : Int) + 1 + (i : Int) := by omega
      have HE := hide' el
      clear el
      obtain ⟨po, co, hvo, _, _⟩ := Tr.owns_sl HO.out
      subst hvo
      go_wp2
      go_ret
      exact ⟨_, rfl, by rw [HE.out]; exact HO.out, HB.out⟩
set_option maxRecDepth 100000 in
set_option maxHeartbeats 4000000 in
theorem refAlR0 (v : Value) (m : Nat) (L : Nat → Tr.RN) (w : World) (h : Tr.NRow w v m L) (hm : m ≤ 1048576) (h0 : 0 < m) :
    Calls Tryd.prog 21 #[v, .int .i64 (-1 : Int), .int .i64 (0 : Int)] w fun r w' => ∃ u, r = .returned u ∧ Tr.IO w' w.heap.size u ([] ++ (Tr.numL ((-1 : Int) + 1) (((m : Int) - 1) + 1)).filter (Tr.raP L (-1 : Int) (0 : Int))) ∧ Below w.heap.size w w' := by
  obtain ⟨p, cap, rfl, c1, c2, c3⟩ := h
  obtain ⟨b, o, rfl, c4⟩ := c3 (by omega)
  have hC : ∀ x, x < m → w.cell? ⟨b, o + x * 13 + 8, none⟩ = some (.int .i64 (L x).par) := fun x hx => c4 x 8 (.int .i64 (L x).par) hx rfl
  have HC := hide' hC
  obtain ⟨i0, hi, hz0, hz1, hz2⟩ := info_parts Tr.intInfo
  have t2 : ¬ (-1 : Int) ≥ (m : Int) := by omega
  clear c4 c3 hC
  go_enter Tryd.func21, Tryd.ntmps21
  have HS1 : Hid (Tr.IO w w.heap.size (.slice none 0 0) ([] ++ (Tr.numL ((-1 : Int) + 1) ((-1 : Int) + 1 + ((0 : Nat) : Int))).filter (Tr.raP L (-1 : Int) (0 : Int)))) := by
    rw [show (Tr.numL ((-1 : Int) + 1) ((-1 : Int) + 1 + ((0 : Nat) : Int))) = [] by unfold Tr.numL; simp]
    exact Tr.io_nil w w.heap.size
  go_wp2_with fail
  go_loopw [7, 9] (fun out v wr => ∃ i : Nat, v = .int .i64 ((-1 : Int) + 1 + i) ∧ (-1 : Int) + 1 + i ≤ ((m : Int) - 1) + 1 ∧ Hid (Tr.IO wr w.heap.size out ([] ++ (Tr.numL ((-1 : Int) + 1) ((-1 : Int) + 1 + i)).filter (Tr.raP L (-1 : Int) (0 : Int)))) ∧ Hid (Below w.heap.size w wr)) (fun _ v _ => (((m : Int) - 1) + 1 - RowKit.intOf v).toNat)
  case atStart => exact ⟨0, by simp, by omega, HS1, Below.refl _ _⟩
  case round =>
    obtain ⟨i, rfl, hi1, HO, HB⟩ := hrel
    by_cases hlt : (-1 : Int) + 1 + (i : Int) ≤ ((m : Int) - 1)
    · obtain ⟨x, hx⟩ : ∃ x : Nat, (-1 : Int) + 1 + (i : Int) = x := ⟨((-1 : Int) + 1 + (i : Int)).toNat, by omega⟩
      have hnx := Tr.ra_next L (-1 : Int) (0 : Int) i
      have hlen := Tr.ra_len L (-1 : Int) (0 : Int) [] i
      have q := (HB.out.cell (p := ⟨b, o + x * 13 + 8, none⟩) (block_lt_of_cell (HC.out x (by omega)))).trans (HC.out x (by omega))
      have g1 : (x : Int) < (m : Int) := by omega
      have g2 : (x : Int) ≤ ((m : Int) - 1) := by omega
      have hi2 : i ≤ 1048577 := by omega
      have e1 : (x : Int) + 1 = (-1 : Int) + 1 + ((i + 1 : Nat) : Int) := by omega
      rw [hx] at hnx hi1 hlen HO ⊢
      have hgl := hide' hlt
      clear hlt
      generalize hl : [] ++ (Tr.numL ((-1 : Int) + 1) (x : Int)).filter (Tr.raP L (-1 : Int) (0 : Int)) = l at *
      have hnx2 : [] ++ (Tr.numL ((-1 : Int) + 1) ((-1 : Int) + 1 + ((i + 1 : Nat) : Int))).filter (Tr.raP L (-1 : Int) (0 : Int)) = l ++ (if Tr.raP L (-1 : Int) (0 : Int) x then [(x : Int)] else []) := by rw [hnx, ← List.append_assoc, hl]
      have HNX := hide' hnx2
      clear hnx hnx2 hl
      simp only [List.length_nil] at hlen
      obtain ⟨po, co, hvo, _, _⟩ := Tr.owns_sl HO.out
      subst hvo
      have hbs := HB.out.size
      by_cases hpar : (L x).par = (-1 : Int)
      · have hp : Tr.raP L (-1 : Int) (0 : Int) x = true := by unfold Tr.raP; simp [hpar]
        have e5 : ((L x).par == (-1 : Int)) = true := by simpa using hpar
        have hown := HO.out
        go_wp2_with (at_builtin; refine wpList_append_own _ rfl _ _ 52 rfl w.heap.size 3 i0 (.int .i64 0) 1 8 Tryd.underlying52 hi hz0 hz1 hz2 rfl (by decide) _ _ _ rfl (hown.alloc _) ⟨wr.heap.size, 0, none⟩ 1 1 [.int .i64 (x : Int)] rfl rfl ?d1 ?d2 ?d3 ?d4 ?d5 ?_)
        case d1 => exact Tr.newOne wr x
        case d2 => exact Tr.oneOne x
        case d3 => unfold maxLen; omega
        case d4 => omega
        case d5 => simp; omega
        intro v' w3 hown' hg3 _
        have HB3 := hide' ((HB.out.alloc (Nat.le_trans HB.out.size (Nat.le_refl _)) (.cells #[.int .i64 x] 3)).grown hg3 (by simp; omega) (fun j hj => (hown.lt j hj).1))
        have HO3 : Hid (Tr.IO w3 w.heap.size v' (l ++ [(x : Int)])) := by
          unfold Tr.IO
          rw [Tr.ic_app, List.length_append]
          exact hown'
        clear hown hown' hg3
        go_wp2_with fail
        go_roundw
        case rel => exact ⟨i + 1, by congr 1 <;> omega, by omega, by rw [HNX.out, hp]; exact HO3, HB3⟩
        case measure => simp [RowKit.intOf]; omega
      · have hp : Tr.raP L (-1 : Int) (0 : Int) x = false := by unfold Tr.raP; simp [hpar]
        have e5 : ((L x).par == (-1 : Int)) = false := by simpa using hpar
        go_wp2_with fail
        go_roundw
        case rel => exact ⟨i + 1, by congr 1 <;> omega, by omega, by rw [HNX.out, hp]; simpa using HO, HB⟩
        case measure => simp [RowKit.intOf]; omega
    · have g2 : ¬ ((-1 : Int) + 1 + (i : Int) ≤ ((m : Int) - 1)) := hlt
      have el : (-1 : Int) + 1 + (i : Int) = (m : Int) := by omega
      obtain ⟨po, co, hvo, _, _⟩ := Tr.owns_sl HO.out
      subst hvo
      have HO2 : Hid (Tr.IO wr w.heap.size (.slice po ([] ++ (Tr.numL ((-1 : Int) + 1) ((-1 : Int) + 1 + (i : Int))).filter (Tr.raP L (-1 : Int) (0 : Int))).length co) ([] ++ (Tr.numL ((-1 : Int) + 1) (m : Int)).filter (Tr.raP L (-1 : Int) (0 : Int)))) := by rw [el] at HO ⊢; exact HO
      clear el HO
      go_wp2
      go_ret
      exact ⟨_, rfl, by have h9 := HO2.out; simp at h9 ⊢; exact h9, HB.out⟩
set_option maxRecDepth 100000 in
set_option maxHeartbeats 4000000 in
theorem refAlR1 (v : Value) (m : Nat) (L : Nat → Tr.RN) (w : World) (h : Tr.NRow w v m L) (hm : m ≤ 1048576) (h0 : 0 < m) :
    Calls Tryd.prog 21 #[v, .int .i64 (-1 : Int), .int .i64 (1 : Int)] w fun r w' => ∃ u, r = .returned u ∧ Tr.IO w' w.heap.size u ([] ++ (Tr.numL ((-1 : Int) + 1) (((m : Int) - 1) + 1)).filter (Tr.raP L (-1 : Int) (1 : Int))) ∧ Below w.heap.size w w' := by
  obtain ⟨p, cap, rfl, c1, c2, c3⟩ := h
  obtain ⟨b, o, rfl, c4⟩ := c3 (by omega)
  have hC : ∀ x, x < m → w.cell? ⟨b, o + x * 13 + 8, none⟩ = some (.int .i64 (L x).par) := fun x hx => c4 x 8 (.int .i64 (L x).par) hx rfl
  have HC := hide' hC
  obtain ⟨i0, hi, hz0, hz1, hz2⟩ := info_parts Tr.intInfo
  have t2 : ¬ (-1 : Int) ≥ (m : Int) := by omega
  clear c4 c3 hC
  go_enter Tryd.func21, Tryd.ntmps21
  have HS1 : Hid (Tr.IO w w.heap.size (.slice none 0 0) ([] ++ (Tr.numL ((-1 : Int) + 1) ((-1 : Int) + 1 + ((0 : Nat) : Int))).filter (Tr.raP L (-1 : Int) (1 : Int)))) := by
    rw [show (Tr.numL ((-1 : Int) + 1) ((-1 : Int) + 1 + ((0 : Nat) : Int))) = [] by unfold Tr.numL; simp]
    exact Tr.io_nil w w.heap.size
  go_wp2_with fail
  go_loopw [7, 9] (fun out v wr => ∃ i : Nat, v = .int .i64 ((-1 : Int) + 1 + i) ∧ (-1 : Int) + 1 + i ≤ ((m : Int) - 1) + 1 ∧ Hid (Tr.IO wr w.heap.size out ([] ++ (Tr.numL ((-1 : Int) + 1) ((-1 : Int) + 1 + i)).filter (Tr.raP L (-1 : Int) (1 : Int)))) ∧ Hid (Below w.heap.size w wr)) (fun _ v _ => (((m : Int) - 1) + 1 - RowKit.intOf v).toNat)
  case atStart => exact ⟨0, by simp, by omega, HS1, Below.refl _ _⟩
  case round =>
    obtain ⟨i, rfl, hi1, HO, HB⟩ := hrel
    by_cases hlt : (-1 : Int) + 1 + (i : Int) ≤ ((m : Int) - 1)
    · obtain ⟨x, hx⟩ : ∃ x : Nat, (-1 : Int) + 1 + (i : Int) = x := ⟨((-1 : Int) + 1 + (i : Int)).toNat, by omega⟩
      have hnx := Tr.ra_next L (-1 : Int) (1 : Int) i
      have hlen := Tr.ra_len L (-1 : Int) (1 : Int) [] i
      have q := (HB.out.cell (p := ⟨b, o + x * 13 + 8, none⟩) (block_lt_of_cell (HC.out x (by omega)))).trans (HC.out x (by omega))
      have g1 : (x : Int) < (m : Int) := by omega
      have g2 : (x : Int) ≤ ((m : Int) - 1) := by omega
      have hi2 : i ≤ 1048577 := by omega
      have e1 : (x : Int) + 1 = (-1 : Int) + 1 + ((i + 1 : Nat) : Int) := by omega
      rw [hx] at hnx hi1 hlen HO ⊢
      have hgl := hide' hlt
      clear hlt
      generalize hl : [] ++ (Tr.numL ((-1 : Int) + 1) (x : Int)).filter (Tr.raP L (-1 : Int) (1 : Int)) = l at *
      have hnx2 : [] ++ (Tr.numL ((-1 : Int) + 1) ((-1 : Int) + 1 + ((i + 1 : Nat) : Int))).filter (Tr.raP L (-1 : Int) (1 : Int)) = l ++ (if Tr.raP L (-1 : Int) (1 : Int) x then [(x : Int)] else []) := by rw [hnx, ← List.append_assoc, hl]
      have HNX := hide' hnx2
      clear hnx hnx2 hl
      simp only [List.length_nil] at hlen
      obtain ⟨po, co, hvo, _, _⟩ := Tr.owns_sl HO.out
      subst hvo
      have hbs := HB.out.size
      have hp : Tr.raP L (-1 : Int) (1 : Int) x = true := by unfold Tr.raP; simp
      have hown := HO.out
      go_wp2_with (at_builtin; refine wpList_append_own _ rfl _ _ 52 rfl w.heap.size 3 i0 (.int .i64 0) 1 8 Tryd.underlying52 hi hz0 hz1 hz2 rfl (by decide) _ _ _ rfl (hown.alloc _) ⟨wr.heap.size, 0, none⟩ 1 1 [.int .i64 (x : Int)] rfl rfl ?d1 ?d2 ?d3 ?d4 ?d5 ?_)
      case d1 => exact Tr.newOne wr x
      case d2 => exact Tr.oneOne x
      case d3 => unfold maxLen; omega
      case d4 => omega
      case d5 => simp; omega
      intro v' w3 hown' hg3 _
      have HB3 := hide' ((HB.out.alloc (Nat.le_trans HB.out.size (Nat.le_refl _)) (.cells #[.int .i64 x] 3)).grown hg3 (by simp; omega) (fun j hj => (hown.lt j hj).1))
      have HO3 : Hid (Tr.IO w3 w.heap.size v' (l ++ [(x : Int)])) := by
        unfold Tr.IO
        rw [Tr.ic_app, List.length_append]
        exact hown'
      clear hown hown' hg3
      go_wp2_with fail
      go_roundw
      case rel => exact ⟨i + 1, by congr 1 <;> omega, by omega, by rw [HNX.out, hp]; exact HO3, HB3⟩
      case measure => simp [RowKit.intOf]; omega
    · have g2 : ¬ ((-1 : Int) + 1 + (i : Int) ≤ ((m : Int) - 1)) := hlt
      have el : (-1 : Int) + 1 + (i : Int) = (m : Int) := by omega
      obtain ⟨po, co, hvo, _, _⟩ := Tr.owns_sl HO.out
      subst hvo
      have HO2 : Hid (Tr.IO wr w.heap.size (.slice po ([] ++ (Tr.numL ((-1 : Int) + 1) ((-1 : Int) + 1 + (i : Int))).filter (Tr.raP L (-1 : Int) (1 : Int))).length co) ([] ++ (Tr.numL ((-1 : Int) + 1) (m : Int)).filter (Tr.raP L (-1 : Int) (1 : Int)))) := by rw [el] at HO ⊢; exact HO
      clear el HO
      go_wp2
      go_ret
      exact ⟨_, rfl, by have h9 := HO2.out; simp at h9 ⊢; exact h9, HB.out⟩
set_option maxRecDepth 100000 in
set_option maxHeartbeats 4000000 in
theorem refAlR2 (v : Value) (m : Nat) (L : Nat → Tr.RN) (w : World) (h : Tr.NRow w v m L) (hm : m ≤ 1048576) (h0 : 0 < m) :
    Calls Tryd.prog 21 #[v, .int .i64 (-1 : Int), .int .i64 (2 : Int)] w fun r w' => ∃ u, r = .returned u ∧ Tr.IO w' w.heap.size u ([(-1 : Int)] ++ (Tr.numL ((-1 : Int) + 1) (((m : Int) - 1) + 1)).filter (Tr.raP L (-1 : Int) (2 : Int))) ∧ Below w.heap.size w w' := by
  obtain ⟨p, cap, rfl, c1, c2, c3⟩ := h
  obtain ⟨b, o, rfl, c4⟩ := c3 (by omega)
  have hC : ∀ x, x < m → w.cell? ⟨b, o + x * 13 + 8, none⟩ = some (.int .i64 (L x).par) := fun x hx => c4 x 8 (.int .i64 (L x).par) hx rfl
  have HC := hide' hC
  obtain ⟨i0, hi, hz0, hz1, hz2⟩ := info_parts Tr.intInfo
  have t2 : ¬ (-1 : Int) ≥ (m : Int) := by omega
  clear c4 c3 hC
  go_enter Tryd.func21, Tryd.ntmps21
  go_wp2_with (at_builtin; refine wpList_append_own _ rfl _ _ 52 rfl w.heap.size 3 i0 (.int .i64 0) 1 8 Tryd.underlying52 hi hz0 hz1 hz2 rfl (by decide) _ _ _ rfl ((Tr.io_nil w w.heap.size).alloc _) ⟨w.heap.size, 0, none⟩ 1 1 [.int .i64 (-1 : Int)] rfl rfl ?c1 ?c2 ?c3 ?c4 ?c5 ?_)
  case c2 => rfl
  case c3 => unfold maxLen; omega
  intro v' w1 hown' hg1 _
  obtain ⟨g', cap', hv1⟩ := ownsRow_succ hown'
  have hv2 : v' = .slice (some ⟨g', 0, none⟩) 1 cap' := hv1
  clear hv1
  subst hv2
  have HB1 : Hid (Below w.heap.size w w1) := (((Below.refl _ _).alloc (Nat.le_refl _) (.cells #[.int .i64 (-1 : Int)] 3)).grown hg1 (by simp) (fun j hj => by cases hj))
  have HS1 : Hid (Tr.IO w1 w.heap.size (.slice (some ⟨g', 0, none⟩) 1 cap') ([(-1 : Int)] ++ (Tr.numL ((-1 : Int) + 1) ((-1 : Int) + 1 + ((0 : Nat) : Int))).filter (Tr.raP L (-1 : Int) (2 : Int)))) := by
    rw [show (Tr.numL ((-1 : Int) + 1) ((-1 : Int) + 1 + ((0 : Nat) : Int))) = [] by unfold Tr.numL; simp]
    exact hown'
  clear hown' hg1
  go_wp2_with fail
  go_loopw [7, 9] (fun out v wr => ∃ i : Nat, v = .int .i64 ((-1 : Int) + 1 + i) ∧ (-1 : Int) + 1 + i ≤ ((m : Int) - 1) + 1 ∧ Hid (Tr.IO wr w.heap.size out ([(-1 : Int)] ++ (Tr.numL ((-1 : Int) + 1) ((-1 : Int) + 1 + i)).filter (Tr.raP L (-1 : Int) (2 : Int)))) ∧ Hid (Below w.heap.size w wr)) (fun _ v _ => (((m : Int) - 1) + 1 - RowKit.intOf v).toNat)
  case atStart => exact ⟨0, by simp, by omega, HS1, HB1⟩
  case round =>
    obtain ⟨i, rfl, hi1, HO, HB⟩ := hrel
    by_cases hlt : (-1 : Int) + 1 + (i : Int) ≤ ((m : Int) - 1)
    · obtain ⟨x, hx⟩ : ∃ x : Nat, (-1 : Int) + 1 + (i : Int) = x := ⟨((-1 : Int) + 1 + (i : Int)).toNat, by omega⟩
      have hnx := Tr.ra_next L (-1 : Int) (2 : Int) i
      have hlen := Tr.ra_len L (-1 : Int) (2 : Int) [(-1 : Int)] i
      have q := (HB.out.cell (p := ⟨b, o + x * 13 + 8, none⟩) (block_lt_of_cell (HC.out x (by omega)))).trans (HC.out x (by omega))
      have g1 : (x : Int) < (m : Int) := by omega
      have g2 : (x : Int) ≤ ((m : Int) - 1) := by omega
      have hi2 : i ≤ 1048577 := by omega
      have e1 : (x : Int) + 1 = (-1 : Int) + 1 + ((i + 1 : Nat) : Int) := by omega
      rw [hx] at hnx hi1 hlen HO ⊢
      have hgl := hide' hlt
      clear hlt
      generalize hl : [(-1 : Int)] ++ (Tr.numL ((-1 : Int) + 1) (x : Int)).filter (Tr.raP L (-1 : Int) (2 : Int)) = l at *
      have hnx2 : [(-1 : Int)] ++ (Tr.numL ((-1 : Int) + 1) ((-1 : Int) + 1 + ((i + 1 : Nat) : Int))).filter (Tr.raP L (-1 : Int) (2 : Int)) = l ++ (if Tr.raP L (-1 : Int) (2 : Int) x then [(x : Int)] else []) := by rw [hnx, ← List.append_assoc, hl]
      have HNX := hide' hnx2
      clear hnx hnx2 hl
      simp only [List.length_cons, List.length_nil] at hlen
      obtain ⟨po, co, hvo, _, _⟩ := Tr.owns_sl HO.out
      subst hvo
      have hbs := HB.out.size
      have hp : Tr.raP L (-1 : Int) (2 : Int) x = true := by unfold Tr.raP; simp
      have hown := HO.out
      go_wp2_with (at_builtin; refine wpList_append_own _ rfl _ _ 52 rfl w.heap.size 3 i0 (.int .i64 0) 1 8 Tryd.underlying52 hi hz0 hz1 hz2 rfl (by decide) _ _ _ rfl (hown.alloc _) ⟨wr.heap.size, 0, none⟩ 1 1 [.int .i64 (x : Int)] rfl rfl ?d1 ?d2 ?d3 ?d4 ?d5 ?_)
      case d1 => exact Tr.newOne wr x
      case d2 => exact Tr.oneOne x
      case d3 => unfold maxLen; omega
      case d4 => omega
      case d5 => simp; omega
      intro v' w3 hown' hg3 _
      have HB3 := hide' ((HB.out.alloc (Nat.le_trans HB.out.size (Nat.le_refl _)) (.cells #[.int .i64 x] 3)).grown hg3 (by simp; omega) (fun j hj => (hown.lt j hj).1))
      have HO3 : Hid (Tr.IO w3 w.heap.size v' (l ++ [(x : Int)])) := by
        unfold Tr.IO
        rw [Tr.ic_app, List.length_append]
        exact hown'
      clear hown hown' hg3
      go_wp2_with fail
      go_roundw
      case rel => exact ⟨i + 1, by congr 1 <;> omega, by omega, by rw [HNX.out, hp]; exact HO3, HB3⟩
      case measure => simp [RowKit.intOf]; omega
    · have g2 : ¬ ((-1 : Int) + 1 + (i : Int) ≤ ((m : Int) - 1)) := hlt
      have el : (-1 : Int) + 1 + (i : Int) = (m : Int) := by omega
      obtain ⟨po, co, hvo, _, _⟩ := Tr.owns_sl HO.out
      subst hvo
      have HO2 : Hid (Tr.IO wr w.heap.size (.slice po ([(-1 : Int)] ++ (Tr.numL ((-1 : Int) + 1) ((-1 : Int) + 1 + (i : Int))).filter (Tr.raP L (-1 : Int) (2 : Int))).length co) ([(-1 : Int)] ++ (Tr.numL ((-1 : Int) + 1) (m : Int)).filter (Tr.raP L (-1 : Int) (2 : Int)))) := by rw [el] at HO ⊢; exact HO
      clear el HO
      go_wp2
      go_ret
      exact ⟨_, rfl, by have h9 := HO2.out; simp at h9 ⊢; exact h9, HB.out⟩
set_option maxRecDepth 100000 in
set_option maxHeartbeats 4000000 in
theorem refAlR3 (v : Value) (m : Nat) (L : Nat → Tr.RN) (w : World) (h : Tr.NRow w v m L) (hm : m ≤ 1048576) (h0 : 0 < m) :
    Calls Tryd.prog 21 #[v, .int .i64 (-1 : Int), .int .i64 (3 : Int)] w fun r w' => ∃ u, r = .returned u ∧ Tr.IO w' w.heap.size u ([(-1 : Int)] ++ (Tr.numL ((-1 : Int) + 1) (((m : Int) - 1) + 1)).filter (Tr.raP L (-1 : Int) (3 : Int))) ∧ Below w.heap.size w w' := by
  obtain ⟨p, cap, rfl, c1, c2, c3⟩ := h
  obtain ⟨b, o, rfl, c4⟩ := c3 (by omega)
  have hC : ∀ x, x < m → w.cell? ⟨b, o + x * 13 + 8, none⟩ = some (.int .i64 (L x).par) := fun x hx => c4 x 8 (.int .i64 (L x).par) hx rfl
  have HC := hide' hC
  obtain ⟨i0, hi, hz0, hz1, hz2⟩ := info_parts Tr.intInfo
  have t2 : ¬ (-1 : Int) ≥ (m : Int) := by omega
  clear c4 c3 hC
  go_enter Tryd.func21, Tryd.ntmps21
  go_wp2_with (at_builtin; refine wpList_append_own _ rfl _ _ 52 rfl w.heap.size 3 i0 (.int .i64 0) 1 8 Tryd.underlying52 hi hz0 hz1 hz2 rfl (by decide) _ _ _ rfl ((Tr.io_nil w w.heap.size).alloc _) ⟨w.heap.size, 0, none⟩ 1 1 [.int .i64 (-1 : Int)] rfl rfl ?c1 ?c2 ?c3 ?c4 ?c5 ?_)
  case c2 => rfl
  case c3 => unfold maxLen; omega
  intro v' w1 hown' hg1 _
  obtain ⟨g', cap', hv1⟩ := ownsRow_succ hown'
  have hv2 : v' = .slice (some ⟨g', 0, none⟩) 1 cap' := hv1
  clear hv1
  subst hv2
  have HB1 : Hid (Below w.heap.size w w1) := (((Below.refl _ _).alloc (Nat.le_refl _) (.cells #[.int .i64 (-1 : Int)] 3)).grown hg1 (by simp) (fun j hj => by cases hj))
  have HS1 : Hid (Tr.IO w1 w.heap.size (.slice (some ⟨g', 0, none⟩) 1 cap') ([(-1 : Int)] ++ (Tr.numL ((-1 : Int) + 1) ((-1 : Int) + 1 + ((0 : Nat) : Int))).filter (Tr.raP L (-1 : Int) (3 : Int)))) := by
    rw [show (Tr.numL ((-1 : Int) + 1) ((-1 : Int) + 1 + ((0 : Nat) : Int))) = [] by unfold Tr.numL; simp]
    exact hown'
  clear hown' hg1
  go_wp2_with fail
  go_loopw [7, 9] (fun out v wr => ∃ i : Nat, v = .int .i64 ((-1 : Int) + 1 + i) ∧ (-1 : Int) + 1 + i ≤ ((m : Int) - 1) + 1 ∧ Hid (Tr.IO wr w.heap.size out ([(-1 : Int)] ++ (Tr.numL ((-1 : Int) + 1) ((-1 : Int) + 1 + i)).filter (Tr.raP L (-1 : Int) (3 : Int)))) ∧ Hid (Below w.heap.size w wr)) (fun _ v _ => (((m : Int) - 1) + 1 - RowKit.intOf v).toNat)
  case atStart => exact ⟨0, by simp, by omega, HS1, HB1⟩
  case round =>
    obtain ⟨i, rfl, hi1, HO, HB⟩ := hrel
    by_cases hlt : (-1 : Int) + 1 + (i : Int) ≤ ((m : Int) - 1)
    · obtain ⟨x, hx⟩ : ∃ x : Nat, (-1 : Int) + 1 + (i : Int) = x := ⟨((-1 : Int) + 1 + (i : Int)).toNat, by omega⟩
      have hnx := Tr.ra_next L (-1 : Int) (3 : Int) i
      have hlen := Tr.ra_len L (-1 : Int) (3 : Int) [(-1 : Int)] i
      have q := (HB.out.cell (p := ⟨b, o + x * 13 + 8, none⟩) (block_lt_of_cell (HC.out x (by omega)))).trans (HC.out x (by omega))
      have g1 : (x : Int) < (m : Int) := by omega
      have g2 : (x : Int) ≤ ((m : Int) - 1) := by omega
      have hi2 : i ≤ 1048577 := by omega
      have e1 : (x : Int) + 1 = (-1 : Int) + 1 + ((i + 1 : Nat) : Int) := by omega
      rw [hx] at hnx hi1 hlen HO ⊢
      have hgl := hide' hlt
      clear hlt
      generalize hl : [(-1 : Int)] ++ (Tr.numL ((-1 : Int) + 1) (x : Int)).filter (Tr.raP L (-1 : Int) (3 : Int)) = l at *
      have hnx2 : [(-1 : Int)] ++ (Tr.numL ((-1 : Int) + 1) ((-1 : Int) + 1 + ((i + 1 : Nat) : Int))).filter (Tr.raP L (-1 : Int) (3 : Int)) = l ++ (if Tr.raP L (-1 : Int) (3 : Int) x then [(x : Int)] else []) := by rw [hnx, ← List.append_assoc, hl]
      have HNX := hide' hnx2
      clear hnx hnx2 hl
      simp only [List.length_cons, List.length_nil] at hlen
      obtain ⟨po, co, hvo, _, _⟩ := Tr.owns_sl HO.out
      subst hvo
      have hbs := HB.out.size
      have hp : Tr.raP L (-1 : Int) (3 : Int) x = false := by unfold Tr.raP; simp
      go_wp2_with fail
      go_roundw
      case rel => exact ⟨i + 1, by congr 1 <;> omega, by omega, by rw [HNX.out, hp]; simpa using HO, HB⟩
      case measure => simp [RowKit.intOf]; omega
    · have g2 : ¬ ((-1 : Int) + 1 + (i : Int) ≤ ((m : Int) - 1)) := hlt
      have el : (-1 : Int) + 1 + (i : Int) = (m : Int) := by omega
      obtain ⟨po, co, hvo, _, _⟩ := Tr.owns_sl HO.out
      subst hvo
      have HO2 : Hid (Tr.IO wr w.heap.size (.slice po ([(-1 : Int)] ++ (Tr.numL ((-1 : Int) + 1) ((-1 : Int) + 1 + (i : Int))).filter (Tr.raP L (-1 : Int) (3 : Int))).length co) ([(-1 : Int)] ++ (Tr.numL ((-1 : Int) + 1) (m : Int)).filter (Tr.raP L (-1 : Int) (3 : Int)))) := by rw [el] at HO ⊢; exact HO
      clear el HO
      go_wp2
      go_ret
      exact ⟨_, rfl, by have h9 := HO2.out; simp at h9 ⊢; exact h9, HB.out⟩
set_option maxRecDepth 100000 in
set_option maxHeartbeats 4000000 in
theorem refAlRX (v : Value) (m : Nat) (L : Nat → Tr.RN) (w : World) (ax : Int) (h : Tr.NRow w v m L) (hm : m ≤ 1048576) (h0 : 0 < m) (hx : ax < 0 ∨ 3 < ax) :
    Calls Tryd.prog 21 #[v, .int .i64 (-1 : Int), .int .i64 ax] w fun r w' => ∃ u, r = .returned u ∧ Tr.IO w' w.heap.size u ([] ++ (Tr.numL ((-1 : Int) + 1) (((m : Int) - 1) + 1)).filter (Tr.raP L (-1 : Int) ax)) ∧ Below w.heap.size w w' := by
  obtain ⟨p, cap, rfl, c1, c2, c3⟩ := h
  obtain ⟨b, o, rfl, c4⟩ := c3 (by omega)
  have hC : ∀ x, x < m → w.cell? ⟨b, o + x * 13 + 8, none⟩ = some (.int .i64 (L x).par) := fun x hx => c4 x 8 (.int .i64 (L x).par) hx rfl
  have HC := hide' hC
  obtain ⟨i0, hi, hz0, hz1, hz2⟩ := info_parts Tr.intInfo
  have t2 : ¬ (-1 : Int) ≥ (m : Int) := by omega
  have x0 : (ax == 0) = false := by simp; omega
  have x1 : (ax == 1) = false := by simp; omega
  have x2 : (ax == 2) = false := by simp; omega
  have x3 : (ax == 3) = false := by simp; omega
  clear c4 c3 hC
  go_enter Tryd.func21, Tryd.ntmps21
  have HS1 : Hid (Tr.IO w w.heap.size (.slice none 0 0) ([] ++ (Tr.numL ((-1 : Int) + 1) ((-1 : Int) + 1 + ((0 : Nat) : Int))).filter (Tr.raP L (-1 : Int) ax))) := by
    rw [show (Tr.numL ((-1 : Int) + 1) ((-1 : Int) + 1 + ((0 : Nat) : Int))) = [] by unfold Tr.numL; simp]
    exact Tr.io_nil w w.heap.size
  go_wp2_with fail
  go_loopw [7, 9] (fun out v wr => ∃ i : Nat, v = .int .i64 ((-1 : Int) + 1 + i) ∧ (-1 : Int) + 1 + i ≤ ((m : Int) - 1) + 1 ∧ Hid (Tr.IO wr w.heap.size out ([] ++ (Tr.numL ((-1 : Int) + 1) ((-1 : Int) + 1 + i)).filter (Tr.raP L (-1 : Int) ax))) ∧ Hid (Below w.heap.size w wr)) (fun _ v _ => (((m : Int) - 1) + 1 - RowKit.intOf v).toNat)
  case atStart => exact ⟨0, by simp, by omega, HS1, Below.refl _ _⟩
  case round =>
    obtain ⟨i, rfl, hi1, HO, HB⟩ := hrel
    by_cases hlt : (-1 : Int) + 1 + (i : Int) ≤ ((m : Int) - 1)
    · obtain ⟨x, hx⟩ : ∃ x : Nat, (-1 : Int) + 1 + (i : Int) = x := ⟨((-1 : Int) + 1 + (i : Int)).toNat, by omega⟩
      have hnx := Tr.ra_next L (-1 : Int) ax i
      have hlen := Tr.ra_len L (-1 : Int) ax [] i
      have q := (HB.out.cell (p := ⟨b, o + x * 13 + 8, none⟩) (block_lt_of_cell (HC.out x (by omega)))).trans (HC.out x (by omega))
      have g1 : (x : Int) < (m : Int) := by omega
      have g2 : (x : Int) ≤ ((m : Int) - 1) := by omega
      have hi2 : i ≤ 1048577 := by omega
      have e1 : (x : Int) + 1 = (-1 : Int) + 1 + ((i + 1 : Nat) : Int) := by omega
      rw [hx] at hnx hi1 hlen HO ⊢
      have hgl := hide' hlt
      clear hlt
      generalize hl : [] ++ (Tr.numL ((-1 : Int) + 1) (x : Int)).filter (Tr.raP L (-1 : Int) ax) = l at *
      have hnx2 : [] ++ (Tr.numL ((-1 : Int) + 1) ((-1 : Int) + 1 + ((i + 1 : Nat) : Int))).filter (Tr.raP L (-1 : Int) ax) = l ++ (if Tr.raP L (-1 : Int) ax x then [(x : Int)] else []) := by rw [hnx, ← List.append_assoc, hl]
      have HNX := hide' hnx2
      clear hnx hnx2 hl
      simp only [List.length_nil] at hlen
      obtain ⟨po, co, hvo, _, _⟩ := Tr.owns_sl HO.out
      subst hvo
      have hbs := HB.out.size
      have hp : Tr.raP L (-1 : Int) ax x = false := by unfold Tr.raP; simp; omega
      go_wp2_with fail
      go_roundw
      case rel => exact ⟨i + 1, by congr 1 <;> omega, by omega, by rw [HNX.out, hp]; simpa using HO, HB⟩
      case measure => simp [RowKit.intOf]; omega
    · have g2 : ¬ ((-1 : Int) + 1 + (i : Int) ≤ ((m : Int) - 1)) := hlt
      have el : (-1 : Int) + 1 + (i : Int) = (m : Int) := by omega
      obtain ⟨po, co, hvo, _, _⟩ := Tr.owns_sl HO.out
      subst hvo
      have HO2 : Hid (Tr.IO wr w.heap.size (.slice po ([] ++ (Tr.numL ((-1 : Int) + 1) ((-1 : Int) + 1 + (i : Int))).filter (Tr.raP L (-1 : Int) ax)).length co) ([] ++ (Tr.numL ((-1 : Int) + 1) (m : Int)).filter (Tr.raP L (-1 : Int) ax))) := by rw [el] at HO ⊢; exact HO
      clear el HO
      go_wp2
      go_ret
      exact ⟨_, rfl, by have h9 := HO2.out; simp at h9 ⊢; exact h9, HB.out⟩
end Go.Proofs.YtcmjipgigkalcaaDoor
