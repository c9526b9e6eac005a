/-
  WALKS over the document's Units and CompareUnits; the order of the units is that of the first unlike characters' units.
-/
import Derived.Test.YtfbjkebinbemdaaDoorWdRefAsk
import Derived.Test.YtfbjkebinbemdaaDoorWdLawOrder
namespace Go.Proofs.YtfbjkebinbemdaaDoor
open Go.RowKit

namespace Wd
/-- a character's units -/
def ut (r : Nat) : List Nat := if r ≤ 65535 then [r] else [55296 + (r - 65536) / 1024, 56320 + (r - 65536) % 1024]
def uts (L : List Nat) : List Nat := L.flatMap ut
theorem uts_append (A B : List Nat) : uts (A ++ B) = uts A ++ uts B := by simp [uts]
theorem uts_cons (r : Nat) (L : List Nat) : uts (r :: L) = ut r ++ uts L := by simp [uts]
theorem uts_snoc (A : List Nat) (r : Nat) : uts (A ++ [r]) = uts A ++ ut r := by simp [uts]
theorem ut_low {r : Nat} (h : r ≤ 65535) : ut r = [r] := by unfold ut; rw [if_pos h]
theorem ut_high {r : Nat} (h : ¬ r ≤ 65535) : ut r = [55296 + (r - 65536) / 1024, 56320 + (r - 65536) % 1024] := by unfold ut; rw [if_neg h]
theorem uts_length (L : List Nat) : (uts L).length ≤ 2 * L.length := by
  induction L with
  | nil => simp [uts]
  | cons r L ih =>
    rw [uts_cons, List.length_append, List.length_cons]
    by_cases h : r ≤ 65535
    · rw [ut_low h]; simp; omega
    · rw [ut_high h]; simp; omega
theorem fu_head {a b : Nat} {A B : List Nat} (h : a ≠ b) : fu (a :: A) (b :: B) = ((a : Int), (b : Int)) := by simp [fu, h]
theorem un_nat (b : Nat) (hb : Rn.scal b) : (0 : Int) ≤ un b := by
  unfold Rn.scal at hb
  by_cases h : (b : Int) ≤ 65535
  · rw [un_low _ h]; omega
  · rw [un_high _ (by omega)]; omega
/-- the order by the units is what both texts' first unlike characters say -/
theorem cmp_uts (L M : List Nat) (hL : ∀ r ∈ L, Rn.scal r) (hM : ∀ r ∈ M, Rn.scal r) : cmp (uts L) (uts M) = cmpU L M := by
  have un1 : un (-1) = -65536 := by unfold un; rw [if_pos (by omega)]; rfl
  have hp := part L M
  unfold cmp cmpU
  cases hp with
  | same => rw [fu_same, fu_same, cm_eq, cm_eq]
  | left _ b M' =>
    have hb := hM b (by simp)
    rw [fu_left, uts_append, uts_cons]
    have : fu (uts L) (uts L ++ (ut b ++ uts M')) = fu [] (ut b ++ uts M') := by
      have := fu_app (uts L) [] (ut b ++ uts M')
      rwa [List.append_nil] at this
    rw [this, fu_nil, un1]
    simp only []
    rw [cm_lt (show (-65536 : Int) < un b by have := un_nat b hb; omega)]
    apply cm_lt
    by_cases h : b ≤ 65535
    · rw [ut_low h]; simp only [List.cons_append, hd]; omega
    · rw [ut_high h]; simp only [List.cons_append, hd]; omega
  | right _ a L' =>
    have ha := hL a (by simp)
    rw [fu_right, uts_append, uts_cons]
    have : fu (uts M ++ (ut a ++ uts L')) (uts M) = fu (ut a ++ uts L') [] := by
      have := fu_app (uts M) (ut a ++ uts L') []
      rwa [List.append_nil] at this
    rw [this, un1]
    simp only []
    rw [cm_gt (show (-65536 : Int) < un a by have := un_nat a ha; omega)]
    by_cases h : a ≤ 65535
    · rw [ut_low h]; simp only [List.cons_append, fu]; exact cm_gt (by omega)
    · rw [ut_high h]; simp only [List.cons_append, fu]; exact cm_gt (by omega)
  | ne P a b L' M' h =>
    have ha := hL a (by simp)
    have hb := hM b (by simp)
    rw [fu_part P a b L' M' h, uts_append, uts_append, uts_cons, uts_cons, fu_app]
    unfold Rn.scal at ha hb
    simp only []
    by_cases h1 : a ≤ 65535
    · rw [ut_low h1, un_low _ (by omega)]
      by_cases h2 : b ≤ 65535
      · rw [ut_low h2, un_low _ (by omega), List.cons_append, List.cons_append, fu_head h]
        simp only []
        rcases Nat.lt_or_gt_of_ne h with e | e
        · rw [cm_lt (by omega), cm_lt (by omega)]
        · rw [cm_gt (by omega), cm_gt (by omega)]
      · rw [ut_high h2, un_high _ (by omega)]
        simp only [List.cons_append]
        rw [fu_head (by omega)]
        simp only []
        rcases Nat.lt_or_ge a (55296 + (b - 65536) / 1024) with e | e
        · rw [cm_lt (by omega), cm_lt (by omega)]
        · rw [cm_gt (by omega), cm_gt (by omega)]
    · rw [ut_high h1, un_high _ (by omega)]
      by_cases h2 : b ≤ 65535
      · rw [ut_low h2, un_low _ (by omega)]
        simp only [List.cons_append]
        rw [fu_head (by omega)]
        simp only []
        rcases Nat.lt_or_ge (55296 + (a - 65536) / 1024) b with e | e
        · rw [cm_lt (by omega), cm_lt (by omega)]
        · rw [cm_gt (by omega), cm_gt (by omega)]
      · rw [ut_high h2, un_high _ (by omega)]
        simp only [List.cons_append]
        by_cases e : (a - 65536) / 1024 = (b - 65536) / 1024
        · rw [e, fu_eq, fu_head (by omega)]
          simp only []
          rcases Nat.lt_or_gt_of_ne h with q | q
          · rw [cm_lt (by omega), cm_lt (by omega)]
          · rw [cm_gt (by omega), cm_gt (by omega)]
        · rw [fu_head (by omega)]
          simp only []
          rcases Nat.lt_or_gt_of_ne e with q | q
          · rw [cm_lt (by omega), cm_lt (by omega)]
          · rw [cm_gt (by omega), cm_gt (by omega)]
end Wd

/-- whole numbers as cells -/
def nc (L : List Nat) : List Value := L.map fun (r : Nat) => .int .i64 (r : Int)
theorem nc_length (L : List Nat) : (nc L).length = L.length := by simp [nc]
theorem nc_append (A B : List Nat) : nc (A ++ B) = nc A ++ nc B := by simp [nc]
/-- a slice of these numbers -/
def NS (w : World) (L : List Nat) (v : Value) : Prop := ∃ pa cap, v = .slice pa L.length cap ∧ L.length ≤ cap ∧ cap ≤ maxLen ∧ (L.length = 0 ∨ ∃ g o, pa = some ⟨g, o, none⟩ ∧ Row .i64 w g o L.length (Wd.lg L))
theorem NS.below {w w' : World} {L : List Nat} {v : Value} (h : NS w L v) {B : Nat} (hb : Below B w w') (hB : w.heap.size ≤ B) : NS w' L v := by
  obtain ⟨pa, cap, h1, h2, h3, h4⟩ := h
  refine ⟨pa, cap, h1, h2, h3, ?_⟩
  rcases h4 with h4 | ⟨g, o, h4, h5⟩
  · exact .inl h4
  · exact .inr ⟨g, o, h4, h5.below hb hB⟩
theorem ns_of_owns {w : World} {B : Nat} {v : Value} {L : List Nat} (h : w.ownsRow B 3 1 v L.length (nc L)) : NS w L v := by
  rcases h.2 with ⟨h1, h2⟩ | ⟨g, cap, cur, h1, h2, h3, h4, h5, h6, h7⟩
  · exact ⟨none, 0, by rw [h1, h2], by omega, by unfold maxLen; omega, .inl h2⟩
  · refine ⟨_, cap, h1, h4, h5, .inr ⟨g, 0, rfl, fun j hj => ?_⟩⟩
    rw [Lib.cell_of_heap h3, Nat.zero_add]
    have e : cur.toList[j]? = (nc L)[j]? := by
      rw [← h7, List.getElem?_take]
      rw [if_pos (by omega)]
    rw [← Array.getElem?_toList, e]
    simp [nc, Wd.lg, hj]
theorem nc_news1 (W : World) (r : Int) : ∀ j u, ([.int .i64 r] : List Value)[j]? = some u → (W.alloc (.cells #[.int .i64 r] 3)).cell? (Addr.add ⟨W.heap.size, 0, none⟩ j) = some u := by
  intro j u hj
  match j, hj with
  | 0, hj => simp at hj; subst hj; simp [Addr.add]
  | (j + 1), hj => simp at hj
theorem nc_one1 (r : Int) : ∀ u ∈ ([.int .i64 r] : List Value), u.oneCell' = true := by
  intro u hu
  simp at hu
  subst hu
  rfl
set_option maxRecDepth 100000 in
set_option maxHeartbeats 2000000 in
theorem refUnits_any (f : Nat → Nat) (n : Nat) (w : World) (hf : ∀ j, f j < 256) (hn : n ≤ 1099511627776) :
    Calls Tryd.prog 50 #[.string (Rn.arr f n)] w fun e w' => ∃ v, e = .returned v ∧ NS w' (Wd.uts (Wd.R f n 0)) v ∧ Below w.heap.size w w' := by
  have hsz := Rn.arr_size f n
  have hl := Wd.R_length f n 0 hf
  obtain ⟨i0, hi, hz0, hz1, hz2⟩ := info3 infoInt'
  go_enter Tryd.func50, Tryd.ntmps50
  go_wp2
  go_loopw [3] (fun a wr => ∃ (pos : Nat) (pre : List Nat), wr.heap[w.heap.size]? = some (.stringIter (Rn.arr f n) pos) ∧ wr.ownsRow (w.heap.size + 1) 3 1 a (Wd.uts pre).length (nc (Wd.uts pre)) ∧ Hid (pre ++ Wd.R f n pos = Wd.R f n 0) ∧ pre.length ≤ pos ∧ Below w.heap.size w wr)
    (fun _ wr => n - wr.iterPos w.heap.size)
  case atStart => exact ⟨0, [], World.iter_heap w _ 0, World.ownsRow_nil _ _ _ _, rfl, Nat.le_refl _, (Below.refl _ _).alloc (Nat.le_refl _) _⟩
  case round =>
    obtain ⟨pos, pre, hit, hown, hpre, hpl, hB⟩ := hrel
    have hul := Wd.uts_length pre
    by_cases hlt : pos < n
    · have hnx : ∀ ty, (Instr.next (.pointer (some ⟨w.heap.size, 0, none⟩)) true ty).run Tryd.prog wr = _ := fun ty => Lib.run_next_any_at wr w.heap.size (Rn.arr f n) pos ty hit (by rw [hsz]; exact hlt)
      rw [Rn.arr_decode f n pos hf hlt] at hnx
      have hp := hpre.out
      rw [Wd.R_step f n pos hf hlt] at hp
      have HP := hide' hp
      clear hpre hp
      obtain ⟨hd1, hd2, hd3⟩ := Rn.dec_pos (Rn.off f pos) (n - pos) (fun _ => hf _) (by omega)
      have hr9 := (Rn.dec_scal (Rn.off f pos) (n - pos) (fun _ => hf _) (by omega)).1
      have hit2 := Lib.iterAt_heap wr w.heap.size (Rn.arr f n) pos (pos + (Rn.dec (Rn.off f pos) (n - pos)).2) hit
      have hB2 := Lib.below_iterAt hB (Nat.le_refl _) (Rn.arr f n) (pos + (Rn.dec (Rn.off f pos) (n - pos)).2)
      generalize (Rn.dec (Rn.off f pos) (n - pos)).1 = r at *
      generalize (Rn.dec (Rn.off f pos) (n - pos)).2 = d at *
      have hown2 := ownsRow_iterAt hown (Nat.lt_succ_self _) (Rn.arr f n) (pos + d)
      have hlw : w.heap.size < (wr.iterAt w.heap.size (Rn.arr f n) (pos + d)).heap.size := (Array.getElem?_eq_some_iff.1 hit2).1
      generalize wr.iterAt w.heap.size (Rn.arr f n) (pos + d) = W2 at *
      have hus := Wd.uts_snoc pre r
      by_cases hlow : r ≤ 65535
      · have hlowi : (r : Int) ≤ 65535 := by omega
        rw [Wd.ut_low hlow] at hus
        have HU := hide' hus
        clear hus
        go_wp2_with (at_builtin; refine wpList_append_own _ rfl _ _ 33 rfl (w.heap.size + 1) 3 i0 (.int .i64 0) 1 8 Tryd.underlying33 hi hz0 hz1 hz2 rfl (by decide) _ (Wd.uts pre).length (nc (Wd.uts pre)) rfl (hown2.alloc _) ⟨W2.heap.size, 0, none⟩ 1 1 [.int .i64 (r : Int)] rfl rfl ?c1 ?c2 ?c3 ?c4 ?c5 ?_)
        case c1 => exact nc_news1 _ r
        case c2 => exact nc_one1 r
        case c3 => unfold maxLen; omega
        case c4 => omega
        case c5 => simp; omega
        intro v' w3 hown' hgrow _
        have hB3 : Below w.heap.size w w3 := (hB2.alloc (Nat.le_of_lt hlw) _).grown hgrow (by simp; omega) (fun j hj => by have := (hown2.lt j hj).1; omega)
        have hit3 : w3.heap[w.heap.size]? = some (.stringIter (Rn.arr f n) (pos + d)) := by
          rw [hgrow.block _ (by simp; omega) (fun e => by have := (hown2.lt _ e.symm).1; omega), Lib.alloc_old W2 _ _ hlw]
          exact hit2
        have hown3 : w3.ownsRow (w.heap.size + 1) 3 1 v' (Wd.uts (pre ++ [r])).length (nc (Wd.uts (pre ++ [r]))) := by rw [HU.out, nc_append, List.length_append]; exact hown'
        clear hown hown' hgrow hB
        go_wp2_with fail
        go_roundw
        case rel => exact ⟨pos + d, pre ++ [r], hit3, hown3, by rw [List.append_assoc]; exact HP, by simp; omega, hB3⟩
        case measure => simp only [World.iterPos, hit3, hit]; omega
      · have hlowi : ¬ (r : Int) ≤ 65535 := by omega
        have hr6 : 65536 ≤ (r : Int) := by omega
        rw [Wd.ut_high hlow] at hus
        have HU := hide' hus
        clear hus
        have u1 : 55296 + ((r : Int) - 65536) / 1024 = ((55296 + (r - 65536) / 1024 : Nat) : Int) := by omega
        have u2 : 56320 + ((r : Int) - 65536) % 1024 = ((56320 + (r - 65536) % 1024 : Nat) : Int) := by omega
        generalize 55296 + (r - 65536) / 1024 = x1 at *
        generalize 56320 + (r - 65536) % 1024 = x2 at *
        go_wp2_with (at_builtin; refine wpList_append_own _ rfl _ _ 33 rfl (w.heap.size + 1) 3 i0 (.int .i64 0) 1 8 Tryd.underlying33 hi hz0 hz1 hz2 rfl (by decide) _ (Wd.uts pre).length (nc (Wd.uts pre)) rfl (hown2.alloc _) ⟨W2.heap.size, 0, none⟩ 2 2 [.int .i64 (x1 : Int), .int .i64 (x2 : Int)] rfl rfl ?d1 ?d2 ?d3 ?d4 ?d5 ?_)
        case d2 => exact ⟨rfl, rfl⟩
        case d3 => unfold maxLen; omega
        case d4 => omega
        case d5 => omega
        intro v' w3 hown' hgrow _
        have hB3 : Below w.heap.size w w3 := (hB2.alloc (Nat.le_of_lt hlw) _).grown hgrow (by simp; omega) (fun j hj => by have := (hown2.lt j hj).1; omega)
        have hit3 : w3.heap[w.heap.size]? = some (.stringIter (Rn.arr f n) (pos + d)) := by
          rw [hgrow.block _ (by simp; omega) (fun e => by have := (hown2.lt _ e.symm).1; omega), Lib.alloc_old W2 _ _ hlw]
          exact hit2
        have hown3 : w3.ownsRow (w.heap.size + 1) 3 1 v' (Wd.uts (pre ++ [r])).length (nc (Wd.uts (pre ++ [r]))) := by rw [HU.out, nc_append, List.length_append]; exact hown'
        clear hown hown' hgrow hB
        go_wp2_with fail
        go_roundw
        case rel => exact ⟨pos + d, pre ++ [r], hit3, hown3, by rw [List.append_assoc]; exact HP, by simp; omega, hB3⟩
        case measure => simp only [World.iterPos, hit3, hit]; omega
    · have hnx : ∀ ty, (Instr.next (.pointer (some ⟨w.heap.size, 0, none⟩)) true ty).run Tryd.prog wr = _ := fun ty => Lib.run_next_end_at wr w.heap.size (Rn.arr f n) pos ty hit (by rw [hsz]; exact hlt)
      have hp := hpre.out
      rw [Wd.R_end f n pos hlt, List.append_nil] at hp
      have HP := hide' hp
      clear hp hpre
      go_wp2_with fail
      go_ret
      exact ⟨_, rfl, by rw [← HP.out]; exact ns_of_owns hown, hB⟩

set_option maxRecDepth 100000 in
set_option maxHeartbeats 2000000 in
theorem refCompareUnits_any (f : Nat → Nat) (n : Nat) (g : Nat → Nat) (m : Nat) (w : World) (hf : ∀ j, f j < 256) (hg : ∀ j, g j < 256) (hn : n ≤ 1099511627776) (hm : m ≤ 1099511627776) :
    Calls Tryd.prog 21 #[.string (Rn.arr f n), .string (Rn.arr g m)] w fun e w' => e = .returned (.int .i64 (Wd.cmpU (Wd.R f n 0) (Wd.R g m 0))) ∧ Below w.heap.size w w' := by
  have c1 := refUnits_any f n w hf hn
  have c2 := fun w1 => refUnits_any g m w1 hg hm
  have hl1 := Wd.R_length f n 0 hf
  have hl2 := Wd.R_length g m 0 hg
  have hu1 := Wd.uts_length (Wd.R f n 0)
  have hu2 := Wd.uts_length (Wd.R g m 0)
  rw [← Wd.cmp_uts _ _ (Wd.R_scal f n 0 hf) (Wd.R_scal g m 0 hg)]
  generalize Wd.uts (Wd.R f n 0) = L at *
  generalize Wd.uts (Wd.R g m 0) = M at *
  obtain ⟨z, hz⟩ : ∃ z, z = Wd.cmp L M := ⟨_, rfl⟩
  rw [← hz]
  have HZ := hide' hz
  clear hz
  go_enter Tryd.func21, Tryd.ntmps21
  go_wp2_with fail
  refine c1.mono ?_
  rintro e w1 ⟨v1, rfl, hr1, hb1⟩
  go_wp2_with fail
  refine (c2 w1).mono ?_
  rintro e w2 ⟨v2, rfl, hr2, hb2⟩
  have hr1' := hr1.below hb2 (Nat.le_refl _)
  have hB2 := hb1.trans (hb2.mono hb1.size)
  obtain ⟨p1, k1, rfl, a1, a2, a3⟩ := hr1'
  obtain ⟨p2, k2, rfl, b1, b2, b3⟩ := hr2
  clear hr1 c1 c2
  go_wp2_with fail
  go_loopw [7] (fun a wr => ∃ k : Nat, a = .int .i64 k ∧ k ≤ L.length ∧ k ≤ M.length ∧ Hid (L.take k = M.take k) ∧ Below w2.heap.size w2 wr) (fun a _ => L.length - (intOf a).toNat)
  case atStart => exact ⟨0, rfl, Nat.zero_le _, Nat.zero_le _, Wd.take0 L M, Below.refl _ _⟩
  case round =>
    obtain ⟨k, rfl, hk1, hk2, ht, hB⟩ := hrel
    have hBw := hB2.trans (hB.mono hB2.size)
    by_cases hl : k < L.length ∧ k < M.length
    · obtain ⟨l1, l2⟩ := hl
      have g1 : (k : Int) < L.length := by omega
      have g2 : (k : Int) < M.length := by omega
      rcases a3 with h0 | ⟨ga, oa, rfl, ra⟩
      · omega
      rcases b3 with h0 | ⟨gb, ob, rfl, rb⟩
      · omega
      have cx := (ra.below hB (Nat.le_refl _)) k l1
      have cy := (rb.below hB (Nat.le_refl _)) k l2
      clear ra rb
      by_cases he : Wd.lg L k = Wd.lg M k
      · have HT := hide' (Wd.take_snoc_eq ht.out l1 l2 he)
        rw [he] at cx
        clear he
        generalize Wd.lg M k = b at *
        have n1 : ((b : Int) == b) = true := by simp
        go_wp2
        go_quiet (fail)
        go_wp2
        go_roundw
        case rel => exact ⟨k + 1, by go_num, by omega, by omega, HT, below_drewN hB _⟩
        case measure => simp [intOf]; omega
      · have HZ2 := hide' (HZ.out.trans (Wd.cmp_at ht.out l1 l2 he))
        generalize Wd.lg L k = a at *
        generalize Wd.lg M k = b at *
        have n1 : ¬ (a : Int) = b := by omega
        clear HZ he
        go_wp2
        go_quiet (fail)
        go_wp2
        have cx5 : (wr.drewN nq).cell? ⟨ga, oa + k, none⟩ = some (.int .i64 a) := cx
        have cy5 : (wr.drewN nq).cell? ⟨gb, ob + k, none⟩ = some (.int .i64 b) := cy
        have hB5 := below_drewN hBw nq
        clear cx cy
        generalize wr.drewN nq = W5 at *
        go_quiet ((go_at_call 47; exact Calls.quiet_of_same (order_any _ _ _)))
        go_wp2
        go_ret
        exact ⟨ret_int HZ2.out.symm, below_drewN hB5 _⟩
    · have HZ2 := hide' (HZ.out.trans (Wd.cmp_end ht.out hk1 hk2 hl))
      clear HZ a3 b3
      by_cases h : k < L.length
      · have g1 : (k : Int) < L.length := by omega
        have g2 : ¬ (k : Int) < M.length := by omega
        go_wp2_with (go_at_call 47; refine (order_any _ _ _).mono ?_; rintro e w' ⟨rfl, rfl⟩)
        go_ret
        exact ⟨ret_int HZ2.out.symm, hBw⟩
      · have g1 : ¬ (k : Int) < L.length := by omega
        go_wp2_with (go_at_call 47; refine (order_any _ _ _).mono ?_; rintro e w' ⟨rfl, rfl⟩)
        go_ret
        exact ⟨ret_int HZ2.out.symm, hBw⟩
end Go.Proofs.YtfbjkebinbemdaaDoor
