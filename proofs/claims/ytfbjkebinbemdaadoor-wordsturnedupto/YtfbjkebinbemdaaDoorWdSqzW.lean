/-
  WALKS over words.Squeeze, the document's Blank and Squeeze.
-/
import Derived.Test.YtfbjkebinbemdaaDoorWdSqz
namespace Go.Proofs.YtfbjkebinbemdaaDoor
open Go.RowKit Go.Shelf

namespace Wd
theorem cat_pos (L : List Nat) : decide ((0 : Int) < ((Rn.cat L).length : Int)) = decide (0 < L.length) := by
  rw [Bool.eq_iff_iff, decide_eq_true_eq, decide_eq_true_eq]
  cases L with
  | nil => simp [Rn.cat]
  | cons r L =>
    rw [Rn.cat_cons, List.length_append, Rn.enc_length, List.length_cons]
    have := Rn.el_pos r
    omega
theorem cat_snoc (L : List Nat) (r : Nat) : Lib.byteCells (Rn.cat (L ++ [r])) = Lib.byteCells (Rn.cat L) ++ Lib.runeCells (r : Int) := by
  rw [Rn.cat_append, Lib.byteCells_append, show Rn.cat [r] = Lib.encodeRune r from by simp [Rn.cat], Lib.byteCells_encodeRune]
theorem cat_space (L : List Nat) : Lib.byteCells (Rn.cat (L ++ [32])) = Lib.byteCells (Rn.cat L) ++ [.int .u8 32] := by
  rw [cat_snoc]
  rfl
end Wd
theorem builder_below {N b : Nat} {bs : List Value} {W W' : World} (h : Lib.IsBuilderF 43 5 N b bs W) (hb : Below W.heap.size W W') : Lib.IsBuilderF 43 5 N b bs W' :=
  builder_kept h (fun k _ h1 _ => (hb.block k (Array.getElem?_eq_some_iff.1 h1).1).trans h1)

set_option maxRecDepth 100000 in
set_option maxHeartbeats 4000000 in
theorem squeeze_any (f : Nat → Nat) (n : Nat) (w : World) (hf : ∀ j, f j < 256) (hn : n ≤ 1099511627776) (hS : Spans w) :
    Calls Tryd.prog 14 #[.string (Rn.arr f n)] w fun e w' => e = .returned (.string (Rn.tx (Wd.sq (Wd.R f n 0)).1)) ∧ Below w.heap.size w w' := by
  have hsz := Rn.arr_size f n
  have cI : ∀ (r : Nat) w1, Below w.heap.size w w1 → _ := fun r w1 hb => is_any 1 r w1 (hS.below hb (Nat.le_refl _))
  simp only [Wd.bl_is] at cI
  clear hS
  go_enter Tryd.func14, Tryd.ntmps14
  go_wp2_with fail
  obtain ⟨W0, hW0⟩ : ∃ W0, (w.alloc (.cells #[.pointer none, .slice none 0 0] 43)) = W0 := ⟨_, rfl⟩
  have hs0 : W0.heap.size = w.heap.size + 1 := by
    subst hW0
    simp
  have hI0 : Lib.IsBuilderF 43 5 w.heap.size w.heap.size (Lib.byteCells (Rn.cat [])) W0 := by
    subst hW0
    exact Lib.IsBuilderF.of (Lib.fresh_isBuilder 43 5 w)
  have hb0 : Below w.heap.size w W0 := by
    subst hW0
    exact (Below.refl _ _).alloc (Nat.le_refl _) _
  rw [hW0]
  clear hW0
  go_loopw [4] (fun b wr => ∃ (pos : Nat) (pre : List Nat), b = .bool (Wd.sq pre).2 ∧ wr.heap[w.heap.size + 1]? = some (.stringIter (Rn.arr f n) pos) ∧ Hid (pre ++ Wd.R f n pos = Wd.R f n 0) ∧ pre.length ≤ pos ∧ Lib.IsBuilderF 43 5 w.heap.size w.heap.size (Lib.byteCells (Rn.cat (Wd.sq pre).1)) wr ∧ Below w.heap.size w wr)
    (fun _ wr => n - wr.iterPos (w.heap.size + 1))
  case atStart =>
    refine ⟨0, [], rfl, ?_, rfl, Nat.le_refl _, hI0.alloc _, hb0.alloc (by omega) _⟩
    have := World.alloc_heap_new W0 (.stringIter (Rn.arr f n) 0)
    rwa [hs0] at this
  case round =>
    clear hI0 hb0
    obtain ⟨pos, pre, rfl, hit, hpre, hpl, hO, hB⟩ := hrel
    have hwr : w.heap.size + 1 < wr.heap.size := (Array.getElem?_eq_some_iff.1 hit).1
    by_cases hlt : pos < n
    · have hnx : ∀ ty, (Instr.next (.pointer (some ⟨w.heap.size + 1, 0, none⟩)) true ty).run Tryd.prog wr = _ := fun ty => Lib.run_next_any_at wr (w.heap.size + 1) (Rn.arr f n) pos ty hit (by rw [hsz]; exact hlt)
      rw [Rn.arr_decode f n pos hf hlt] at hnx
      obtain ⟨hd1, hd2, hd3⟩ := Rn.dec_pos (Rn.off f pos) (n - pos) (fun _ => hf _) (by omega)
      have hr2 := Rn.dec_lt (Rn.off f pos) (n - pos) (fun _ => hf _) (by omega)
      have hit2 := Lib.iterAt_heap wr (w.heap.size + 1) (Rn.arr f n) pos (pos + (Rn.dec (Rn.off f pos) (n - pos)).2) hit
      have hB2 := Lib.below_iterAt hB (by omega : w.heap.size ≤ w.heap.size + 1) (Rn.arr f n) (pos + (Rn.dec (Rn.off f pos) (n - pos)).2)
      have hO2 := builder_iterAt (s := Rn.arr f n) (p := pos + (Rn.dec (Rn.off f pos) (n - pos)).2) hO hit
      have hp := hpre.out
      rw [Wd.R_step f n pos hf hlt] at hp
      have HP := hide' hp
      have hW2 : w.heap.size + 1 < (wr.iterAt (w.heap.size + 1) (Rn.arr f n) (pos + (Rn.dec (Rn.off f pos) (n - pos)).2)).heap.size := (Array.getElem?_eq_some_iff.1 hit2).1
      clear hpre hp hO hB
      generalize (Rn.dec (Rn.off f pos) (n - pos)).1 = r at *
      generalize (Rn.dec (Rn.off f pos) (n - pos)).2 = d at *
      generalize wr.iterAt (w.heap.size + 1) (Rn.arr f n) (pos + d) = W2 at *
      have hss := Wd.sq_snoc pre r
      have hlen := Wd.sq_length pre
      have hcl := Wd.cat_length (Wd.sq pre).1
      have HPP : Hid (pre ++ [r] ++ Wd.R f n (pos + d) = Wd.R f n 0) := by
        show _ = _
        rw [List.append_assoc]
        exact HP.out
      have c := cI r W2 hB2
      clear cI HP
      cases hbl : Wd.bl r
      · rw [hbl] at c
        cases hgp : (Wd.sq pre).2
        · have hsq : Wd.sq (pre ++ [r]) = ((Wd.sq pre).1 ++ [r], false) := by rw [hss]; unfold Wd.sqs; rw [hbl, hgp]; rfl
          have HSQ := hide' hsq
          clear hss hsq hbl
          rw [hgp] at hlen
          clear hgp
          generalize (Wd.sq pre).1 = out at *
          go_wp2_with fail
          refine c.mono ?_
          rintro e W3 ⟨rfl, b3⟩
          have hO3 := builder_below hO2 b3
          have hit3 := (b3.block _ hW2).trans hit2
          have hB3 := hB2.trans (b3.mono (by omega))
          have hs3 := b3.size
          clear hO2 b3 hB2 c
          go_wp2_with fail
          refine (writeRune_k w.heap.size w.heap.size _ (r : Int) (by omega) (by omega) W3 hO3 (by rw [Lib.byteCells_length]; simp at hlen; omega) (by omega)).mono ?_
          rintro e W4 ⟨rfl, h4, b4, k4⟩
          have hO4 : Lib.IsBuilderF 43 5 w.heap.size w.heap.size (Lib.byteCells (Rn.cat (Wd.sq (pre ++ [r])).1)) W4 := by
            rw [HSQ.out, Wd.cat_snoc]
            exact .inr h4
          have hit4 : W4.heap[w.heap.size + 1]? = some (.stringIter (Rn.arr f n) (pos + d)) := k4 _ _ hit3 (fun e => by have := Option.some.inj e; omega) (fun c fz e => by cases e)
          have hB4 := hB3.trans b4
          clear hO3 h4 b4 k4 hB3
          go_wp2_with fail
          go_roundw
          case rel => exact ⟨pos + d, pre ++ [r], by rw [HSQ.out], hit4, HPP, by simp; omega, hO4, hB4⟩
          case measure => simp only [World.iterPos, hit4, hit]; omega
        · have hsq : Wd.sq (pre ++ [r]) = ((Wd.sq pre).1 ++ [32] ++ [r], false) := by rw [hss]; unfold Wd.sqs; rw [hbl, hgp]; rfl
          have HSQ := hide' hsq
          clear hss hsq hbl
          rw [hgp] at hlen
          clear hgp
          generalize (Wd.sq pre).1 = out at *
          go_wp2_with fail
          refine c.mono ?_
          rintro e W3 ⟨rfl, b3⟩
          have hO3 := builder_below hO2 b3
          have hit3 := (b3.block _ hW2).trans hit2
          have hB3 := hB2.trans (b3.mono (by omega))
          have hs3 := b3.size
          clear hO2 b3 hB2 c
          go_wp2_with fail
          refine (writeByte_k w.heap.size w.heap.size _ 32 W3 hO3 (by rw [Lib.byteCells_length]; simp at hlen; omega) (by omega)).mono ?_
          rintro e W5 ⟨rfl, h5, b5, k5⟩
          have hO5 : Lib.IsBuilderF 43 5 w.heap.size w.heap.size (Lib.byteCells (Rn.cat (out ++ [32]))) W5 := by
            rw [Wd.cat_space]
            exact .inr h5
          have hit5 : W5.heap[w.heap.size + 1]? = some (.stringIter (Rn.arr f n) (pos + d)) := k5 _ _ hit3 (fun e => by have := Option.some.inj e; omega) (fun c fz e => by cases e)
          have hB5 := hB3.trans b5
          have hs5 := b5.size
          have hcl2 := Wd.cat_length (out ++ [32])
          rw [List.length_append] at hcl2
          clear hO3 h5 b5 k5 hB3
          go_wp2_with fail
          refine (writeRune_k w.heap.size w.heap.size _ (r : Int) (by omega) (by omega) W5 hO5 (by rw [Lib.byteCells_length]; simp at hlen hcl2; omega) (by omega)).mono ?_
          rintro e W4 ⟨rfl, h4, b4, k4⟩
          have hO4 : Lib.IsBuilderF 43 5 w.heap.size w.heap.size (Lib.byteCells (Rn.cat (Wd.sq (pre ++ [r])).1)) W4 := by
            rw [HSQ.out, Wd.cat_snoc]
            exact .inr h4
          have hit4 : W4.heap[w.heap.size + 1]? = some (.stringIter (Rn.arr f n) (pos + d)) := k4 _ _ hit5 (fun e => by have := Option.some.inj e; omega) (fun c fz e => by cases e)
          have hB4 := hB5.trans b4
          clear hO5 h4 b4 k4 hB5
          go_wp2_with fail
          go_roundw
          case rel => exact ⟨pos + d, pre ++ [r], by rw [HSQ.out], hit4, HPP, by simp; omega, hO4, hB4⟩
          case measure => simp only [World.iterPos, hit4, hit]; omega
      · rw [hbl] at c
        have hsq : Wd.sq (pre ++ [r]) = ((Wd.sq pre).1, decide ((0 : Int) < ((Rn.cat (Wd.sq pre).1).length : Int))) := by rw [hss, Wd.cat_pos]; unfold Wd.sqs; rw [hbl]; rfl
        have HSQ := hide' hsq
        clear hss hsq hbl
        generalize (Wd.sq pre).2 = gp at *
        generalize (Wd.sq pre).1 = out at *
        go_wp2_with fail
        refine c.mono ?_
        rintro e W3 ⟨rfl, b3⟩
        have hO3 := builder_below hO2 b3
        have hit3 := (b3.block _ hW2).trans hit2
        have hB3 := hB2.trans (b3.mono (by omega))
        clear hO2 b3 hB2 c
        have cL := builderLen_k w.heap.size w.heap.size _ W3 hO3
        rw [Lib.byteCells_length] at cL
        go_wp2_with fail
        refine cL.mono ?_
        rintro e W4 ⟨rfl, rfl⟩
        clear cL
        go_wp2_with fail
        go_roundw
        case rel => exact ⟨pos + d, pre ++ [r], by rw [HSQ.out]; simp, hit3, HPP, by simp; omega, by rw [HSQ.out]; exact hO3, hB3⟩
        case measure => simp only [World.iterPos, hit3, hit]; omega
    · have hnx : ∀ ty, (Instr.next (.pointer (some ⟨w.heap.size + 1, 0, none⟩)) true ty).run Tryd.prog wr = _ := fun ty => Lib.run_next_end_at wr (w.heap.size + 1) (Rn.arr f n) pos ty hit (by rw [hsz]; exact hlt)
      have hp := hpre.out
      rw [Wd.R_end f n pos hlt, List.append_nil] at hp
      have HP := hide' hp
      clear hp hpre cI
      go_wp2_with fail
      refine (Tryd.Builder_String_any_k w.heap.size w.heap.size _ wr hO (by omega)).mono ?_
      rintro e W3 ⟨rfl, _, b3, _⟩
      go_wp2_with fail
      go_ret
      exact ⟨by rw [← HP.out, tx_eq]; rfl, hB.trans b3⟩

set_option maxHeartbeats 1000000 in
theorem blank_any (r : Nat) (w : World) :
    Calls Tryd.prog 41 #[.int .i32 r] w fun e w' => e = .returned (.bool (Wd.bl r)) ∧ w' = w := by
  obtain ⟨b, hb⟩ : ∃ b, b = Wd.bl r := ⟨_, rfl⟩
  rw [← hb]
  have HB : Hid (b = decide (r = 9 ∨ r = 10 ∨ r = 13 ∨ r = 32)) := hb
  clear hb
  by_cases h1 : (r : Int) = 32
  · have e1 : ((r : Int) == 32) = true := by simp [h1]
    have HB2 : Hid (b = true) := by rw [HB.out]; exact decide_eq_true (by omega)
    clear HB h1
    go_enter Tryd.func41, Tryd.ntmps41
    go_wp2
    go_ret
    exact ⟨ret_bool HB2.out.symm, rfl⟩
  · have e1 : ((r : Int) == 32) = false := by simp; omega
    by_cases h2 : (r : Int) = 9
    · have e2 : ((r : Int) == 9) = true := by simp [h2]
      have HB2 : Hid (b = true) := by rw [HB.out]; exact decide_eq_true (by omega)
      clear HB h2 h1
      go_enter Tryd.func41, Tryd.ntmps41
      go_wp2
      go_ret
      exact ⟨ret_bool HB2.out.symm, rfl⟩
    · have e2 : ((r : Int) == 9) = false := by simp; omega
      by_cases h3 : (r : Int) = 10
      · have e3 : ((r : Int) == 10) = true := by simp [h3]
        have HB2 : Hid (b = true) := by rw [HB.out]; exact decide_eq_true (by omega)
        clear HB h3 h2 h1
        go_enter Tryd.func41, Tryd.ntmps41
        go_wp2
        go_ret
        exact ⟨ret_bool HB2.out.symm, rfl⟩
      · have e3 : ((r : Int) == 10) = false := by simp; omega
        have HB2 : Hid (b = ((r : Int) == 13)) := by
          show _ = _
          rw [HB.out, Bool.eq_iff_iff]
          simp
          omega
        clear HB h3 h2 h1
        go_enter Tryd.func41, Tryd.ntmps41
        go_wp2
        go_ret
        exact ⟨ret_bool HB2.out.symm, rfl⟩

theorem owns_slice {w : World} {B : Nat} {e : TypeId} {size : Nat} {v : Value} {n : Nat} {xs : List Value} (h : w.ownsRow B e size v n xs) : ∃ a c, v = .slice a n c := by
  rcases h.2 with ⟨h1, h2⟩ | ⟨g, cap, cur, h1, _⟩
  · exact ⟨none, 0, by rw [h1, h2]⟩
  · exact ⟨_, _, h1⟩
namespace Wd
theorem take_snoc' {L : List Nat} {k : Nat} (h : k < L.length) : L.take (k + 1) = L.take k ++ [lg L k] := by
  rw [List.take_succ_eq_append_getElem h]
  simp [lg, h]
end Wd

set_option maxRecDepth 100000 in
set_option maxHeartbeats 4000000 in
theorem refSqueeze_any (f : Nat → Nat) (n : Nat) (w : World) (hf : ∀ j, f j < 256) (hn : n ≤ 1099511627776) :
    Calls Tryd.prog 15 #[.string (Rn.arr f n)] w fun e w' => e = .returned (.string (Rn.tx (Wd.sq (Wd.R f n 0)).1)) ∧ Below w.heap.size w w' := by
  have cR := refRunes_any f n w hf hn
  have hl := Wd.R_length f n 0 hf
  have hsc := Wd.sq_scal _ (Wd.R_scal f n 0 hf)
  generalize Wd.R f n 0 = P at *
  obtain ⟨i0, hi, hz0, hz1, hz2⟩ := info3 infoRune
  go_enter Tryd.func15, Tryd.ntmps15
  go_wp2_with fail
  refine cR.mono ?_
  rintro e w1 ⟨v, rfl, ⟨pa, cap, rfl, hcc1, hcc2, hrow⟩, hb1⟩
  have hc3 : cap ≤ 9223372036854775807 := by unfold maxLen at hcc2; omega
  clear cR
  go_wp2_with fail
  go_loopw [4, 5] (fun v b wr => ∃ (k : Nat), b = .int .i64 k ∧ k ≤ P.length ∧ wr.ownsRow w1.heap.size 21 1 v (Wd.sq (P.take k)).1.length (rc (Wd.sq (P.take k)).1) ∧ Below w1.heap.size w1 wr) (fun _ b _ => P.length - (intOf b).toNat)
  case atStart => exact ⟨0, rfl, Nat.zero_le _, World.ownsRow_nil _ _ _ _, Below.refl _ _⟩
  case round =>
    obtain ⟨k, rfl, hkm, hown, hB⟩ := hrel
    obtain ⟨ao, co, rfl⟩ := owns_slice hown
    have hbs := hB.size
    have hsl := Wd.sq_length (P.take k)
    have hgp := Wd.sq_gap (P.take k)
    by_cases hlt : k < P.length
    · have hlti : (k : Int) < (P.length : Int) := by omega
      obtain ⟨g, o, rfl, hr⟩ : ∃ g o, pa = some ⟨g, o, none⟩ ∧ Row .i32 w1 g o P.length (Wd.lg P) := by
        rcases hrow with h | h
        · omega
        · exact h
      have ci := (hr.below hB (Nat.le_refl _)) k hlt
      have hss := Wd.sq_snoc (P.take k) (Wd.lg P k)
      rw [← Wd.take_snoc' hlt] at hss
      have hkl : (P.take k).length = k := by rw [List.length_take]; omega
      rw [hkl] at hgp hsl
      have cb := blank_any (Wd.lg P k) wr
      have hout0 : k = 0 → (Wd.sq (P.take k)).1.length = 0 := by
        intro h
        rw [h]
        rfl
      cases hbl : Wd.bl (Wd.lg P k)
      · rw [hbl] at cb
        by_cases hlo : 0 < (Wd.sq (P.take k)).1.length
        · have hloi : (0 : Int) < ((Wd.sq (P.take k)).1.length : Int) := by omega
          have hk0 : 0 < k := by
            rcases Nat.eq_zero_or_pos k with h | h
            · have := hout0 h; omega
            · exact h
          have cp := (hr.below hB (Nat.le_refl _)) (k - 1) (by omega)
          have hlk : Wd.lg (P.take k) (k - 1) = Wd.lg P (k - 1) := by unfold Wd.lg; rw [List.getElem?_take, if_pos (by omega)]
          rw [hlk, decide_eq_true hlo, decide_eq_true hk0, Bool.true_and, Bool.and_true] at hgp
          have cb2 := blank_any (Wd.lg P (k - 1)) wr
          clear hrow hout0 hlk
          cases hb2 : Wd.bl (Wd.lg P (k - 1))
          · rw [hb2] at cb2 hgp
            have HSQ : Hid ((Wd.sq (P.take (k + 1))).1 = (Wd.sq (P.take k)).1 ++ [Wd.lg P k]) := by
              show _ = _
              rw [hss]
              unfold Wd.sqs
              rw [hbl, hgp]
              rfl
            clear hss hgp hbl hb2
            generalize Wd.lg P k = r at *
            generalize Wd.lg P (k - 1) = r0 at *
            generalize (Wd.sq (P.take k)).1 = out at *
            go_wp2_with fail
            refine cb.mono ?_
            rintro e wa ⟨rfl, rfl⟩
            go_wp2_with fail
            refine cb2.mono ?_
            rintro e wb ⟨rfl, rfl⟩
            go_wp2_with (at_builtin; refine wpList_append_own _ rfl _ _ 38 rfl w1.heap.size 21 i0 (.int .i32 0) 1 4 Tryd.underlying38 hi hz0 hz1 hz2 rfl (by decide) _ (out).length (rc (out)) rfl (hown.alloc _) ⟨wb.heap.size, 0, none⟩ 1 1 [.int .i32 (r : Int)] rfl rfl ?qA1 ?qA2 ?qA3 ?qA4 ?qA5 ?_)
            all_goals first
              | exact rc_news _ _
              | exact rc_one _
              | rfl
              | (unfold maxLen; omega)
              | omega
              | (simp; omega)
              | skip
            intro v3 w3 hownP hgrowP _
            have hB3 : Below w1.heap.size w1 w3 := (hB.alloc hbs _).grown hgrowP (by simp; omega) (fun j hj => (hown.lt j hj).1)
            have hown3 : w3.ownsRow w1.heap.size 21 1 v3 (out ++ [r]).length (rc (out ++ [r])) := by rw [rc_snoc, List.length_append]; exact hownP
            clear hownP hgrowP
            go_wp2_with fail
            go_roundw
            case rel => exact ⟨k + 1, by go_num, by omega, by rw [HSQ.out]; exact hown3, hB3⟩
            case measure => simp [intOf]; omega
          · rw [hb2] at cb2 hgp
            have HSQ : Hid ((Wd.sq (P.take (k + 1))).1 = (Wd.sq (P.take k)).1 ++ [32] ++ [Wd.lg P k]) := by
              show _ = _
              rw [hss]
              unfold Wd.sqs
              rw [hbl, hgp]
              rfl
            clear hss hgp hbl hb2
            generalize (Wd.sq (P.take k)).1 = out at *
            generalize Wd.lg P (k - 1) = r0 at *
            go_wp2_with fail
            refine cb.mono ?_
            rintro e wa ⟨rfl, rfl⟩
            go_wp2_with fail
            refine cb2.mono ?_
            rintro e wb ⟨rfl, rfl⟩
            go_wp2_with (at_builtin; refine wpList_append_own _ rfl _ _ 38 rfl w1.heap.size 21 i0 (.int .i32 0) 1 4 Tryd.underlying38 hi hz0 hz1 hz2 rfl (by decide) _ (out).length (rc (out)) rfl (hown.alloc _) ⟨wb.heap.size, 0, none⟩ 1 1 [.int .i32 32] rfl rfl ?qB1 ?qB2 ?qB3 ?qB4 ?qB5 ?_)
            all_goals first
              | exact rc_news _ _
              | exact rc_one _
              | rfl
              | (unfold maxLen; omega)
              | omega
              | (simp; omega)
              | skip
            intro v3 w3 hownP hgrowP _
            have hB3 : Below w1.heap.size w1 w3 := (hB.alloc hbs _).grown hgrowP (by simp; omega) (fun j hj => (hown.lt j hj).1)
            have hown3 : w3.ownsRow w1.heap.size 21 1 v3 (out ++ [32]).length (rc (out ++ [32])) := by rw [rc_snoc, List.length_append]; exact hownP
            clear hownP hgrowP
            have ci3 : w3.cell? ⟨g, o + k, none⟩ = some (.int .i32 (Wd.lg P k)) := (hr.below hB3 (Nat.le_refl _)) k hlt
            clear hr
            generalize Wd.lg P k = r at *
            go_wp2_with (at_builtin; refine wpList_append_own _ rfl _ _ 38 rfl w1.heap.size 21 i0 (.int .i32 0) 1 4 Tryd.underlying38 hi hz0 hz1 hz2 rfl (by decide) _ (out ++ [32]).length (rc (out ++ [32])) rfl (hown3.alloc _) ⟨w3.heap.size, 0, none⟩ 1 1 [.int .i32 (r : Int)] rfl rfl ?qC1 ?qC2 ?qC3 ?qC4 ?qC5 ?_)
            all_goals first
              | exact rc_news _ _
              | exact rc_one _
              | rfl
              | (unfold maxLen; omega)
              | omega
              | (simp only [List.length_append, List.length_singleton]; unfold maxLen; omega)
              | (simp only [List.length_append, List.length_singleton]; omega)
              | (have := hB3.size; omega)
              | (have := hB3.size; simp; omega)
              | skip
            intro v4 w4 hownP hgrowP _
            have hB4 : Below w1.heap.size w1 w4 := (hB3.alloc hB3.size _).grown hgrowP (by have := hB3.size; simp; omega) (fun j hj => (hown3.lt j hj).1)
            have hown4 : w4.ownsRow w1.heap.size 21 1 v4 (out ++ [32] ++ [r]).length (rc (out ++ [32] ++ [r])) := by rw [rc_snoc (out ++ [32]), List.length_append, List.length_append]; exact hownP
            clear hownP hgrowP
            go_wp2_with fail
            go_roundw
            case rel => exact ⟨k + 1, by go_num, by omega, by rw [HSQ.out]; exact hown4, hB4⟩
            case measure => simp [intOf]; omega
        · have hloi : ¬ (0 : Int) < ((Wd.sq (P.take k)).1.length : Int) := by omega
          rw [decide_eq_false hlo, Bool.false_and, Bool.false_and] at hgp
          have HSQ : Hid ((Wd.sq (P.take (k + 1))).1 = (Wd.sq (P.take k)).1 ++ [Wd.lg P k]) := by
            show _ = _
            rw [hss]
            unfold Wd.sqs
            rw [hbl, hgp]
            rfl
          clear hss hgp hbl hr hrow hout0
          generalize Wd.lg P k = r at *
          generalize (Wd.sq (P.take k)).1 = out at *
          go_wp2_with fail
          refine cb.mono ?_
          rintro e wa ⟨rfl, rfl⟩
          go_wp2_with (at_builtin; refine wpList_append_own _ rfl _ _ 38 rfl w1.heap.size 21 i0 (.int .i32 0) 1 4 Tryd.underlying38 hi hz0 hz1 hz2 rfl (by decide) _ (out).length (rc (out)) rfl (hown.alloc _) ⟨wa.heap.size, 0, none⟩ 1 1 [.int .i32 (r : Int)] rfl rfl ?qD1 ?qD2 ?qD3 ?qD4 ?qD5 ?_)
          all_goals first
            | exact rc_news _ _
            | exact rc_one _
            | rfl
            | (unfold maxLen; omega)
            | omega
            | (simp; omega)
            | skip
          intro v3 w3 hownP hgrowP _
          have hB3 : Below w1.heap.size w1 w3 := (hB.alloc hbs _).grown hgrowP (by simp; omega) (fun j hj => (hown.lt j hj).1)
          have hown3 : w3.ownsRow w1.heap.size 21 1 v3 (out ++ [r]).length (rc (out ++ [r])) := by rw [rc_snoc, List.length_append]; exact hownP
          clear hownP hgrowP
          go_wp2_with fail
          go_roundw
          case rel => exact ⟨k + 1, by go_num, by omega, by rw [HSQ.out]; exact hown3, hB3⟩
          case measure => simp [intOf]; omega
      · rw [hbl] at cb
        have HSQ : Hid ((Wd.sq (P.take (k + 1))).1 = (Wd.sq (P.take k)).1) := by
          show _ = _
          rw [hss]
          unfold Wd.sqs
          rw [hbl]
          rfl
        clear hss hgp hbl hr hrow hout0
        generalize Wd.lg P k = r at *
        go_wp2_with fail
        refine cb.mono ?_
        rintro e wa ⟨rfl, rfl⟩
        go_wp2_with fail
        go_roundw
        case rel => exact ⟨k + 1, by go_num, by omega, by rw [HSQ.out]; exact hown, hB⟩
        case measure => simp [intOf]; omega
    · have hlti : ¬ (k : Int) < (P.length : Int) := by omega
      rw [List.take_of_length_le (by omega)] at hown ⊢
      have ct := text_own hsc wr hown
      clear hrow hown hgp
      go_wp2_with fail
      refine ct.mono ?_
      rintro e w3 ⟨rfl, rfl⟩
      go_wp2_with fail
      go_ret
      exact ⟨rfl, hb1.trans (hB.mono hb1.size)⟩
end Go.Proofs.YtfbjkebinbemdaaDoor
