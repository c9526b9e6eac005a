/-
  THE WALK over gimletlaw01.RunesTexts: of any text, number, bytes and rune.
-/
import Derived.Test.YtacmenmneilamaaDoorRnPutAny
import Derived.Test.YtacmenmneilamaaDoorRnSame
import Derived.Test.YtacmenmneilamaaDoorRnLawBytes
import Derived.Laws.OwnMore
namespace Go.Proofs.YtacmenmneilamaaDoor
open Go.RowKit Go.Lib

theorem owns_some {w : World} {B n : Nat} {v : Value} {f : Nat → Nat} (h : w.ownsRow B 5 1 v n (xs f n)) (hn : 0 < n) :
    ∃ g cap, v = .slice (some ⟨g, 0, none⟩) n cap ∧ B ≤ g ∧ g < w.heap.size ∧ n ≤ cap ∧ cap ≤ maxLen ∧ Bytes w g 0 n f := by
  rcases h.2 with ⟨_, h0⟩ | ⟨g, cap, cur, rfl, hg, hgg, h1, h2, _, _⟩
  · omega
  · exact ⟨g, cap, rfl, hg, lt_of_heap hgg, h1, h2, bytes_of_owns h⟩
theorem But.grown {D : Nat} {w w' : World} (h : w.grownBy w' (some D)) : But D w w' := ⟨h.os, h.tape, h.output, h.size, fun k hk hn => h.block k hk (fun e => hn (by cases e; rfl))⟩
theorem Bytes.but {w w' : World} {D b o n : Nat} {f : Nat → Nat} (h : Bytes w b o n f) (hb : But D w w') (hne : b ≠ D) : Bytes w' b o n f :=
  fun j hj => (World.cell?_of_block (a := ⟨b, o + j, none⟩) (hb.block b (block_lt_of_cell (h j hj)) hne)).trans (h j hj)
theorem SlB.but {w w' : World} {D n : Nat} {pa : Option Addr} {f : Nat → Nat} (h : SlB w pa n f) (hb : But D w w') (hne : ∀ b o, pa = some ⟨b, o, none⟩ → b ≠ D) : SlB w' pa n f := by
  rcases h with h | ⟨b, o, e, hlt, hby⟩
  · exact .inl h
  · exact .inr ⟨b, o, e, Nat.lt_of_lt_of_le hlt hb.size, hby.but hb (hne b o e)⟩
/-- the four answers about a text, of the program and of the document -/
structure TextsOf (f : Nat → Nat) (m : Nat) (k : Int) (S1 S2 : ByteArray) (x y : Nat) : Prop where
  mend : ∀ w, Calls Tryd.prog 19 #[.string (Rn.arr f m)] w fun e w' => e = .returned (.string S1) ∧ Below w.heap.size w w'
  refMend : ∀ w, Calls Tryd.prog 20 #[.string (Rn.arr f m)] w fun e w' => e = .returned (.string S1) ∧ Below w.heap.size w w'
  parts : ∀ w, Lib.Utf8Tabs 0 1 w → Calls Tryd.prog 21 #[.string (Rn.arr f m)] w fun e w' => e = .returned (.string S2) ∧ Below w.heap.size w w'
  refParts : ∀ w, Calls Tryd.prog 22 #[.string (Rn.arr f m)] w fun e w' => e = .returned (.string S2) ∧ Below w.heap.size w w'
  byte : ∀ w, Calls Tryd.prog 23 #[.string (Rn.arr f m), .int .i64 k] w fun e w' => e = .returned (.tuple #[.int .i64 x, .int .i64 y]) ∧ Below w.heap.size w w'
  refByte : ∀ w, Calls Tryd.prog 24 #[.string (Rn.arr f m), .int .i64 k] w fun e w' => e = .returned (.tuple #[.int .i64 x, .int .i64 y]) ∧ Below w.heap.size w w'
theorem textsOf (f : Nat → Nat) (m : Nat) (k : Int) (hf : ∀ j, f j < 256) (hm : m ≤ 1099511627776) (hk : k ≤ 9223372036854775807) : ∃ S1 S2 x y, TextsOf f m k S1 S2 x y := by
  have h1 : ∀ w, Calls Tryd.prog 19 #[.string (Rn.arr f m)] w fun e w' => e = .returned (.string ⟨(Rn.cat (Rn.rl (Rn.chs f m hf))).toArray⟩) ∧ Below w.heap.size w w' := fun w => by
    refine (mend_any f m w hf (by omega)).mono ?_
    rintro e w' ⟨rfl, hb, -⟩
    rw [Rn.md_cat]
    exact ⟨rfl, hb⟩
  have h2 : ∀ w, Lib.Utf8Tabs 0 1 w → Calls Tryd.prog 21 #[.string (Rn.arr f m)] w fun e w' => e = .returned (.string ⟨(Rn.mpl f m m 0).toArray⟩) ∧ Below w.heap.size w w' := fun w hT => by
    rw [Rn.mp_eq f m hf]
    exact mendParts_any f m w hf hT (by omega)
  by_cases h0 : k < 0
  · exact ⟨_, _, 0, 2, h1, fun w => refMend_any f m w hf hm, h2, fun w => refMendParts_any f m w hf hm, fun w => byte_neg f m k w h0, fun w => refByte_any f m k w hf hm 0 2 (.inl ⟨h0, rfl, rfl⟩)⟩
  · obtain ⟨q, rfl⟩ : ∃ q : Nat, k = q := ⟨k.toNat, by omega⟩
    exact ⟨_, _, _, _, h1, fun w => refMend_any f m w hf hm, h2, fun w => refMendParts_any f m w hf hm, fun w => byte_pos f m q w hf (by omega), fun w => refByte_any f m q w hf hm _ _ (.inr ⟨q, rfl, rfl⟩)⟩

set_option maxRecDepth 100000 in
set_option maxHeartbeats 4000000 in
theorem lawTexts_any (t : Nat → Nat) (m : Nat) (k : Int) (f : Nat → Nat) (pb : Option Addr) (n capb : Nat) (r : Int) (w : World) (hT : Lib.Utf8Tabs 0 1 w) (ht : ∀ j, t j < 256) (hm : m ≤ 1099511627776) (hk : k ≤ 9223372036854775807)
    (hn : n ≤ 1099511627776) (hA : ArgB w f n (.slice pb n capb)) (hr0 : -2147483648 ≤ r) (hr1 : r ≤ 2147483647) :
    Calls Tryd.prog 4 #[.string (Rn.arr t m), .int .i64 k, .slice pb n capb, .int .i32 r] w fun e w' => e = .returned (.bool true) ∧ Below w.heap.size w w' := by
  have cA := awake_any w hT
  obtain ⟨i0, hi, hz0, hz1, hz2⟩ := info_parts infoByte'
  obtain ⟨S1, S2, x, y, c1, c2, c3, c4, c5, c6⟩ := textsOf t m k ht hm hk
  have hTb : ∀ {w'}, Below w.heap.size w w' → Lib.Utf8Tabs 0 1 w' := fun h => tabs_below hT h (Nat.le_refl _)
  generalize Rn.arr t m = s at *
  go_enter Tryd.func4, Tryd.ntmps4
  go_wp2_with fail
  refine cA.mono ?_
  rintro e w1 ⟨rfl, hB1⟩
  clear cA
  go_wp2_with fail
  refine (c1 w1).mono ?_
  rintro e w2 ⟨rfl, hb⟩
  have hB2 := hB1.trans (hb.mono hB1.size)
  clear hb c1
  go_wp2_with fail
  refine (c2 w2).mono ?_
  rintro e w3 ⟨rfl, hb⟩
  have hB3 := hB2.trans (hb.mono hB2.size)
  clear hb c2
  go_wp2_with fail
  refine (c3 w3 (hTb hB3)).mono ?_
  rintro e w4 ⟨rfl, hb⟩
  have hB4 := hB3.trans (hb.mono hB3.size)
  clear hb c3
  go_wp2_with fail
  refine (c4 w4).mono ?_
  rintro e w5 ⟨rfl, hb⟩
  have hB5 := hB4.trans (hb.mono hB4.size)
  clear hb c4
  go_wp2_with fail
  refine (c5 w5).mono ?_
  rintro e w6 ⟨rfl, hb⟩
  have hB6 := hB5.trans (hb.mono hB5.size)
  clear hb c5
  go_wp2_with fail
  refine (c6 w6).mono ?_
  rintro e w7 ⟨rfl, hb⟩
  have hB7 := hB6.trans (hb.mono hB6.size)
  clear hb c6
  have n1 : ((x : Int) != x) = false := by simp
  have n2 : ((y : Int) != y) = false := by simp
  go_wp2_with fail
  refine (laid_any f n _ w7 (by omega) (hA.below hB7 (Nat.le_refl _))).mono ?_
  rintro e w8 ⟨g, cap, rfl, hc1, hc2, hby, hg, hb⟩
  have hB8 := hB7.trans (hb.mono hB7.size)
  have hgl : g < w8.heap.size := by have := block_lt_of_cell (hby 0 (by omega)); exact this
  clear hb n1 n2
  go_wp2_with fail
  refine (put_any f n g cap r w8 hr0 hr1 hn (mk_bytes hby)).mono ?_
  rintro e w9 ⟨vx, rfl, hox, hb9⟩
  have hel := Rn.el_pos r
  obtain ⟨gx, capx, rfl, hgx1, hgx2, hx1, hx2, hbx⟩ := owns_some hox (by omega)
  have hB9 := hB8.trans (hb9.mono hB8.size)
  have hby9 := hby.below hb9 (Nat.le_refl _)
  clear hby
  go_wp2_with fail
  refine (put_any f n g cap r w9 hr0 hr1 hn (mk_bytes hby9)).mono ?_
  rintro e w10 ⟨vy, rfl, hoy, hb10⟩
  obtain ⟨gy, capy, rfl, hgy1, hgy2, hy1, hy2, hbyy⟩ := owns_some hoy (by omega)
  have hB10 := hB9.trans (hb10.mono hB9.size)
  have hby10 := hby9.below hb10 (Nat.le_refl _)
  have hbx10 := hbx.below hb10 (Nat.le_refl _)
  have hox10 := owns_below hox hb10
  clear hby9 hbx hox hoy
  go_wp2_with fail
  refine (refPut_any f n _ r w10 hn (hA.below hB10 (Nat.le_refl _))).mono ?_
  rintro e w11 ⟨vw, rfl, how, hb11⟩
  obtain ⟨gw, capw, rfl, hgw1, hgw2, hw1, hw2, hbw⟩ := owns_some how (by omega)
  have hB11 := hB10.trans (hb11.mono hB10.size)
  have hby11 := hby10.below hb11 (Nat.le_refl _)
  have hbx11 := hbx10.below hb11 (Nat.le_refl _)
  have hbyy11 := hbyy.below hb11 (Nat.le_refl _)
  have hox11 := owns_below hox10 hb11
  have hz9 := hb9.size
  have hz10 := hb10.size
  have hz11 := hb11.size
  have hzw := hB8.size
  clear hby10 hbx10 hbyy hox10 how hb9 hb10 hb11
  generalize hNN : n + Rn.el r = N at *
  have hN9 : N ≤ 9223372036854775807 := by omega
  have hNb : N ≤ 2199023255552 := by omega
  have hsl := (argB_slb hA).below hB11 (Nat.le_refl _)
  go_wp2_with fail
  refine (same_true _ _ N capx capw (pt f n r) w11 hN9 (slb_bytes hbx11) (slb_bytes hbw)).mono ?_
  rintro e w12 ⟨rfl, hb12⟩
  have hB12 := hB11.trans (hb12.mono hB11.size)
  have hby12 := hby11.below hb12 (Nat.le_refl _)
  have hbyy12 := hbyy11.below hb12 (Nat.le_refl _)
  have hbw12 := hbw.below hb12 (Nat.le_refl _)
  have hox12 := owns_below hox11 hb12
  have hsl12 := hsl.below hb12 (Nat.le_refl _)
  have hz12 := hb12.size
  clear hby11 hbyy11 hbw hox11 hsl hb12 hbx11
  go_wp2_with fail
  refine (same_true _ _ N capy capw (pt f n r) w12 hN9 (slb_bytes hbyy12) (slb_bytes hbw12)).mono ?_
  rintro e w13 ⟨rfl, hb13⟩
  have hB13 := hB12.trans (hb13.mono hB12.size)
  have hby13 := hby12.below hb13 (Nat.le_refl _)
  have hbyy13 := hbyy12.below hb13 (Nat.le_refl _)
  have hbw13 := hbw12.below hb13 (Nat.le_refl _)
  have hox13 := owns_below hox12 hb13
  have hsl13 := hsl12.below hb13 (Nat.le_refl _)
  have hz13 := hb13.size
  clear hby12 hbyy12 hbw12 hox12 hsl12 hb13
  go_wp2_with fail
  refine (kept_true g cap pb n capb f w13 hc1 hc2 hby13 hsl13).mono ?_
  rintro e w14 ⟨rfl, hb14⟩
  have hB14 := hB13.trans (hb14.mono hB13.size)
  have hby14 := hby13.below hb14 (Nat.le_refl _)
  have hbyy14 := hbyy13.below hb14 (Nat.le_refl _)
  have hbw14 := hbw13.below hb14 (Nat.le_refl _)
  have hox14 := owns_below hox13 hb14
  have hsl14 := hsl13.below hb14 (Nat.le_refl _)
  have hz14 := hb14.size
  clear hby13 hbyy13 hbw13 hox13 hsl13 hb14
  have hslne : ∀ b o, pb = some ⟨b, o, none⟩ → n = 0 ∨ b ≠ gx := fun b o e => by
    by_cases h0 : n = 0
    · exact .inl h0
    · refine .inr ?_
      rcases argB_slb hA with h | ⟨b', o', e', hlt, _⟩
      · exact absurd h h0
      · rw [e] at e'
        cases e'
        omega
  go_wp2_with fail
  go_loopw [17] (fun i wr => ∃ (j : Nat) (zs : List Value), i = .int .i64 j ∧ j ≤ N ∧ wr.ownsRow w8.heap.size 5 1 (.slice (some ⟨gx, 0, none⟩) N capx) N zs ∧ But gx w14 wr) (fun i _ => N - (RowKit.intOf i).toNat)
  case atStart => exact ⟨0, _, rfl, Nat.zero_le _, hox14, But.of_below (Below.refl _ _)⟩
  case round =>
    obtain ⟨j, zs, rfl, hj, hox, hBu⟩ := hrel
    by_cases hlt : j < N
    · have gb : (j : Int) < N := by omega
      have hc := hox.cellAt j (by omega)
      have hzl : zs.length = N := by have := hox.1; omega
      rw [List.getElem?_eq_getElem (by omega)] at hc
      have hfz := hox.frozenAt j
      obtain ⟨hst, _⟩ := hox.stored j (.int .u8 1)
      have hBu2 := hBu.setCell (p := ⟨gx, j, none⟩) rfl (.int .u8 1)
      clear hox
      generalize zs[j] = u at *
      go_wp2
      go_roundw
      case rel => exact ⟨j + 1, _, by go_num, by omega, hst, hBu2⟩
      case measure => simp [RowKit.intOf]; omega
    · have gb : ¬ (j : Int) < N := by omega
      obtain rfl : j = N := by omega
      have hzb := hBu.size
      have hz8 : w8.heap.size ≤ wr.heap.size := by omega
      go_wp2_with (at_builtin; refine wpList_append_own _ rfl _ _ 22 rfl w8.heap.size 5 i0 (.int .u8 0) 1 1 Tryd.underlying22 hi hz0 hz1 hz2 rfl (by decide) _ j zs rfl (hox.alloc _) ⟨wr.heap.size, 0, none⟩ 4 4 [.int .u8 1, .int .u8 1, .int .u8 1, .int .u8 1] rfl rfl ?c1 ?c2 ?c3 ?c4 ?c5 ?_)
      case c2 => rfl
      case c3 => unfold maxLen; omega
      case c4 => omega
      case c5 => omega
      intro v2 w16 hown2 hgrow _
      have hBu16 : But gx w14 w16 := (hBu.trans (But.of_below (below_alloc1 wr _))).trans (But.grown hgrow)
      obtain ⟨a2, cap2, rfl⟩ : ∃ a2 cap2, v2 = .slice a2 (j + 4) cap2 := by
        rcases hown2.2 with ⟨_, h0⟩ | ⟨g, cap, cur, hv, _⟩
        · omega
        · exact ⟨_, _, hv⟩
      have hby16 := hby14.but hBu16 (by omega)
      have hbyy16 := hbyy14.but hBu16 (by omega)
      have hbw16 := hbw14.but hBu16 (by omega)
      have hsl16 : SlB w16 pb n f := by
        rcases hsl14 with h | ⟨b, o, e, hlt, hb⟩
        · exact .inl h
        · rcases hslne b o e with h | h
          · exact .inl h
          · exact .inr ⟨b, o, e, Nat.lt_of_lt_of_le hlt hBu16.size, hb.but hBu16 h⟩
      have hB16 : Below w.heap.size w w16 := hB14.trans (hBu16.below (by omega) hB14.size)
      clear hox hown2 hgrow hslne hsl14 hby14 hbyy14 hbw14 hox14 hBu hBu16
      go_wp2_with fail
      refine (same_true _ _ j capy capw (pt f n r) w16 hN9 (slb_bytes hbyy16) (slb_bytes hbw16)).mono ?_
      rintro e w17 ⟨rfl, hb17⟩
      have hB17 := hB16.trans (hb17.mono hB16.size)
      go_wp2_with fail
      refine (kept_true g cap pb n capb f w17 hc1 hc2 (hby16.below hb17 (Nat.le_refl _)) (hsl16.below hb17 (Nat.le_refl _))).mono ?_
      rintro e w18 ⟨rfl, hb18⟩
      have hq : ((j : Int) + 4 == (j : Int) + 4) = true := by simp
      go_wp2
      go_ret
      exact ⟨rfl, hB17.trans (hb18.mono hB17.size)⟩
end Go.Proofs.YtacmenmneilamaaDoor
