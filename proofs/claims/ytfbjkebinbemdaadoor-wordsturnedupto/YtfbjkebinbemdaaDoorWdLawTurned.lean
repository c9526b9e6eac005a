/-
  WALKS over words.Translate, the document's Translate, and gimletlaw03.WordsTurned.
-/
import Derived.Test.YtfbjkebinbemdaaDoorWdTrans
import Derived.Test.YtfbjkebinbemdaaDoorWdAwake
namespace Go.Proofs.YtfbjkebinbemdaaDoor
open Go.RowKit

theorem ownsMap_below {w w' : World} {b n : Nat} {D : DataW Unit} {k : TypeId} {R : Value → Option (DataW Unit × List MemPlace)} (h : w.ownsMap Tryd.prog k R b n D) {B : Nat} (hb : Below B w w') (hB : b < B) : w'.ownsMap Tryd.prog k R b n D := by
  obtain ⟨es, ck, h1, h2⟩ := h
  exact ⟨es, ck, (hb.block b hB).trans h1, h2⟩

namespace Wd
theorem ix_none : ∀ (L : List Nat) (r : Nat), (∀ j, j < L.length → lg L j ≠ r) → ix L r = none
  | [], _, _ => rfl
  | a :: L, r, h => by
    unfold ix
    have h0 := h 0 (by simp)
    rw [if_neg (show ¬ a = r from fun e => h0 e), ix_none L r (fun j hj => h (j + 1) (by simp; omega))]
    rfl
theorem ix_some : ∀ (L : List Nat) (r i : Nat), i < L.length → lg L i = r → (∀ j, j < i → lg L j ≠ r) → ix L r = some i
  | [], _, _, h, _, _ => by simp at h
  | a :: L, r, 0, _, h, _ => by
    unfold ix
    rw [if_pos (show a = r from h)]
  | a :: L, r, i + 1, h1, h2, h3 => by
    unfold ix
    have h0 := h3 0 (by omega)
    rw [if_neg (show ¬ a = r from fun e => h0 e), ix_some L r i (by simp at h1; omega) h2 (fun j hj => h3 (j + 1) (by omega))]
    rfl
theorem tr1_none {F T : List Nat} {r : Nat} (h : ix F r = none) : tr1 F T r = [r] := by unfold tr1; rw [h]
theorem tr1_some {F T : List Nat} {r i : Nat} (h : ix F r = some i) (hi : i < T.length) : tr1 F T r = [lg T i] := by unfold tr1; rw [h]; simp [hi]
theorem tr1_gone {F T : List Nat} {r i : Nat} (h : ix F r = some i) (hi : ¬ i < T.length) : tr1 F T r = [] := by unfold tr1; rw [h]; simp [hi]
end Wd

set_option maxRecDepth 100000 in
set_option maxHeartbeats 4000000 in
theorem translate_any (f : Nat → Nat) (n : Nat) (g : Nat → Nat) (gn : Nat) (h : Nat → Nat) (hn' : Nat) (w : World) (hf : ∀ j, f j < 256) (hg : ∀ j, g j < 256) (hh : ∀ j, h j < 256) (hn : n ≤ 1099511627776) (hgn : gn ≤ 1099511627776) (hhn : hn' ≤ 1099511627776) :
    Calls Tryd.prog 28 #[.string (Rn.arr f n), .string (Rn.arr g gn), .string (Rn.arr h hn')] w fun e w' => e = .returned (.string (Rn.tx (Wd.tr (Wd.R g gn 0) (Wd.R h hn' 0) (Wd.R f n 0)))) ∧ Below w.heap.size w w' := by
  have hsz := Rn.arr_size f n
  have c1 := firstPlaces_any g gn w hg hgn
  have c2 := fun w1 => runes_any h hn' w1 hh (by omega)
  simp only [Wd.R_rl] at c2
  have hTl := Wd.R_length h hn' 0 hh
  have hTs := Wd.R_scal h hn' 0 hh
  generalize Wd.R g gn 0 = F at *
  generalize Wd.R h hn' 0 = T at *
  go_enter Tryd.func28, Tryd.ntmps28
  go_wp2_with fail
  refine c1.mono ?_
  rintro e w1 ⟨rfl, ⟨D, hM1, hPM⟩, hb1⟩
  go_wp2_with fail
  refine (c2 w1).mono ?_
  rintro e w2 ⟨cap, rfl, hc1, hc2, hlie, hb2, hs2, _⟩
  have hc3 : cap ≤ 9223372036854775807 := by unfold maxLen at hc2; omega
  have hM := ownsMap_below hM1 hb2 hM1.lt
  have hrow := hlie.row
  have hBw2 := hb1.trans (hb2.mono hb1.size)
  have hbm : w.heap.size < w2.heap.size := hM.lt
  clear c1 c2 hM1 hlie hb2 hs2
  obtain ⟨lb, hlb⟩ : ∃ lb, lb = w1.heap.size := ⟨_, rfl⟩
  rw [← hlb] at hrow ⊢
  clear hlb
  go_wp2_with fail
  obtain ⟨W0, hW0⟩ : ∃ W0, (w2.alloc (.cells #[.pointer none, .slice none 0 0] 43)) = W0 := ⟨_, rfl⟩
  have hs0 : W0.heap.size = w2.heap.size + 1 := by
    subst hW0
    simp
  have hI0 : Lib.IsBuilderF 43 5 w2.heap.size w2.heap.size (Lib.byteCells (Rn.cat (Wd.tr F T []))) W0 := by
    subst hW0
    exact Lib.IsBuilderF.of (Lib.fresh_isBuilder 43 5 w2)
  have hb0 : Below w2.heap.size w2 W0 := by
    subst hW0
    exact (Below.refl _ _).alloc (Nat.le_refl _) _
  rw [hW0]
  clear hW0
  go_loopw [] (fun wr => ∃ (pos : Nat) (pre : List Nat), wr.heap[w2.heap.size + 1]? = some (.stringIter (Rn.arr f n) pos) ∧ Hid (pre ++ Wd.R f n pos = Wd.R f n 0) ∧ pre.length ≤ pos ∧ Lib.IsBuilderF 43 5 w2.heap.size w2.heap.size (Lib.byteCells (Rn.cat (Wd.tr F T pre))) wr ∧ Below w2.heap.size w2 wr)
    (fun wr => n - wr.iterPos (w2.heap.size + 1))
  case atStart =>
    refine ⟨0, [], ?_, rfl, Nat.le_refl _, hI0.alloc _, hb0.alloc (by omega) _⟩
    have := World.alloc_heap_new W0 (.stringIter (Rn.arr f n) 0)
    rwa [hs0] at this
  case round =>
    clear hI0 hb0
    obtain ⟨pos, pre, hit, hpre, hpl, hO, hB⟩ := hrel
    have hlen := Wd.cat_length (Wd.tr F T pre)
    have hlen2 := Wd.tr_length F T pre
    have hwr : w2.heap.size + 1 < wr.heap.size := (Array.getElem?_eq_some_iff.1 hit).1
    by_cases hlt : pos < n
    · have hnx : ∀ ty, (Instr.next (.pointer (some ⟨w2.heap.size + 1, 0, none⟩)) true ty).run Tryd.prog wr = _ := fun ty => Lib.run_next_any_at wr (w2.heap.size + 1) (Rn.arr f n) pos ty hit (by rw [hsz]; exact hlt)
      rw [Rn.arr_decode f n pos hf hlt] at hnx
      obtain ⟨hd1, hd2, hd3⟩ := Rn.dec_pos (Rn.off f pos) (n - pos) (fun _ => hf _) (by omega)
      have hr2 := Rn.dec_lt (Rn.off f pos) (n - pos) (fun _ => hf _) (by omega)
      have hit2 := Lib.iterAt_heap wr (w2.heap.size + 1) (Rn.arr f n) pos (pos + (Rn.dec (Rn.off f pos) (n - pos)).2) hit
      have hB2 := Lib.below_iterAt hB (by omega : w2.heap.size ≤ w2.heap.size + 1) (Rn.arr f n) (pos + (Rn.dec (Rn.off f pos) (n - pos)).2)
      have hO2 := builder_iterAt (s := Rn.arr f n) (p := pos + (Rn.dec (Rn.off f pos) (n - pos)).2) hO hit
      have hp := hpre.out
      rw [Wd.R_step f n pos hf hlt] at hp
      have HP := hide' hp
      have hW2 : w2.heap.size + 1 < (wr.iterAt (w2.heap.size + 1) (Rn.arr f n) (pos + (Rn.dec (Rn.off f pos) (n - pos)).2)).heap.size := (Array.getElem?_eq_some_iff.1 hit2).1
      clear hpre hp hO hB
      generalize (Rn.dec (Rn.off f pos) (n - pos)).1 = r at *
      generalize (Rn.dec (Rn.off f pos) (n - pos)).2 = d at *
      generalize wr.iterAt (w2.heap.size + 1) (Rn.arr f n) (pos + d) = W2 at *
      have hM2 := ownsMap_below hM hB2 hbm
      have hts := Wd.tr_snoc F T pre r
      have HPP : Hid (pre ++ [r] ++ Wd.R f n (pos + d) = Wd.R f n 0) := by
        show _ = _
        rw [List.append_assoc]
        exact HP.out
      have hhas := hPM.has r
      clear HP
      cases hx : Wd.ix F r with
      | none =>
        rw [Wd.tr1_none hx] at hts
        have HT := hide' hts
        rw [hx] at hhas
        simp only [Option.isSome_none] at hhas
        clear hx hts hPM
        go_wp2_with (at_lookup; refine wpList_lookup_own_ok_int _ rfl _ _ 68 rfl 21 3 .i64 runeKeyed Tryd.underlying68 Tryd.underlying3 (zeroInt _) w.heap.size gn D rfl hM2 _ (.int .i32 (r : Int)) rfl (runeKey r hr2) ?_; rw [hhas])
        intro c _ _
        go_wp2_with fail
        refine (writeRune_k w2.heap.size w2.heap.size _ (r : Int) (by omega) (by omega) W2 hO2 (by rw [Lib.byteCells_length]; omega) (by omega)).mono ?_
        rintro e W3 ⟨rfl, h3, b3, k3⟩
        have hO3 : Lib.IsBuilderF 43 5 w2.heap.size w2.heap.size (Lib.byteCells (Rn.cat (Wd.tr F T (pre ++ [r])))) W3 := by
          rw [HT.out, Wd.cat_snoc]
          exact .inr h3
        have hit3 : W3.heap[w2.heap.size + 1]? = some (.stringIter (Rn.arr f n) (pos + d)) := k3 _ _ hit2 (fun e => by have := Option.some.inj e; omega) (fun c fz e => by cases e)
        have hB3 := hB2.trans b3
        clear hO2 h3 b3 k3 hB2
        go_wp2_with fail
        go_roundw
        case rel => exact ⟨pos + d, pre ++ [r], hit3, HPP, by simp; omega, hO3, hB3⟩
        case measure => simp only [World.iterPos, hit3, hit]; omega
      | some i =>
        have hat' := hide' (hPM.at_ r i hx)
        rw [hx] at hhas
        simp only [Option.isSome_some] at hhas
        by_cases hiT : i < T.length
        · rw [Wd.tr1_some hx hiT] at hts
          have HT := hide' hts
          have ci := (hrow.below hB2 (Nat.le_refl _)) i hiT
          rw [Nat.zero_add] at ci
          have hiTi : (i : Int) < (T.length : Int) := by omega
          have hv2 : Wd.lg T i < 2097152 := by
            have := (hTs (Wd.lg T i) (by simp [Wd.lg, hiT])).1
            omega
          clear hx hts hPM
          generalize Wd.lg T i = x at *
          go_wp2_with (at_lookup; refine wpList_lookup_own_ok_int _ rfl _ _ 68 rfl 21 3 .i64 runeKeyed Tryd.underlying68 Tryd.underlying3 (zeroInt _) w.heap.size gn D rfl hM2 _ (.int .i32 (r : Int)) rfl (runeKey r hr2) ?_; rw [hhas])
          intro c hat _
          obtain rfl : c = (i : Int) := by
            have h := hat.symm.trans hat'.out
            injection h with h
            injection h
          clear hat hat'
          go_wp2_with fail
          refine (writeRune_k w2.heap.size w2.heap.size _ (x : Int) (by omega) (by omega) W2 hO2 (by rw [Lib.byteCells_length]; omega) (by omega)).mono ?_
          rintro e W3 ⟨rfl, h3, b3, k3⟩
          have hO3 : Lib.IsBuilderF 43 5 w2.heap.size w2.heap.size (Lib.byteCells (Rn.cat (Wd.tr F T (pre ++ [r])))) W3 := by
            rw [HT.out, Wd.cat_snoc]
            exact .inr h3
          have hit3 : W3.heap[w2.heap.size + 1]? = some (.stringIter (Rn.arr f n) (pos + d)) := k3 _ _ hit2 (fun e => by have := Option.some.inj e; omega) (fun c fz e => by cases e)
          have hB3 := hB2.trans b3
          clear hO2 h3 b3 k3 hB2
          go_wp2_with fail
          go_roundw
          case rel => exact ⟨pos + d, pre ++ [r], hit3, HPP, by simp; omega, hO3, hB3⟩
          case measure => simp only [World.iterPos, hit3, hit]; omega
        · rw [Wd.tr1_gone hx hiT, List.append_nil] at hts
          have HT := hide' hts
          have hiTi : ¬ (i : Int) < (T.length : Int) := by omega
          clear hx hts hPM
          go_wp2_with (at_lookup; refine wpList_lookup_own_ok_int _ rfl _ _ 68 rfl 21 3 .i64 runeKeyed Tryd.underlying68 Tryd.underlying3 (zeroInt _) w.heap.size gn D rfl hM2 _ (.int .i32 (r : Int)) rfl (runeKey r hr2) ?_; rw [hhas])
          intro c hat _
          obtain rfl : c = (i : Int) := by
            have h := hat.symm.trans hat'.out
            injection h with h
            injection h
          clear hat hat'
          go_wp2_with fail
          go_roundw
          case rel => exact ⟨pos + d, pre ++ [r], hit2, HPP, by simp; omega, by rw [HT.out]; exact hO2, hB2⟩
          case measure => simp only [World.iterPos, hit2, hit]; omega
    · have hnx : ∀ ty, (Instr.next (.pointer (some ⟨w2.heap.size + 1, 0, none⟩)) true ty).run Tryd.prog wr = _ := fun ty => Lib.run_next_end_at wr (w2.heap.size + 1) (Rn.arr f n) pos ty hit (by rw [hsz]; exact hlt)
      have hp := hpre.out
      rw [Wd.R_end f n pos hlt, List.append_nil] at hp
      have HP := hide' hp
      clear hp hpre hM hPM hrow
      go_wp2_with fail
      refine (Tryd.Builder_String_any_k w2.heap.size w2.heap.size _ wr hO (by omega)).mono ?_
      rintro e W3 ⟨rfl, _, b3, _⟩
      go_wp2_with fail
      go_ret
      exact ⟨by rw [← HP.out, tx_eq]; rfl, hBw2.trans ((hB.trans b3).mono hBw2.size)⟩

set_option maxRecDepth 100000 in
set_option maxHeartbeats 4000000 in
theorem refTranslate_any (f : Nat → Nat) (n : Nat) (g : Nat → Nat) (gn : Nat) (h : Nat → Nat) (hn' : Nat) (w : World) (hf : ∀ j, f j < 256) (hg : ∀ j, g j < 256) (hh : ∀ j, h j < 256) (hn : n ≤ 1099511627776) (hgn : gn ≤ 1099511627776) (hhn : hn' ≤ 1099511627776) :
    Calls Tryd.prog 29 #[.string (Rn.arr f n), .string (Rn.arr g gn), .string (Rn.arr h hn')] w fun e w' => e = .returned (.string (Rn.tx (Wd.tr (Wd.R g gn 0) (Wd.R h hn' 0) (Wd.R f n 0)))) ∧ Below w.heap.size w w' := by
  have hsz := Rn.arr_size f n
  have c1 := refRunes_any g gn w hg hgn
  have c2 := fun w1 => refRunes_any h hn' w1 hh hhn
  have hFl := Wd.R_length g gn 0 hg
  have hTl := Wd.R_length h hn' 0 hh
  have hsc := Wd.tr_scal (Wd.R g gn 0) (Wd.R h hn' 0) (Wd.R f n 0) (Wd.R_scal h hn' 0 hh) (Wd.R_scal f n 0 hf)
  obtain ⟨i0, hi, hz0, hz1, hz2⟩ := info3 infoRune
  generalize Wd.R g gn 0 = F at *
  generalize Wd.R h hn' 0 = T at *
  go_enter Tryd.func29, Tryd.ntmps29
  go_wp2_with fail
  refine c1.mono ?_
  rintro e w1 ⟨v1, rfl, hr1, hb1⟩
  go_wp2_with fail
  refine (c2 w1).mono ?_
  rintro e w2 ⟨v2, rfl, hr2, hb2⟩
  have hr1' := hr1.below hb2 (Nat.le_refl _)
  have hBw2 := hb1.trans (hb2.mono hb1.size)
  obtain ⟨p1, k1, rfl, a1, a2, a3⟩ := hr1'
  obtain ⟨p2, k2, rfl, b1, b2, b3⟩ := hr2
  have a4 : k1 ≤ 9223372036854775807 := by unfold maxLen at a2; omega
  have b4 : k2 ≤ 9223372036854775807 := by unfold maxLen at b2; omega
  clear hr1 c1 c2
  go_wp2_with fail
  go_loopw [9] (fun a wr => ∃ (pos : Nat) (pre : List Nat), wr.heap[w2.heap.size]? = some (.stringIter (Rn.arr f n) pos) ∧ wr.ownsRow (w2.heap.size + 1) 21 1 a (Wd.tr F T pre).length (rc (Wd.tr F T pre)) ∧ Hid (pre ++ Wd.R f n pos = Wd.R f n 0) ∧ pre.length ≤ pos ∧ Below w2.heap.size w2 wr)
    (fun _ wr => n - wr.iterPos w2.heap.size)
  case atStart => exact ⟨0, [], World.iter_heap w2 _ 0, World.ownsRow_nil _ _ _ _, rfl, Nat.le_refl _, (Below.refl _ _).alloc (Nat.le_refl _) _⟩
  case round =>
    obtain ⟨pos, pre, hit, hown, hpre, hpl, hB⟩ := hrel
    obtain ⟨ao, co, rfl⟩ := owns_slice hown
    have hul := Wd.tr_length F T pre
    by_cases hlt : pos < n
    · have hnx : ∀ ty, (Instr.next (.pointer (some ⟨w2.heap.size, 0, none⟩)) true ty).run Tryd.prog wr = _ := fun ty => Lib.run_next_any_at wr w2.heap.size (Rn.arr f n) pos ty hit (by rw [hsz]; exact hlt)
      rw [Rn.arr_decode f n pos hf hlt] at hnx
      have hp := hpre.out
      rw [Wd.R_step f n pos hf hlt] at hp
      have HP := hide' hp
      clear hpre hp
      obtain ⟨hd1, hd2, hd3⟩ := Rn.dec_pos (Rn.off f pos) (n - pos) (fun _ => hf _) (by omega)
      have hit2 := Lib.iterAt_heap wr w2.heap.size (Rn.arr f n) pos (pos + (Rn.dec (Rn.off f pos) (n - pos)).2) hit
      have hB2 := Lib.below_iterAt hB (Nat.le_refl _) (Rn.arr f n) (pos + (Rn.dec (Rn.off f pos) (n - pos)).2)
      generalize (Rn.dec (Rn.off f pos) (n - pos)).1 = r at *
      generalize (Rn.dec (Rn.off f pos) (n - pos)).2 = d at *
      have hown2 := ownsRow_iterAt hown (Nat.lt_succ_self _) (Rn.arr f n) (pos + d)
      have hlw : w2.heap.size < (wr.iterAt w2.heap.size (Rn.arr f n) (pos + d)).heap.size := (Array.getElem?_eq_some_iff.1 hit2).1
      have hIt0 := hide' hit
      have hps : wr.iterPos w2.heap.size = pos := by simp only [World.iterPos, hit]
      have HPS := hide' hps
      clear hps hown hB
      generalize wr.iterAt w2.heap.size (Rn.arr f n) (pos + d) = W2 at *
      obtain ⟨wq, hwq⟩ : ∃ wq, wq = wr := ⟨_, rfl⟩
      have HPP : Hid (pre ++ [r] ++ Wd.R f n (pos + d) = Wd.R f n 0) := by
        show _ = _
        rw [List.append_assoc]
        exact HP.out
      have hts := hide' (Wd.tr_snoc F T pre r)
      clear HP
      rw [← hwq] at HPS hIt0 hit hnx ⊢
      clear hwq wr
      go_wp2_with fail
      go_loopw [12, 13] (fun a b wr => ∃ (z at' : Int), a = .int .i64 at' ∧ b = .int .i64 z ∧ -1 ≤ z ∧ z < (F.length : Int) ∧ wr = W2 ∧ Hid ((at' = -1 ∧ ∀ j : Nat, z < (j : Int) → j < F.length → Wd.lg F j ≠ r) ∨ (∃ i : Nat, at' = (i : Int) ∧ z < (i : Int) ∧ i < F.length ∧ Wd.lg F i = r ∧ ∀ j : Nat, z < (j : Int) → j < i → Wd.lg F j ≠ r)))
        (fun _ b _ => (intOf b + 1).toNat)
      case atStart => exact ⟨(F.length : Int) - 1, -1, rfl, rfl, by omega, by omega, rfl, .inl ⟨rfl, fun j h1 h2 => by omega⟩⟩
      case round =>
        obtain ⟨z, at', rfl, rfl, hzl, hzu, rfl, hat⟩ := hrel
        by_cases hz : 0 ≤ z
        · obtain ⟨i, rfl⟩ : ∃ i : Nat, z = i := ⟨z.toNat, by omega⟩
          have hiF : i < F.length := by omega
          rcases a3 with h0 | ⟨ga, oa, rfl, ra⟩
          · omega
          have ci := (ra.below hB2 (Nat.le_refl _)) i hiF
          have hi9 : i ≤ 1099511627776 := by omega
          clear ra
          by_cases he : Wd.lg F i = r
          · have HE : Hid (∃ i' : Nat, (i : Int) = (i' : Int) ∧ (i : Int) - 1 < (i' : Int) ∧ i' < F.length ∧ Wd.lg F i' = r ∧ ∀ j : Nat, (i : Int) - 1 < (j : Int) → j < i' → Wd.lg F j ≠ r) := ⟨i, rfl, by omega, hiF, he, fun j h1 h2 => by omega⟩
            rw [he] at ci
            clear he hat
            have hrr : ((r : Int) == (r : Int)) = true := by simp
            go_wp2_with fail
            go_roundw
            case rel => exact ⟨(i : Int) - 1, i, rfl, rfl, by omega, by omega, by first | trivial | rfl, .inr HE.out⟩
            case measure => first | (simp [intOf]; done) | (simp [intOf]; omega)
          · have hei : ((Wd.lg F i : Int) == (r : Int)) = false := by simp; omega
            have HE := hide' he
            clear he
            go_wp2_with fail
            go_roundw
            case rel =>
              refine ⟨(i : Int) - 1, at', rfl, rfl, by omega, by omega, by first | trivial | rfl, ?_⟩
              rcases hat.out with ⟨h1, h2⟩ | ⟨i', h1, h2, h3, h4, h5⟩
              · refine .inl ⟨h1, fun j q1 q2 => ?_⟩
                by_cases e : j = i
                · subst e; exact HE.out
                · exact h2 j (by omega) q2
              · refine .inr ⟨i', h1, by omega, h3, h4, fun j q1 q2 => ?_⟩
                by_cases e : j = i
                · subst e; exact HE.out
                · exact h5 j (by omega) q2
            case measure => first | (simp [intOf]; done) | (simp [intOf]; omega)
        · have hzm : z = -1 := by omega
          have hzi : ¬ (0 : Int) ≤ z := hz
          clear a3
          rcases hat.out with ⟨h1, h2⟩ | ⟨i, h1, h2, h3, h4, h5⟩
          · have hx := Wd.ix_none F r (fun j hj => h2 j (by omega) hj)
            have HT : Hid (Wd.tr F T (pre ++ [r]) = Wd.tr F T pre ++ [r]) := by
              show _ = _
              rw [hts.out, Wd.tr1_none hx]
            subst h1
            clear hx h2 hat hts hzm b3
            go_wp2_with (at_builtin; refine wpList_append_own _ rfl _ _ 38 rfl (w2.heap.size + 1) 21 i0 (.int .i32 0) 1 4 Tryd.underlying38 hi hz0 hz1 hz2 rfl (by decide) _ (Wd.tr F T pre).length (rc (Wd.tr F T pre)) rfl (hown2.alloc _) ⟨wr.heap.size, 0, none⟩ 1 1 [.int .i32 (r : Int)] rfl rfl ?qA1 ?qA2 ?qA3 ?qA4 ?qA5 ?_)
            all_goals first
              | exact rc_news _ _
              | exact rc_one _
              | rfl
              | (unfold maxLen; omega)
              | omega
              | (simp; omega)
              | skip
            intro v' w3 hown' hgrow _
            have hB3 : Below w2.heap.size w2 w3 := (hB2.alloc (Nat.le_of_lt hlw) _).grown hgrow (by simp; omega) (fun j hj => by have := (hown2.lt j hj).1; omega)
            have hit3 : w3.heap[w2.heap.size]? = some (.stringIter (Rn.arr f n) (pos + d)) := by
              rw [hgrow.block _ (by simp; omega) (fun e => by have := (hown2.lt _ e.symm).1; omega), Lib.alloc_old wr _ _ hlw]
              exact hit2
            have hown3 : w3.ownsRow (w2.heap.size + 1) 21 1 v' (Wd.tr F T (pre ++ [r])).length (rc (Wd.tr F T (pre ++ [r]))) := by rw [HT.out, rc_snoc, List.length_append]; exact hown'
            clear hown' hgrow
            go_wp2_with fail
            go_roundw
            case rel => exact ⟨pos + d, pre ++ [r], hit3, hown3, HPP, by simp; omega, hB3⟩
            case measure => simp only [World.iterPos, hit3, hIt0.out]; omega
          · have hx := Wd.ix_some F r i h3 h4 (fun j hj => h5 j (by omega) hj)
            subst h1
            have hi9 : i ≤ 1099511627776 := by omega
            have hi0 : ¬ (i : Int) < 0 := by omega
            by_cases hiT : i < T.length
            · have HT : Hid (Wd.tr F T (pre ++ [r]) = Wd.tr F T pre ++ [Wd.lg T i]) := by
                show _ = _
                rw [hts.out, Wd.tr1_some hx hiT]
              have hiTi : (i : Int) < (T.length : Int) := by omega
              rcases b3 with h0 | ⟨gb, ob, rfl, rb⟩
              · omega
              have ci := (rb.below hB2 (Nat.le_refl _)) i hiT
              clear hx h2 h4 h5 hat hts hzm rb
              generalize Wd.lg T i = x at *
              go_wp2_with (at_builtin; refine wpList_append_own _ rfl _ _ 38 rfl (w2.heap.size + 1) 21 i0 (.int .i32 0) 1 4 Tryd.underlying38 hi hz0 hz1 hz2 rfl (by decide) _ (Wd.tr F T pre).length (rc (Wd.tr F T pre)) rfl (hown2.alloc _) ⟨wr.heap.size, 0, none⟩ 1 1 [.int .i32 (x : Int)] rfl rfl ?qB1 ?qB2 ?qB3 ?qB4 ?qB5 ?_)
              all_goals first
                | exact rc_news _ _
                | exact rc_one _
                | rfl
                | (unfold maxLen; omega)
                | omega
                | (simp; omega)
                | skip
              intro v' w3 hown' hgrow _
              have hB3 : Below w2.heap.size w2 w3 := (hB2.alloc (Nat.le_of_lt hlw) _).grown hgrow (by simp; omega) (fun j hj => by have := (hown2.lt j hj).1; omega)
              have hit3 : w3.heap[w2.heap.size]? = some (.stringIter (Rn.arr f n) (pos + d)) := by
                rw [hgrow.block _ (by simp; omega) (fun e => by have := (hown2.lt _ e.symm).1; omega), Lib.alloc_old wr _ _ hlw]
                exact hit2
              have hown3 : w3.ownsRow (w2.heap.size + 1) 21 1 v' (Wd.tr F T (pre ++ [r])).length (rc (Wd.tr F T (pre ++ [r]))) := by rw [HT.out, rc_snoc, List.length_append]; exact hown'
              clear hown' hgrow
              go_wp2_with fail
              go_roundw
              case rel => exact ⟨pos + d, pre ++ [r], hit3, hown3, HPP, by simp; omega, hB3⟩
              case measure => simp only [World.iterPos, hit3, hIt0.out]; omega
            · have HT : Hid (Wd.tr F T (pre ++ [r]) = Wd.tr F T pre) := by
                show _ = _
                rw [hts.out, Wd.tr1_gone hx hiT, List.append_nil]
              have hiTi : ¬ (i : Int) < (T.length : Int) := by omega
              clear hx h2 h4 h5 hat hts hzm b3
              go_wp2_with fail
              go_roundw
              case rel => exact ⟨pos + d, pre ++ [r], hit2, by rw [HT.out]; exact hown2, HPP, by simp; omega, hB2⟩
              case measure => simp only [World.iterPos, hit2, hIt0.out]; omega
    · have hnx : ∀ ty, (Instr.next (.pointer (some ⟨w2.heap.size, 0, none⟩)) true ty).run Tryd.prog wr = _ := fun ty => Lib.run_next_end_at wr w2.heap.size (Rn.arr f n) pos ty hit (by rw [hsz]; exact hlt)
      have hp := hpre.out
      rw [Wd.R_end f n pos hlt, List.append_nil] at hp
      rw [hp] at hown ⊢
      have ct := text_own hsc wr hown
      clear hp hpre hown a3 b3
      go_wp2_with fail
      refine ct.mono ?_
      rintro e w3 ⟨rfl, rfl⟩
      go_wp2_with fail
      go_ret
      exact ⟨rfl, hBw2.trans (hB.mono hBw2.size)⟩

set_option maxRecDepth 100000 in
set_option maxHeartbeats 2000000 in
theorem lawTurned_any (f : Nat → Nat) (n : Nat) (g : Nat → Nat) (gn : Nat) (h : Nat → Nat) (hn' : Nat) (w : World) (hT : Lib.Utf8Tabs 0 1 w) (hf : ∀ j, f j < 256) (hg : ∀ j, g j < 256) (hh : ∀ j, h j < 256) (hn : n ≤ 1099511627776) (hgn : gn ≤ 1099511627776) (hhn : hn' ≤ 1099511627776) :
    Calls Tryd.prog 5 #[.string (Rn.arr f n), .string (Rn.arr g gn), .string (Rn.arr h hn')] w fun e w' => e = .returned (.bool true) ∧ Below w.heap.size w w' := by
  have c0 := wAwake_any w hT
  have c1 := fun w1 => translate_any f n g gn h hn' w1 hf hg hh hn hgn hhn
  have c2 := fun w1 => refTranslate_any f n g gn h hn' w1 hf hg hh hn hgn hhn
  clear hT
  generalize Rn.tx (Wd.tr (Wd.R g gn 0) (Wd.R h hn' 0) (Wd.R f n 0)) = S at *
  have e1 : (S.toList == S.toList) = true := by simp
  go_enter Tryd.func5, Tryd.ntmps5
  go_wp2_with fail
  refine c0.mono ?_
  rintro e w1 ⟨rfl, hB1⟩
  go_wp2_with fail
  refine (c1 w1).mono ?_
  rintro e w2 ⟨rfl, hb2⟩
  have hB2 := hB1.trans (hb2.mono hB1.size)
  go_wp2_with fail
  refine (c2 w2).mono ?_
  rintro e w3 ⟨rfl, hb3⟩
  have hB3 := hB2.trans (hb3.mono hB2.size)
  go_wp2_with fail
  go_ret
  exact ⟨ret_bool (by simp), hB3⟩
end Go.Proofs.YtfbjkebinbemdaaDoor
