/-
  WALKS over the document's MendParts and Byte.
-/
import Derived.Test.YtacmenmneilamaaDoorRnRefMd
namespace Go.Proofs.YtacmenmneilamaaDoor
open Go.RowKit Go.Lib

namespace Rn
/-- MendParts in the document's words, from a place on -/
def mpl (f : Nat → Nat) (n : Nat) : Nat → Nat → List UInt8
  | 0, _ => []
  | fuel + 1, p => if n ≤ p then [] else (if whole (off f p) (n - p) then encodeRune (fv (off f p) : Nat) else encodeRune (65533 : Nat)) ++ mpl f n fuel (p + max (fk (off f p) (n - p)) 1)
theorem mpl_end (f : Nat → Nat) (n fuel p : Nat) (h : n ≤ p) : mpl f n fuel p = [] := by
  cases fuel with
  | zero => rfl
  | succ m => unfold mpl; rw [if_pos h]
theorem mpl_fuel (f : Nat → Nat) (n : Nat) : ∀ a b p, n ≤ p + a → n ≤ p + b → mpl f n a p = mpl f n b p
  | 0, b, p, ha, _ => by rw [mpl_end _ _ _ _ (by omega), mpl_end _ _ _ _ (by omega)]
  | a + 1, 0, p, _, hb => by rw [mpl_end _ _ _ _ (by omega), mpl_end _ _ _ _ (by omega)]
  | a + 1, b + 1, p, ha, hb => by
    unfold mpl
    by_cases h : n ≤ p
    · rw [if_pos h, if_pos h]
    · rw [if_neg h, if_neg h, mpl_fuel f n a b _ (by omega) (by omega)]
/-- within a front the bytes that follow begin nothing -/
theorem wrong_in (f : Nat → Nat) (n p j : Nat) (hf : ∀ j, f j < 256) (h1 : 1 ≤ j) (h2 : j < fk (off f p) (n - p)) : dec (off f (p + j)) (n - (p + j)) = (65533, 1) := by
  have a1 := fk_le_fs (off f p) (n - p)
  have a2 := fk_le (off f p) (n - p)
  have e0 : fs (off f p) (n - p) = size (off f p 0) := by unfold fs; rw [if_neg (by omega)]
  have hs := (fk_step (off f p) (n - p) j h1 (by omega) (by omega) (by omega)).1 h2
  have hb : off f (p + j) 0 = off f p j := by unfold off; rw [Nat.add_zero]
  have hz : size (off f (p + j) 0) = 0 := by
    rw [hb]
    rcases size_cases (off f p j) with c | c | c | c | c <;> omega
  have hw : whole (off f (p + j)) (n - (p + j)) = false := by
    have : fs (off f (p + j)) (n - (p + j)) = 0 := by unfold fs; split <;> first | rfl | exact hz
    simp [whole, this]
  rw [dec_whole (off f (p + j)) (n - (p + j)) (fun _ => hf _) (by omega), hw]
  rfl
theorem mp_skip (f : Nat → Nat) (n : Nat) (hf : ∀ j, f j < 256) (st : List UInt8 × Nat) : ∀ d q fuel, q + d = st.2 → st.2 ≤ n → d ≤ fuel → (∀ j, q ≤ j → j < st.2 → dec (off f j) (n - j) = (65533, 1)) →
    (chFrom f n hf fuel q).foldl (mpStep f n) st = (chFrom f n hf (fuel - d) st.2).foldl (mpStep f n) st
  | 0, q, fuel, h, _, _, _ => by rw [← h]; rfl
  | d + 1, q, fuel, h, hn, hfu, hd => by
    obtain ⟨m, rfl⟩ : ∃ m, fuel = m + 1 := ⟨fuel - 1, by omega⟩
    have e := hd q (Nat.le_refl _) (by omega)
    have ih := mp_skip f n hf st d (q + 1) m (by omega) hn (by omega) (fun j h1 h2 => hd j (by omega) h2)
    rw [show m + 1 - (d + 1) = m - d by omega, ← ih]
    rw [chFrom, dif_pos (by omega), List.foldl_cons]
    have hs : ∀ (c : Nat × Nat) (hc : c.1 = q) (h : c.1 < n ∧ c.2 < 2097152), mpStep f n st ⟨c, h⟩ = st := fun c hc h => by
      unfold mpStep
      rw [if_pos (by show c.1 < st.2; omega)]
    rw [hs _ rfl, e]
theorem mp_mpl (f : Nat → Nat) (n : Nat) (hf : ∀ j, f j < 256) : ∀ fuel p st, n ≤ p + fuel → st.2 ≤ p → ((chFrom f n hf fuel p).foldl (mpStep f n) st).1 = st.1 ++ mpl f n fuel p := by
  intro fuel
  induction fuel using Nat.strongRecOn with
  | _ fuel IH =>
    intro p st hfu hst
    by_cases hp : p < n
    · obtain ⟨m, rfl⟩ : ∃ m, fuel = m + 1 := ⟨fuel - 1, by omega⟩
      have hd := dec_whole (off f p) (n - p) (fun _ => hf _) (by omega)
      have hk := fk_le (off f p) (n - p)
      unfold mpl
      rw [if_neg (by omega), chFrom, dif_pos hp, List.foldl_cons]
      cases hw : whole (off f p) (n - p)
      · rw [hw] at hd
        simp only [Bool.false_eq_true, if_false] at hd ⊢
        have hs : ∀ (c : Nat × Nat) (hc : c = (p, 65533)) (h : c.1 < n ∧ c.2 < 2097152), mpStep f n st ⟨c, h⟩ = (st.1 ++ encodeRune (65533 : Nat), p + max (fk (off f p) (n - p)) 1) := fun c hc h => by
          subst hc
          unfold mpStep
          simp only []
          rw [if_neg (by omega), pw, hw]
          simp only [Bool.false_eq_true, if_false, if_true]
          rw [Nat.max_comm]
        rw [hs _ (by rw [hd]), hd]
        simp only []
        generalize hM : max (fk (off f p) (n - p)) 1 = M at *
        rw [mp_skip f n hf _ (M - 1) (p + 1) m (by simp only []; omega) (by simp only []; omega) (by omega) (fun j h1 h2 => by
          simp only [] at h2
          have := wrong_in f n p (j - p) hf (by omega) (by omega)
          rw [show p + (j - p) = j by omega] at this
          exact this)]
        simp only []
        rw [IH (m - (M - 1)) (by omega) (p + M) _ (by omega) (by simp only []; omega)]
        simp only [List.append_assoc]
        rw [mpl_fuel f n (m - (M - 1)) m _ (by omega) (by omega)]
      · rw [hw] at hd
        simp only [if_true] at hd ⊢
        have hw' := hw
        simp only [whole, decide_eq_true_eq] at hw'
        have hs : ∀ (c : Nat × Nat) (hc : c = (p, fv (off f p))) (h : c.1 < n ∧ c.2 < 2097152), mpStep f n st ⟨c, h⟩ = (st.1 ++ encodeRune (fv (off f p) : Nat), if fv (off f p) = 65533 then p + fs (off f p) (n - p) else st.2) := fun c hc h => by
          subst hc
          unfold mpStep
          simp only []
          rw [if_neg (by omega), pw, hw]
          simp only [if_true]
        rw [hs _ (by rw [hd]), hd]
        simp only []
        rw [IH m (by omega) _ _ (by omega) (by simp only []; split <;> omega)]
        simp only [List.append_assoc]
        rw [show max (fk (off f p) (n - p)) 1 = fs (off f p) (n - p) by omega]
    · rw [chFrom_end _ _ _ _ _ hp, mpl_end _ _ _ _ (by omega)]
      simp
theorem mp_eq (f : Nat → Nat) (n : Nat) (hf : ∀ j, f j < 256) : mpl f n n 0 = (mp f n (chs f n hf)).1 := by
  have := mp_mpl f n hf n 0 ([], 0) (by omega) (Nat.le_refl _)
  rw [mp, chs, this]
  rfl
theorem chl_at (f : Nat → Nat) (n : Nat) (hf : ∀ j, f j < 256) : (chl f n).length = (chs f n hf).length ∧ ∀ k (h : k < (chl f n).length) (h' : k < (chs f n hf).length), (chl f n)[k].1 = (chs f n hf)[k].1.1 := by
  have h := chl_chs f n hf n 0
  have hl : (chl f n).length = (chs f n hf).length := by
    have := congrArg List.length h
    rw [List.length_map, List.length_map] at this
    exact this
  refine ⟨hl, fun k h1 h2 => ?_⟩
  have e := congrArg (fun l => l[k]?) h
  simp only [List.getElem?_map] at e
  have e1 : (chlFrom f n n 0)[k]? = some (chl f n)[k] := List.getElem?_eq_getElem h1
  have e2 : (chFrom f n hf n 0)[k]? = some (chs f n hf)[k] := List.getElem?_eq_getElem h2
  rw [e1, e2] at e
  simp only [Option.map_some, Option.some.injEq] at e
  exact congrArg Prod.fst e
end Rn

set_option maxRecDepth 100000 in
set_option maxHeartbeats 2000000 in
theorem refMendParts_any (f : Nat → Nat) (n : Nat) (w : World) (hf : ∀ j, f j < 256) (hbig : n ≤ 1099511627776) :
    Calls Tryd.prog 22 #[.string (Rn.arr f n)] w fun e w' => e = .returned (.string ⟨(Rn.mpl f n n 0).toArray⟩) ∧ Below w.heap.size w w' := by
  obtain ⟨i0, hi, hz0, hz1, hz2⟩ := info_parts infoByte'
  obtain ⟨cap1, W1, hcv, d1, d2, d3, d4, d5⟩ := conv_bytes f n w hf (by omega)
  have d2' : cap1 ≤ 9223372036854775807 := by unfold maxLen at d2; omega
  have hdb : w.heap.size ≤ W1.heap.size := d4.size
  clear d5
  go_enter Tryd.func22, Tryd.ntmps22
  go_wp2_with fail
  go_loopw [4, 5] (fun out i wr => ∃ (p fuel : Nat) (acc : List UInt8), i = .int .i64 p ∧ p ≤ n ∧ n ≤ p + fuel ∧ acc ++ Rn.mpl f n fuel p = Rn.mpl f n n 0 ∧ acc.length ≤ 4 * p ∧ wr.ownsRow W1.heap.size 5 1 out acc.length (byteCells acc) ∧ Below W1.heap.size W1 wr) (fun _ i _ => n - (RowKit.intOf i).toNat)
  case atStart => exact ⟨0, n, [], rfl, Nat.zero_le _, by omega, rfl, by simp, World.ownsRow_nil _ _ _ _, Below.refl _ _⟩
  case round =>
    obtain ⟨p, fuel, acc, rfl, hp, hfu, hacc, hal, hown, hB⟩ := hrel
    by_cases hlt : p < n
    · have g1 : (p : Int) < n := by omega
      obtain ⟨m, rfl⟩ : ∃ m, fuel = m + 1 := ⟨fuel - 1, by omega⟩
      have hby := d3.below hB (Nat.le_refl _)
      have cF := front_in f n w.heap.size 0 cap1 p wr hlt (by omega) hby
      have hfl := Rn.fk_le (Rn.off f p) (n - p)
      have hbs := hB.size
      rw [Rn.mpl, if_neg (by omega)] at hacc
      cases hwh : Rn.whole (Rn.off f p) (n - p)
      · simp only [hwh, Bool.false_eq_true, if_false] at hacc
        have hx1 : Rn.fs (Rn.off f p) (n - p) = 0 ∨ Rn.fk (Rn.off f p) (n - p) < Rn.fs (Rn.off f p) (n - p) := by
          have a1 := Rn.fk_le_fs (Rn.off f p) (n - p)
          simp only [Rn.whole, decide_eq_false_iff_not] at hwh
          omega
        have HA := hide' hacc
        clear hacc hwh
        generalize Rn.fk (Rn.off f p) (n - p) = q at *
        generalize Rn.fs (Rn.off f p) (n - p) = z at *
        have hel : Rn.el (65533 : Nat) = 3 := by decide
        have cFm : ∀ W, _ := fun W => refForm_some 65533 W ⟨by decide, by decide⟩
        rcases hx1 with hz | hz
        · subst hz
          go_wp2_with fail
          refine cF.mono ?_
          rintro e W2 ⟨rfl, rfl⟩
          go_wp2_with fail
          refine (cFm _).mono ?_
          rintro e w3 ⟨rfl, hby3, hb3⟩
          have hown3 := owns_below hown hb3
          have hB3 := hB.trans (hb3.mono hbs)
          have hbs3 := hb3.size
          go_wp2_with (at_builtin; refine wpList_append_own _ rfl _ _ 22 rfl W1.heap.size 5 i0 (.int .u8 0) 1 1 Tryd.underlying22 hi hz0 hz1 hz2 rfl (by decide) _ acc.length (byteCells acc) rfl hown3 ⟨W2.heap.size, 0, none⟩ (Rn.el (65533 : Nat)) (Rn.el (65533 : Nat)) (byteCells (encodeRune (65533 : Nat))) rfl (by rw [byteCells_length, Rn.enc_length]; omega) ?c1 ?c2 ?c3 ?c4 ?c5 ?_)
          case c1 => exact news_enc 65533 hby3
          case c2 => exact byteCells_one' _
          case c3 => unfold maxLen; omega
          case c4 => omega
          case c5 => omega
          intro v' w4 hown' hgrow _
          have hB4 : Below W1.heap.size W1 w4 := hB3.grown hgrow (by omega) (fun j hj => (hown3.lt j hj).1)
          have hown4 : w4.ownsRow W1.heap.size 5 1 v' (acc ++ encodeRune (65533 : Nat)).length (byteCells (acc ++ encodeRune (65533 : Nat))) := by
            rw [byteCells_append, List.length_append, Rn.enc_length]
            exact hown'
          clear hown hown' hgrow hown3 cFm
          go_wp2_with fail
          go_roundw
          case rel => exact ⟨p + max q 1, m, acc ++ encodeRune (65533 : Nat), congrArg (Value.int .i64) (by omega), by omega, by omega, by rw [List.append_assoc]; exact HA.out, by rw [List.length_append, Rn.enc_length]; omega, hown4, hB4⟩
          case measure => simp [RowKit.intOf]; omega
        · have e1 : (0 : Int) < z := by omega
          have e2 : ((q : Int) == z) = false := by simp; omega
          go_wp2_with fail
          refine cF.mono ?_
          rintro e W2 ⟨rfl, rfl⟩
          go_wp2_with fail
          refine (cFm _).mono ?_
          rintro e w3 ⟨rfl, hby3, hb3⟩
          have hown3 := owns_below hown hb3
          have hB3 := hB.trans (hb3.mono hbs)
          have hbs3 := hb3.size
          go_wp2_with (at_builtin; refine wpList_append_own _ rfl _ _ 22 rfl W1.heap.size 5 i0 (.int .u8 0) 1 1 Tryd.underlying22 hi hz0 hz1 hz2 rfl (by decide) _ acc.length (byteCells acc) rfl hown3 ⟨W2.heap.size, 0, none⟩ (Rn.el (65533 : Nat)) (Rn.el (65533 : Nat)) (byteCells (encodeRune (65533 : Nat))) rfl (by rw [byteCells_length, Rn.enc_length]; omega) ?c1 ?c2 ?c3 ?c4 ?c5 ?_)
          case c1 => exact news_enc 65533 hby3
          case c2 => exact byteCells_one' _
          case c3 => unfold maxLen; omega
          case c4 => omega
          case c5 => omega
          intro v' w4 hown' hgrow _
          have hB4 : Below W1.heap.size W1 w4 := hB3.grown hgrow (by omega) (fun j hj => (hown3.lt j hj).1)
          have hown4 : w4.ownsRow W1.heap.size 5 1 v' (acc ++ encodeRune (65533 : Nat)).length (byteCells (acc ++ encodeRune (65533 : Nat))) := by
            rw [byteCells_append, List.length_append, Rn.enc_length]
            exact hown'
          clear hown hown' hgrow hown3 cFm
          go_wp2_with fail
          go_roundw
          case rel => exact ⟨p + max q 1, m, acc ++ encodeRune (65533 : Nat), congrArg (Value.int .i64) (by omega), by omega, by omega, by rw [List.append_assoc]; exact HA.out, by rw [List.length_append, Rn.enc_length]; omega, hown4, hB4⟩
          case measure => simp [RowKit.intOf]; omega
      · simp only [hwh, if_true] at hacc
        obtain ⟨hv1, hv2⟩ := Rn.enc_fv _ _ hwh
        have hs4 := Rn.fs_le (Rn.off f p) (n - p)
        simp only [Rn.whole, decide_eq_true_eq] at hwh
        rw [hwh.2] at cF
        rw [show max (Rn.fk (Rn.off f p) (n - p)) 1 = Rn.fs (Rn.off f p) (n - p) by omega] at hacc
        have hnews := news_of (l := encodeRune (Rn.fv (Rn.off f p) : Nat)) ((hby.off (k := p) (by omega)).le (m := Rn.fs (Rn.off f p) (n - p)) (by omega)) (by rw [Rn.enc_length, hv1]; exact Nat.le_refl _) (fun j hj => by
          rw [Rn.enc_length, hv1] at hj
          rw [Rn.enc_get]
          exact hv2 j hj)
        rw [Nat.zero_add] at hnews
        have HA := hide' hacc
        have hlen : (encodeRune (Rn.fv (Rn.off f p) : Nat)).length = Rn.fs (Rn.off f p) (n - p) := by rw [Rn.enc_length, hv1]
        clear hacc hv1 hv2
        generalize Rn.fs (Rn.off f p) (n - p) = z at *
        generalize encodeRune (Rn.fv (Rn.off f p) : Nat) = E at *
        have e1 : (0 : Int) < z := by omega
        have e2 : ((z : Int) == z) = true := by simp
        have hzp := hwh.1
        have hzn : p + z ≤ n := by omega
        clear hwh hby
        go_wp2_with fail
        refine cF.mono ?_
        rintro e W2 ⟨rfl, rfl⟩
        go_wp2_with (at_builtin; refine wpList_append_own _ rfl _ _ 22 rfl W1.heap.size 5 i0 (.int .u8 0) 1 1 Tryd.underlying22 hi hz0 hz1 hz2 rfl (by decide) _ acc.length (byteCells acc) rfl hown ⟨w.heap.size, p, none⟩ (p + z - p) (cap1 - p) (byteCells E) rfl (by rw [byteCells_length]; omega) ?c1 ?c2 ?c3 ?c4 ?c5 ?_)
        case c1 => exact hnews
        case c2 => exact byteCells_one' _
        case c3 => unfold maxLen; omega
        case c4 => omega
        case c5 => omega
        intro v' w4 hown' hgrow _
        have hB4 : Below W1.heap.size W1 w4 := hB.grown hgrow (by omega) (fun j hj => (hown.lt j hj).1)
        have hown4 : w4.ownsRow W1.heap.size 5 1 v' (acc ++ E).length (byteCells (acc ++ E)) := by
          rw [byteCells_append, List.length_append, hlen]
          exact hown'
        clear hown hown' hgrow hnews
        have hmx : max (z : Int) 1 = z := by omega
        go_wp2_with fail
        go_roundw
        case rel => exact ⟨p + z, m, acc ++ E, congrArg (Value.int .i64) (by omega), by omega, by omega, by rw [List.append_assoc]; exact HA.out, by rw [List.length_append, hlen]; omega, hown4, hB4⟩
        case measure => simp [RowKit.intOf]; omega
    · have g1 : ¬ (p : Int) < n := by omega
      rw [Rn.mpl_end _ _ _ _ (by omega), List.append_nil] at hacc
      subst hacc
      have hcv2 := conv_owned hown
      clear hown
      go_wp2_with fail
      go_ret
      exact ⟨rfl, d4.trans (hB.mono hdb)⟩

set_option maxRecDepth 100000 in
set_option maxHeartbeats 2000000 in
theorem refByte_any (f : Nat → Nat) (n : Nat) (k : Int) (w : World) (hf : ∀ j, f j < 256) (hbig : n ≤ 1099511627776) (x y : Nat)
    (hx : (k < 0 ∧ x = 0 ∧ y = 2) ∨ ∃ m : Nat, k = m ∧ Rn.byt (Rn.chs f n hf) m = (x, y)) :
    Calls Tryd.prog 24 #[.string (Rn.arr f n), .int .i64 k] w fun e w' => e = .returned (.tuple #[.int .i64 x, .int .i64 y]) ∧ Below w.heap.size w w' := by
  obtain ⟨cap1, W1, hcv, d1, d2, d3, d4, d5⟩ := conv_bytes f n w hf (by omega)
  obtain ⟨hl, hat⟩ := Rn.chl_at f n hf
  have hsz := Rn.arr_size f n
  have hdb : w.heap.size ≤ W1.heap.size := d4.size
  clear d5
  go_enter Tryd.func24, Tryd.ntmps24
  go_wp2_with fail
  refine (chars_any f _ n cap1 W1 hf d1 d2 hbig (.inr ⟨_, _, rfl, d3⟩)).mono ?_
  rintro e w2 ⟨v, rfl, hown, hlen, hb2⟩
  have hB2 : Below w.heap.size w w2 := d4.trans (hb2.mono hdb)
  clear hcv d1 d2 d3 d4
  obtain ⟨ao, capc, rfl⟩ : ∃ ao capc, v = .slice ao (Rn.chl f n).length capc := by
    rcases hown.2 with ⟨hv, h0⟩ | ⟨g, cap, cur, hv, _⟩
    · exact ⟨none, 0, by rw [hv, h0]⟩
    · exact ⟨_, _, hv⟩
  have hrow : 0 < (Rn.chl f n).length → ∃ g, ao = some ⟨g, 0, none⟩ ∧ g < w2.heap.size ∧ ∀ j u, (chCells (Rn.chl f n))[j]? = some u → w2.cell? ⟨g, j, none⟩ = some u := fun h => by
    rcases hown.2 with ⟨_, h0⟩ | ⟨g, cap, cur, hv, hg, hgg, _⟩
    · omega
    · cases hv
      refine ⟨g, rfl, lt_of_heap hgg, fun j u hu => ?_⟩
      have := hown.cells (g := g) rfl j u hu
      rw [show (Addr.add ⟨g, 0, none⟩ j) = ⟨g, j, none⟩ by simp [Addr.add]; omega] at this
      exact this
  clear hown hb2
  have hcase : (k < 0 ∧ x = 0 ∧ y = 2) ∨ (∃ m : Nat, k = m ∧ (Rn.chl f n).length < m ∧ x = 0 ∧ y = 2) ∨ (k = (Rn.chl f n).length ∧ x = n ∧ y = 0) ∨ (∃ m : Nat, k = m ∧ ∃ h : m < (Rn.chl f n).length, x = (Rn.chl f n)[m].1 ∧ y = 0) := by
    rcases hx with h | ⟨m, rfl, hm⟩
    · exact .inl h
    · unfold Rn.byt at hm
      rcases Nat.lt_trichotomy m (Rn.chs f n hf).length with h | h | h
      · rw [List.getElem?_eq_getElem h] at hm
        simp only [Prod.mk.injEq] at hm
        exact .inr (.inr (.inr ⟨m, rfl, by omega, by rw [hat m (by omega) h]; exact hm.1.symm, hm.2.symm⟩))
      · rw [List.getElem?_eq_none (by omega), if_pos h] at hm
        simp only [Prod.mk.injEq] at hm
        exact .inr (.inr (.inl ⟨by omega, hm.1.symm, hm.2.symm⟩))
      · rw [List.getElem?_eq_none (by omega), if_neg (by omega)] at hm
        simp only [Prod.mk.injEq] at hm
        exact .inr (.inl ⟨m, rfl, by omega, hm.1.symm, hm.2.symm⟩)
  clear hx hat hl
  generalize Rn.chl f n = L at *
  rcases hcase with ⟨hk, rfl, rfl⟩ | ⟨m, rfl, hm, rfl, rfl⟩ | ⟨rfl, rfl, rfl⟩ | ⟨m, rfl, hm, rfl, rfl⟩
  · go_wp2_with fail
    go_ret2
    exact ⟨rfl, hB2⟩
  · have h1 : ¬ (m : Int) < 0 := by omega
    have h2 : (L.length : Int) < m := by omega
    go_wp2_with fail
    go_ret2
    exact ⟨rfl, hB2⟩
  · have h1 : ¬ (L.length : Int) < 0 := by omega
    have h2 : ¬ (L.length : Int) < L.length := by omega
    have h3 : ((L.length : Int) == L.length) = true := by simp
    go_wp2_with fail
    go_ret2
    exact ⟨rfl, hB2⟩
  · have h1 : ¬ (m : Int) < 0 := by omega
    have h2 : ¬ (L.length : Int) < m := by omega
    have h3 : ((m : Int) == L.length) = false := by simp; omega
    have h4 : (m : Int) < L.length := by omega
    obtain ⟨g, rfl, hg2, hcs⟩ := hrow (by omega)
    obtain ⟨q0, -, -⟩ := chCells_get L m hm
    rw [Nat.mul_comm] at q0
    have c0 := hcs _ _ q0
    clear q0 hcs hrow
    generalize hz : L[m].1 = z at *
    have HZ := hide' hz
    clear hz
    go_wp2_with fail
    go_ret2
    exact ⟨by rw [HZ.out]; rfl, hB2⟩
end Go.Proofs.YtacmenmneilamaaDoor
