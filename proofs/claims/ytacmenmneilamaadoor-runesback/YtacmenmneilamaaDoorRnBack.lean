/-
  THE WALK over gimletlaw01.RunesBack: at every rune.
-/
import Derived.Test.YtacmenmneilamaaDoorRnPut
import Derived.Test.YtacmenmneilamaaDoorRnAwake
namespace Go.Proofs.YtacmenmneilamaaDoor
open Go.RowKit Go.Lib

namespace Rn
/-- the first k bytes, then noughts -/
def cut (f : Nat → Nat) (k : Nat) : Nat → Nat := fun j => if j < k then f j else 0
theorem cut_zero (f : Nat → Nat) : cut f 0 = fun _ => 0 := by funext j; simp [cut]
theorem cut_succ (f : Nat → Nat) (k : Nat) : upd (cut f k) k (f k) = cut f (k + 1) := by
  funext j
  unfold upd cut
  by_cases h : j = k
  · subst h; simp
  · by_cases h2 : j < k
    · rw [if_neg h, if_pos h2, if_pos (by omega)]
    · rw [if_neg h, if_neg h2, if_neg (by omega)]
theorem cut_eq (f : Nat → Nat) (k : Nat) : ∀ j, j < k → f j = cut f k j := fun j hj => by simp [cut, hj]
theorem cut_lt {f : Nat → Nat} (hf : ∀ j, f j < 256) (k : Nat) : ∀ j, cut f k j < 256 := by
  intro j
  unfold cut
  split
  · exact hf j
  · omega
/-- 'string(r)' is the bytes that Put writes -/
theorem encode_arr (r : Int) : Utf8.encode (want r) = arr (eb r) (el r) := by
  have h := eb_enc r
  have hv : Utf8.valid (want r) = true := by
    unfold Utf8.valid want
    split
    · rfl
    · simp; omega
  have hw : 0 ≤ want r := by
    unfold want
    split <;> omega
  unfold Utf8.encode
  rw [if_pos hv]
  dsimp only
  generalize (want r).toNat = v at *
  cases h with
  | one hn h0 hv =>
    rw [if_pos hv, hn]
    apply congrArg ByteArray.mk
    apply Array.ext
    · simp
    · intro i h1 h2
      simp at h1
      subst h1
      simp [h0]
  | two hn h0 h1 hv hv2 =>
    rw [if_neg (by omega), if_pos hv2, hn]
    apply congrArg ByteArray.mk
    apply Array.ext
    · simp
    · intro i g1 g2
      have : i = 0 ∨ i = 1 := by simp at g1; omega
      rcases this with rfl | rfl
      · simp [h0]
      · simp [h1]
  | three hn h0 h1 h2 hv hv2 hv3 =>
    rw [if_neg (by omega), if_neg (by omega), if_pos hv2, hn]
    apply congrArg ByteArray.mk
    apply Array.ext
    · simp
    · intro i g1 g2
      have : i = 0 ∨ i = 1 ∨ i = 2 := by simp at g1; omega
      rcases this with rfl | rfl | rfl
      · simp [h0]
      · simp [h1]
      · simp [h2]
  | four hn h0 h1 h2 h3 hv hv2 =>
    rw [if_neg (by omega), if_neg (by omega), if_neg (by omega), hn]
    apply congrArg ByteArray.mk
    apply Array.ext
    · simp
    · intro i g1 g2
      have : i = 0 ∨ i = 1 ∨ i = 2 ∨ i = 3 := by simp at g1; omega
      rcases this with rfl | rfl | rfl | rfl
      · simp [h0]
      · simp [h1]
      · simp [h2]
      · simp [h3]
end Rn

theorem take_any (D : Nat) (x : Nat → Nat) (n v : Nat) (w : World) (hn : n < 4) (hv : v < 256) (hx : ∀ j, x j < 256) (hT : Lib.Utf8Tabs 0 1 w) (h : DecAt w D x n false) :
    Calls Tryd.prog 30 #[.pointer (some ⟨D, 0, none⟩), .int .u8 v] w fun e w' => TakeEnd D x n v w e w' := by
  have : n = 0 ∨ n = 1 ∨ n = 2 ∨ n = 3 := by omega
  rcases this with rfl | rfl | rfl | rfl
  · exact take_0 D x v w hv hx hT h
  · exact take_1 D x v w hv hx hT h
  · exact take_2 D x v w hv hx hT h
  · exact take_3 D x v w hv hx hT h
theorem take_waits (D : Nat) (f : Nat → Nat) (k : Nat) (w : World) (hk : k < 4) (hf : ∀ j, f j < 256) (hT : Lib.Utf8Tabs 0 1 w) (h : DecAt w D (Rn.cut f k) k false) (hw : Rn.waits f (k + 1) = true) :
    Calls Tryd.prog 30 #[.pointer (some ⟨D, 0, none⟩), .int .u8 (f k)] w fun e w' => e = .returned (.tuple #[.int .i32 0, .int .i64 1]) ∧ DecAt w' D (Rn.cut f (k + 1)) (k + 1) false ∧ But D w w' := by
  refine (take_any D (Rn.cut f k) k (f k) w hk (hf k) (Rn.cut_lt hf k) hT h).mono ?_
  have e1 : Rn.waits (Rn.cut f (k + 1)) (k + 1) = true := by rw [← Rn.waits_congr (Rn.cut_eq f (k + 1))]; exact hw
  rintro e w' (⟨h1, he, hd, hb⟩ | ⟨h1, he, hd, hb⟩ | ⟨h1, h2, he, hd, hb⟩)
  · rw [Rn.cut_succ] at h1
    simp only [Rn.whole, Rn.waits, decide_eq_true_eq] at h1 e1
    omega
  · rw [Rn.cut_succ] at hd
    exact ⟨he, hd, hb⟩
  · rw [Rn.cut_succ, e1] at h2
    cases h2
theorem take_whole (D : Nat) (f : Nat → Nat) (k : Nat) (w : World) (hk : k < 4) (hf : ∀ j, f j < 256) (hT : Lib.Utf8Tabs 0 1 w) (h : DecAt w D (Rn.cut f k) k false) (hw : Rn.whole f (k + 1) = true) :
    Calls Tryd.prog 30 #[.pointer (some ⟨D, 0, none⟩), .int .u8 (f k)] w fun e w' => e = .returned (.tuple #[.int .i32 (Rn.fv f), .int .i64 0]) ∧ DecAt w' D (fun _ => 0) 0 false ∧ But D w w' := by
  refine (take_any D (Rn.cut f k) k (f k) w hk (hf k) (Rn.cut_lt hf k) hT h).mono ?_
  have e1 : Rn.whole (Rn.cut f (k + 1)) (k + 1) = true := by rw [← Rn.whole_congr (Rn.cut_eq f (k + 1))]; exact hw
  rintro e w' (⟨h1, he, hd, hb⟩ | ⟨h1, he, hd, hb⟩ | ⟨h1, h2, he, hd, hb⟩)
  · rw [Rn.cut_succ, ← Rn.fv_congr hw (Rn.cut_eq f (k + 1))] at he
    exact ⟨he, hd, hb⟩
  · rw [Rn.cut_succ] at h1
    simp only [Rn.whole, Rn.waits, decide_eq_true_eq] at h1 e1
    omega
  · rw [Rn.cut_succ, e1] at h1
    cases h1

set_option maxRecDepth 100000 in
set_option maxHeartbeats 4000000 in
theorem back_any (r wv : Int) (w : World) (hr0 : -2147483648 ≤ r) (hr1 : r ≤ 2147483647) (hT : Lib.Utf8Tabs 0 1 w) (hwv : Rn.want r = wv)
    (hcase : (r < 0 ∧ wv = 65533) ∨ (1114111 < r ∧ wv = 65533) ∨ (55296 ≤ r ∧ r ≤ 57343 ∧ wv = 65533) ∨ (0 ≤ r ∧ r < 55296 ∧ wv = r) ∨ (57343 < r ∧ r ≤ 1114111 ∧ wv = r)) :
    Calls Tryd.prog 7 #[.int .i32 r] w fun e w' => e = .returned (.bool true) ∧ Below w.heap.size w w' := by
  have hE := Rn.eb_enc r
  have hwv0 : 0 ≤ wv := by omega
  have hfv : ((Rn.fv (Rn.eb r) : Nat) : Int) = wv := by rw [hE.fv, hwv]; omega
  have hstr := Rn.encode_arr r
  rw [hwv] at hE hstr
  have hp := hE.pos
  have hl1 := hp.1
  have hl4 := hp.2
  have hnx := Rn.nx_whole hE.whole
  have hf := Rn.eb_lt r
  have cA := awake_any w hT
  have cP := fun w1 => put_nil r w1 hr0 hr1
  generalize Rn.eb r = f at *
  generalize Rn.el r = m at *
  clear hwv hr0 hr1 hp
  have hfs := hE.fsn
  have cN : ∀ g cap w2, m ≤ cap → cap ≤ maxLen → Lib.Utf8Tabs 0 1 w2 → Bytes w2 g 0 m f → Calls Tryd.prog 11 #[.slice (some ⟨g, 0, none⟩) m cap, .int .i64 0] w2 fun e w' => e = .returned (.tuple #[.int .i32 wv, .int .i64 m, .int .i64 0, .int .i64 0]) ∧ Below w2.heap.size w2 w' := fun g cap w2 h1 h2 h3 h4 => by
    have h := next_first f m g 0 cap w2 h3 hf hl1 h1 h2 h4
    rw [hnx, hfs] at h
    simp only [hfv] at h
    exact h
  clear hnx
  rcases hcase with ⟨hc1, hc2⟩ | ⟨hc1, hc2⟩ | ⟨hc1, hc3, hc2⟩ | ⟨hc1, hc3, hc2⟩ | ⟨hc1, hc3, hc2⟩
  all_goals
    subst hc2
    go_enter Tryd.func7, Tryd.ntmps7
    go_wp2_with fail
    refine cA.mono ?_
    rintro e w1 ⟨rfl, hb1⟩
    go_wp2_with fail
    refine (cP w1).mono ?_
    rintro e w2 ⟨g, cap, rfl, hc, hm, hby, hb2⟩
    have hB2 := hb1.trans (hb2.mono hb1.size)
    go_wp2_with fail
    refine (cN g cap w2 hc hm (tabs_below hT hB2 (Nat.le_refl _)) hby).mono ?_
    rintro e w3 ⟨rfl, hb3⟩
    have hB3 := hB2.trans (hb3.mono hB2.size)
    have hby3 := hby.below hb3 (Nat.le_refl _)
    have hT3 := tabs_below hT hB3 (Nat.le_refl _)
    have hcv := bytes_string w3 g 0 m cap f hf hby3
    have hm' : cap ≤ 9223372036854775807 := by unfold maxLen at hm; omega
    clear cA cP cN hby hb1 hb2 hb3 hB2
    go_wp2_with fail
    refine (new_any w3).mono ?_
    rintro e w4 ⟨rfl, rfl⟩
    go_wp2_with fail
    go_loopw [10] (fun i wr => ∃ k : Nat, i = .int .i64 k ∧ k ≤ m ∧ (k < m → DecAt wr w3.heap.size (Rn.cut f k) k false) ∧ Below w3.heap.size w3 wr ∧ w3.heap.size < wr.heap.size) (fun i _ => m - (RowKit.intOf i).toNat)
    case atStart =>
      refine ⟨0, rfl, Nat.zero_le _, fun _ => ?_, (Below.refl _ _).alloc (Nat.le_refl _) _, by simp⟩
      show (w3.heap.push _)[w3.heap.size]? = _
      simp [Rn.cut]
    case round =>
      obtain ⟨k, rfl, hk, hdec, hBr, hszr⟩ := hrel
      by_cases hlt : k < m
      · have hd := hdec hlt
        have hbyr := hby3.below hBr (Nat.le_refl _)
        have hTr := tabs_below hT3 hBr (Nat.le_refl _)
        have hck := hbyr k hlt
        rw [Nat.zero_add] at hck
        have hgb : g < w3.heap.size := by have := block_lt_of_cell (hby3 0 hl1); exact this
        have hltz : (k : Int) < m := by omega
        by_cases hlast : k + 1 < m
        · have hwa := hE.waits (m := k + 1) (by omega) hlast
          have c1 := next_first f (k + 1) g 0 cap wr hTr hf (by omega) (by omega) hm (hbyr.le (by omega))
          rw [(Rn.nx_waits hwa).1] at c1
          have c2 : ∀ w5, Below wr.heap.size wr w5 → _ := fun w5 hb => take_waits w3.heap.size f k w5 (by omega) hf (tabs_below hTr hb (Nat.le_refl _)) (hd.below hb hszr) hwa
          have c3 : ∀ w6, Below w3.heap.size w3 w6 → _ := fun w6 hb => good_any f (k + 1) g 0 cap w6 (tabs_below hT3 hb (Nat.le_refl _)) hf (by omega) hm ((hby3.below hb (Nat.le_refl _)).le (by omega))
          rw [Rn.good_waits hwa] at c3
          have hlz : (k : Int) + 1 < m := by omega
          have hne : ((k : Int) + 1 == m) = false := by simp; omega
          clear hdec hbyr hTr hE hd hwa
          go_wp2_with fail
          refine c1.mono ?_
          rintro e w5 ⟨rfl, hb5⟩
          have hck5 : w5.cell? ⟨g, k, none⟩ = some (.int .u8 (f k)) := (hb5.cell (p := ⟨g, k, none⟩) (by show g < wr.heap.size; omega)).trans hck
          go_wp2_with fail
          refine (c2 w5 hb5).mono ?_
          rintro e w6 ⟨rfl, hd6, hb6⟩
          have hB6 : Below w3.heap.size w3 w6 := (hBr.trans (hb5.mono (by omega))).trans (hb6.below (Nat.le_refl _) (by have := hb5.size; omega))
          go_wp2_with fail
          refine (c3 w6 hB6).mono ?_
          rintro e w7 ⟨rfl, hb7⟩
          have hd7 := hd6.below hb7 (by have h1 := hb5.size; have h2 := hb6.size; omega)
          have hB7 : Below w3.heap.size w3 w7 := hB6.trans (hb7.mono hB6.size)
          have hs7 : w3.heap.size < w7.heap.size := by have h1 := hb5.size; have h2 := hb6.size; have h3 := hb7.size; omega
          go_wp2_with fail
          refine (pending_any w3.heap.size _ (k + 1) false w7 hd7).mono ?_
          rintro e w8 ⟨rfl, rfl⟩
          go_wp2_with fail
          go_roundw
          case rel => exact ⟨k + 1, by go_num, by omega, fun _ => hd7, hB7, hs7⟩
          case measure => simp [RowKit.intOf]; omega
        · have hmk : m = k + 1 := by omega
          have hwh : Rn.whole f (k + 1) = true := by rw [← hmk]; exact hE.whole
          have hfs1 : Rn.fs f (k + 1) = k + 1 := by rw [← hmk]; exact hfs
          have c1 := next_first f (k + 1) g 0 cap wr hTr hf (by omega) (by omega) hm (hbyr.le (by omega))
          rw [Rn.nx_whole hwh, hfs1] at c1
          simp only [hfv] at c1
          have c2 : ∀ w5, Below wr.heap.size wr w5 → _ := fun w5 hb => take_whole w3.heap.size f k w5 (by omega) hf (tabs_below hTr hb (Nat.le_refl _)) (hd.below hb hszr) hwh
          simp only [hfv] at c2
          have c3 : ∀ w6, Below w3.heap.size w3 w6 → _ := fun w6 hb => good_any f (k + 1) g 0 cap w6 (tabs_below hT3 hb (Nat.le_refl _)) hf (by omega) hm ((hby3.below hb (Nat.le_refl _)).le (by omega))
          rw [Rn.good_whole hwh hfs1] at c3
          have heq : ((k : Int) + 1 == (m : Int)) = true := by simp; omega
          have hnl : ¬ ((k : Int) + 1 < (m : Int)) := by omega
          have HM := hide' hmk
          clear hdec hbyr hTr hE hd hwh hmk hfs1
          go_wp2_with fail
          refine c1.mono ?_
          rintro e w5 ⟨rfl, hb5⟩
          have hck5 : w5.cell? ⟨g, k, none⟩ = some (.int .u8 (f k)) := (hb5.cell (p := ⟨g, k, none⟩) (by show g < wr.heap.size; omega)).trans hck
          go_wp2_with fail
          refine (c2 w5 hb5).mono ?_
          rintro e w6 ⟨rfl, hd6, hb6⟩
          have hB6 : Below w3.heap.size w3 w6 := (hBr.trans (hb5.mono (by omega))).trans (hb6.below (Nat.le_refl _) (by have := hb5.size; omega))
          go_wp2_with fail
          refine (c3 w6 hB6).mono ?_
          rintro e w7 ⟨rfl, hb7⟩
          have hd7 := hd6.below hb7 (by have h1 := hb5.size; have h2 := hb6.size; omega)
          have hB7 : Below w3.heap.size w3 w7 := hB6.trans (hb7.mono hB6.size)
          have hs7 : w3.heap.size < w7.heap.size := by have h1 := hb5.size; have h2 := hb6.size; have h3 := hb7.size; omega
          go_wp2_with fail
          refine (pending_any w3.heap.size _ 0 false w7 hd7).mono ?_
          rintro e w8 ⟨rfl, rfl⟩
          go_wp2_with fail
          go_roundw
          case rel => exact ⟨k + 1, by go_num, by have := HM.out; omega, fun h => absurd h (by have := HM.out; omega), hB7, hs7⟩
          case measure => have := HM.out; simp [RowKit.intOf]; omega
      · obtain rfl : m = k := by omega
        go_wp2_with fail
        go_ret
        exact ⟨rfl, hB3.trans (hBr.mono hB3.size)⟩
end Go.Proofs.YtacmenmneilamaaDoor
