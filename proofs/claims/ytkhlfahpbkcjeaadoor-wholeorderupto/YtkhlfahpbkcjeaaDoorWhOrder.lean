/-
  WALKS over gimlettop.whole and gimlettop.WholeOrder: of any two texts.
-/
import Derived.Test.YtkhlfahpbkcjeaaDoorWdLawOrder
namespace Go.Proofs.YtkhlfahpbkcjeaaDoor
open Go.RowKit Go.Shelf

namespace Wd
/-- is no character from a place on a U+FFFD of one byte? -/
def gb (f : Nat → Nat) (n : Nat) : Nat → Nat → Bool
  | 0, _ => true
  | fuel + 1, p => if p < n then !decide ((Rn.dec (Rn.off f p) (n - p)).1 = 65533 ∧ (Rn.dec (Rn.off f p) (n - p)).2 = 1) && gb f n fuel (p + (Rn.dec (Rn.off f p) (n - p)).2) else true
theorem gb_end (f : Nat → Nat) (n fuel p : Nat) (h : ¬ p < n) : gb f n fuel p = true := by
  cases fuel with
  | zero => rfl
  | succ m => unfold gb; rw [if_neg h]
theorem gb_step (f : Nat → Nat) (n fuel p : Nat) (h : p < n) : gb f n (fuel + 1) p = (!decide ((Rn.dec (Rn.off f p) (n - p)).1 = 65533 ∧ (Rn.dec (Rn.off f p) (n - p)).2 = 1) && gb f n fuel (p + (Rn.dec (Rn.off f p) (n - p)).2)) := by
  show (if p < n then _ else _) = _
  rw [if_pos h]
/-- the last character read is a U+FFFD of one byte -/
def pnd (pos last was : Nat) : Bool := decide (0 < pos ∧ was = 65533 ∧ pos = last + 1)
theorem lf_left (A B : List UInt8) (j : Nat) (h : j < A.length) : Rn.lf (A ++ B) j = Rn.lf A j := by
  unfold Rn.lf
  rw [List.getElem?_append_left h]
theorem lf_right (A B : List UInt8) (j : Nat) (h : A.length ≤ j) : Rn.lf (A ++ B) j = Rn.lf B (j - A.length) := by
  unfold Rn.lf
  rw [List.getElem?_append_right h]
theorem lf_drop (l : List UInt8) (p j : Nat) : Rn.lf (l.drop p) j = Rn.lf l (p + j) := by
  unfold Rn.lf
  rw [List.getElem?_drop]
theorem gb_all (l : List UInt8) : ∀ fuel p, l.length ≤ p + fuel → gb (Rn.lf l) l.length fuel p = true → Rn.cat (rs (Rn.lf l) l.length fuel p) = l.drop p
  | 0, p, hp, _ => by
    rw [List.drop_eq_nil_of_le (by omega)]
    rfl
  | fuel + 1, p, hp, h => by
    by_cases hlt : p < l.length
    · rw [gb_step _ _ _ _ hlt, Bool.and_eq_true] at h
      obtain ⟨h1, h2⟩ := h
      have hd := Rn.dec_pos (Rn.off (Rn.lf l) p) (l.length - p) (fun _ => Rn.lf_lt l _) (by omega)
      have hw := Rn.dec_whole (Rn.off (Rn.lf l) p) (l.length - p) (fun _ => Rn.lf_lt l _) (by omega)
      cases hwh : Rn.whole (Rn.off (Rn.lf l) p) (l.length - p)
      · rw [hwh] at hw
        simp only [Bool.false_eq_true, if_false] at hw
        rw [hw] at h1
        simp at h1
      · rw [hwh] at hw
        simp only [if_true] at hw
        obtain ⟨e1, e2⟩ := Rn.enc_fv _ _ hwh
        have ih := gb_all l fuel (p + (Rn.dec (Rn.off (Rn.lf l) p) (l.length - p)).2) (by omega) h2
        have hstep : rs (Rn.lf l) l.length (fuel + 1) p = (Rn.dec (Rn.off (Rn.lf l) p) (l.length - p)).1 :: rs (Rn.lf l) l.length fuel (p + (Rn.dec (Rn.off (Rn.lf l) p) (l.length - p)).2) := by
          show (if p < l.length then _ else _) = _
          rw [if_pos hlt]
        rw [hstep, Rn.cat_cons, ih]
        rw [hw] at hd ⊢
        simp only [] at hd ⊢
        apply Rn.lf_ext
        · rw [List.length_append, Rn.enc_length, e1, List.length_drop, List.length_drop]
          omega
        · intro j hj
          rw [List.length_append, Rn.enc_length, e1, List.length_drop] at hj
          by_cases hjl : j < Rn.fs (Rn.off (Rn.lf l) p) (l.length - p)
          · rw [lf_left _ _ _ (by rw [Rn.enc_length, e1]; exact hjl), Rn.enc_get, e2 j hjl, lf_drop]
            rfl
          · rw [lf_right _ _ _ (by rw [Rn.enc_length, e1]; omega), Rn.enc_length, e1, lf_drop, lf_drop]
            congr 1
            omega
    · rw [rs_end _ _ _ _ hlt, List.drop_eq_nil_of_le (by omega)]
      rfl
/-- a text that is characters all through is its characters' bytes -/
theorem gb_tx (l : List UInt8) (h : gb (Rn.lf l) l.length l.length 0 = true) : Rn.tx (R (Rn.lf l) l.length 0) = Rn.arr (Rn.lf l) l.length := by
  have := gb_all l l.length 0 (by omega) h
  rw [List.drop_zero] at this
  have e : Rn.cat (R (Rn.lf l) l.length 0) = l := this
  rw [tx_eq, e, Rn.arr_lf]
end Wd

set_option maxRecDepth 100000 in
set_option maxHeartbeats 4000000 in
theorem whole_any (f : Nat → Nat) (n : Nat) (w : World) (hf : ∀ j, f j < 256) (hn : n ≤ 4611686018427387904) :
    Calls Tryd.prog 13 #[.string (Rn.arr f n)] w fun e w' => e = .returned (.bool (Wd.gb f n n 0)) ∧ Below w.heap.size w w' := by
  have hsz := Rn.arr_size f n
  obtain ⟨G, hG⟩ : ∃ G, G = Wd.gb f n n 0 := ⟨_, rfl⟩
  rw [← hG]
  have HG := hide' hG
  clear hG
  go_enter Tryd.func13, Tryd.ntmps13
  go_wp2
  go_loopw [3, 4, 5] (fun a b c wr => ∃ (pos fuel last was : Nat) (wrong : Bool), a = .int .i64 last ∧ b = .bool wrong ∧ c = .int .i32 was ∧ wr.heap[w.heap.size]? = some (.stringIter (Rn.arr f n) pos) ∧
      Hid (G = (!wrong && (!Wd.pnd pos last was && Wd.gb f n fuel pos))) ∧ n ≤ pos + fuel ∧ pos ≤ n ∧ last ≤ pos ∧ Below w.heap.size w wr)
    (fun _ _ _ wr => n - wr.iterPos w.heap.size)
  case atStart => exact ⟨0, n, 0, 0, false, rfl, rfl, rfl, World.iter_heap w _ 0, by show G = _; rw [HG.out]; simp [Wd.pnd], by omega, by omega, by omega, (Below.refl _ _).alloc (Nat.le_refl _) _⟩
  case round =>
    obtain ⟨pos, fuel, last, was, wrong, rfl, rfl, rfl, hit, hk, hfu, hpn, hlp, hB⟩ := hrel
    by_cases hlt : pos < n
    · have hnx : ∀ ty, (Instr.next (.pointer (some ⟨w.heap.size, 0, none⟩)) true ty).run Tryd.prog wr = _ := fun ty => Lib.run_next_any_at wr w.heap.size (Rn.arr f n) pos ty hit (by rw [hsz]; exact hlt)
      rw [Rn.arr_decode f n pos hf hlt] at hnx
      obtain ⟨q, rfl⟩ : ∃ q, fuel = q + 1 := ⟨fuel - 1, by omega⟩
      have hk2 := hk.out
      rw [Wd.gb_step _ _ _ _ hlt] at hk2
      obtain ⟨hd1, hd2, hd3⟩ := Rn.dec_pos (Rn.off f pos) (n - pos) (fun _ => hf _) (by omega)
      have hit2 := Lib.iterAt_heap wr w.heap.size (Rn.arr f n) pos (pos + (Rn.dec (Rn.off f pos) (n - pos)).2) hit
      have hB2 := Lib.below_iterAt hB (Nat.le_refl _) (Rn.arr f n) (pos + (Rn.dec (Rn.off f pos) (n - pos)).2)
      generalize (Rn.dec (Rn.off f pos) (n - pos)).1 = r at *
      generalize (Rn.dec (Rn.off f pos) (n - pos)).2 = d at *
      have hpd : Wd.pnd (pos + d) pos r = decide (r = 65533 ∧ d = 1) := by
        unfold Wd.pnd
        rw [Bool.eq_iff_iff]
        simp only [decide_eq_true_eq]
        omega
      rw [← hpd] at hk2
      have HK := hide' hk2
      have hp9 : pos ≤ 4611686018427387904 := by omega
      clear hk hk2 hpd
      cases wrong
      · by_cases h1 : 0 < pos
        · have h1i : (0 : Int) < (pos : Int) := by omega
          by_cases h2 : was = 65533
          · subst h2
            by_cases h3 : pos = last + 1
            · have h3i : (pos : Int) - (last : Int) = 1 := by omega
              have hp : Hid (Wd.pnd pos last 65533 = true) := by
                show _ = _
                unfold Wd.pnd
                rw [decide_eq_true_eq]
                exact ⟨h1, rfl, h3⟩
              clear h3
              go_wp2
              go_roundw
              case rel => exact ⟨pos + d, q, pos, r, true, rfl, rfl, rfl, hit2, by rw [HK.out, hp.out]; rfl, by omega, by omega, by omega, hB2⟩
              case measure => simp only [World.iterPos, hit2, hit]; omega
            · have h3i : ((pos : Int) - (last : Int) == 1) = false := by simp; omega
              have hp : Hid (Wd.pnd pos last 65533 = false) := by
                show _ = _
                unfold Wd.pnd
                rw [decide_eq_false_iff_not]
                exact fun h => h3 h.2.2
              clear h3
              go_wp2
              go_roundw
              case rel => exact ⟨pos + d, q, pos, r, false, rfl, rfl, rfl, hit2, by rw [HK.out, hp.out]; rfl, by omega, by omega, by omega, hB2⟩
              case measure => simp only [World.iterPos, hit2, hit]; omega
          · have h2i : ((was : Int) == 65533) = false := by simp; omega
            have hp : Hid (Wd.pnd pos last was = false) := by
              show _ = _
              unfold Wd.pnd
              rw [decide_eq_false_iff_not]
              exact fun h => h2 h.2.1
            go_wp2
            go_roundw
            case rel => exact ⟨pos + d, q, pos, r, false, rfl, rfl, rfl, hit2, by rw [HK.out, hp.out]; rfl, by omega, by omega, by omega, hB2⟩
            case measure => simp only [World.iterPos, hit2, hit]; omega
        · have h1i : ¬ (0 : Int) < (pos : Int) := by omega
          have hp : Hid (Wd.pnd pos last was = false) := by
            show _ = _
            unfold Wd.pnd
            rw [decide_eq_false_iff_not]
            exact fun h => h1 h.1
          go_wp2
          go_roundw
          case rel => exact ⟨pos + d, q, pos, r, false, rfl, rfl, rfl, hit2, by rw [HK.out, hp.out]; rfl, by omega, by omega, by omega, hB2⟩
          case measure => simp only [World.iterPos, hit2, hit]; omega
      · go_wp2
        go_roundw
        case rel => exact ⟨pos + d, q, pos, r, true, rfl, rfl, rfl, hit2, by rw [HK.out]; rfl, by omega, by omega, by omega, hB2⟩
        case measure => simp only [World.iterPos, hit2, hit]; omega
    · have hnx : ∀ ty, (Instr.next (.pointer (some ⟨w.heap.size, 0, none⟩)) true ty).run Tryd.prog wr = _ := fun ty => Lib.run_next_end_at wr w.heap.size (Rn.arr f n) pos ty hit (by rw [hsz]; exact hlt)
      have hk2 := hk.out
      rw [Wd.gb_end f n _ _ hlt, Bool.and_true] at hk2
      obtain rfl : pos = n := by omega
      have HK := hide' hk2
      clear hk hk2
      have hl9 : last ≤ 4611686018427387904 := by omega
      cases wrong
      · by_cases h1 : 0 < pos
        · have h1i : (0 : Int) < (pos : Int) := by omega
          by_cases h2 : was = 65533
          · subst h2
            by_cases h3 : pos = last + 1
            · have h3i : (pos : Int) - (last : Int) = 1 := by omega
              have hp : Hid (Wd.pnd pos last 65533 = true) := by
                show _ = _
                unfold Wd.pnd
                rw [decide_eq_true_eq]
                exact ⟨h1, rfl, h3⟩
              clear h3
              go_wp2
              go_ret
              exact ⟨ret_bool (by rw [HK.out, hp.out]; rfl), hB⟩
            · have h3i : ((pos : Int) - (last : Int) == 1) = false := by simp; omega
              have hp : Hid (Wd.pnd pos last 65533 = false) := by
                show _ = _
                unfold Wd.pnd
                rw [decide_eq_false_iff_not]
                exact fun h => h3 h.2.2
              clear h3
              go_wp2
              go_ret
              exact ⟨ret_bool (by rw [HK.out, hp.out]; rfl), hB⟩
          · have h2i : ((was : Int) == 65533) = false := by simp; omega
            have hp : Hid (Wd.pnd pos last was = false) := by
              show _ = _
              unfold Wd.pnd
              rw [decide_eq_false_iff_not]
              exact fun h => h2 h.2.1
            go_wp2
            go_ret
            exact ⟨ret_bool (by rw [HK.out, hp.out]; rfl), hB⟩
        · have h1i : ¬ (0 : Int) < (pos : Int) := by omega
          have hp : Hid (Wd.pnd pos last was = false) := by
            show _ = _
            unfold Wd.pnd
            rw [decide_eq_false_iff_not]
            exact fun h => h1 h.1
          go_wp2
          go_ret
          exact ⟨ret_bool (by rw [HK.out, hp.out]; rfl), hB⟩
      · go_wp2
        go_ret
        exact ⟨ret_bool (by rw [HK.out]; rfl), hB⟩

theorem cmp_self (L : List Nat) : Wd.cmp L L = 0 := by
  unfold Wd.cmp
  rw [Wd.fu_same]
  exact Wd.cm_eq _

set_option maxRecDepth 100000 in
set_option maxHeartbeats 4000000 in
theorem lawWholeOrder_any (l k : List UInt8) (w : World) (hT : Lib.Utf8Tabs 0 1 w) (hn : l.length ≤ 1099511627776) (hm : k.length ≤ 1099511627776) :
    Calls Tryd.prog 4 #[.string (Rn.arr (Rn.lf l) l.length), .string (Rn.arr (Rn.lf k) k.length)] w fun e w' => e = .returned (.bool true) ∧ Below w.heap.size w w' := by
  have q1 := compare_any (Rn.lf [97, 195, 169]) 3 (Rn.lf [97, 122]) 2 w (Rn.lf_lt _) (Rn.lf_lt _) hT
  rw [show Rn.arr (Rn.lf [97, 195, 169]) 3 = ⟨#[97, 195, 169]⟩ from by decide +kernel, show Rn.arr (Rn.lf [97, 122]) 2 = ⟨#[97, 122]⟩ from by decide +kernel, show Wd.cmp (Wd.R (Rn.lf [97, 195, 169]) 3 0) (Wd.R (Rn.lf [97, 122]) 2 0) = 1 from by decide +kernel] at q1
  have q2 : ∀ w1, Below w.heap.size w w1 → _ := fun w1 hb => compare_any (Rn.lf [255]) 1 (Rn.lf [240, 144, 144, 128]) 4 w1 (Rn.lf_lt _) (Rn.lf_lt _) (tabs_below hT hb (Nat.le_refl _))
  rw [show Rn.arr (Rn.lf [255]) 1 = ⟨#[255]⟩ from by decide +kernel, show Rn.arr (Rn.lf [240, 144, 144, 128]) 4 = ⟨#[240, 144, 144, 128]⟩ from by decide +kernel, show Wd.cmp (Wd.R (Rn.lf [255]) 1 0) (Wd.R (Rn.lf [240, 144, 144, 128]) 4 0) = -1 from by decide +kernel] at q2
  have c1 := fun w1 => whole_any (Rn.lf l) l.length w1 (Rn.lf_lt _) (by omega)
  have c2 := fun w1 => whole_any (Rn.lf k) k.length w1 (Rn.lf_lt _) (by omega)
  have c3 : ∀ w1, Below w.heap.size w w1 → _ := fun w1 hb => compare_any (Rn.lf l) l.length (Rn.lf l) l.length w1 (Rn.lf_lt _) (Rn.lf_lt _) (tabs_below hT hb (Nat.le_refl _))
  have c4 : ∀ w1, Below w.heap.size w w1 → _ := fun w1 hb => compare_any (Rn.lf k) k.length (Rn.lf l) l.length w1 (Rn.lf_lt _) (Rn.lf_lt _) (tabs_below hT hb (Nat.le_refl _))
  have c5 : ∀ w1, Below w.heap.size w w1 → _ := fun w1 hb => compare_any (Rn.lf l) l.length (Rn.lf k) k.length w1 (Rn.lf_lt _) (Rn.lf_lt _) (tabs_below hT hb (Nat.le_refl _))
  rw [cmp_self] at c3
  have hx1 := Wd.gb_tx l
  have hx2 := Wd.gb_tx k
  have hb := Wd.both (Wd.R (Rn.lf l) l.length 0) (Wd.R (Rn.lf k) k.length 0) (Wd.R_scal _ _ _ (Rn.lf_lt _)) (Wd.R_scal _ _ _ (Rn.lf_lt _))
  have hb2 := Wd.both (Wd.R (Rn.lf k) k.length 0) (Wd.R (Rn.lf l) l.length 0) (Wd.R_scal _ _ _ (Rn.lf_lt _)) (Wd.R_scal _ _ _ (Rn.lf_lt _))
  rw [Wd.cmp_swap (Wd.R (Rn.lf l) l.length 0) (Wd.R (Rn.lf k) k.length 0)] at c4 hb2
  have c6 := fun w1 => length_any (Rn.lf l) l.length w1 (Rn.lf_lt _) (by omega)
  have k1 := fun w1 => conv_runes (Rn.lf l) l.length w1 (Rn.lf_lt _) (by omega)
  rw [Wd.R_rl] at k1
  clear hT
  generalize Rn.arr (Rn.lf l) l.length = s at *
  generalize Rn.arr (Rn.lf k) k.length = t at *
  generalize Wd.gb (Rn.lf l) l.length l.length 0 = g1 at *
  generalize Wd.gb (Rn.lf k) k.length k.length 0 = g2 at *
  generalize Wd.R (Rn.lf l) l.length 0 = L at *
  generalize Wd.R (Rn.lf k) k.length 0 = M at *
  generalize Wd.cmp L M = c at *
  have hcb : -1 ≤ c ∧ c ≤ 1 := by have := hb.five; omega
  have hcc : (-c == -c) = true := by simp
  have hca : (c == c) = true := by simp
  by_cases hg : g1 = true ∧ g2 = true
  · obtain ⟨rfl, rfl⟩ := hg
    have hl1 := hb.less
    have hl2 := hb2.less
    rw [hx1 rfl, hx2 rfl] at hl1
    rw [hx1 rfl, hx2 rfl] at hl2
    have hLL : ((L.length : Int) == (L.length : Int)) = true := by simp
    clear hx1 hx2 hb hb2 c3 c4
    have h3 : c = -1 ∨ c = 0 ∨ c = 1 := by omega
    go_enter Tryd.func4, Tryd.ntmps4
    go_wp2_with fail
    refine q1.mono ?_
    rintro e w1 ⟨rfl, hB1⟩
    go_wp2_with fail
    refine (q2 w1 hB1).mono ?_
    rintro e w2 ⟨rfl, hb2⟩
    have hB2 := hB1.trans (hb2.mono hB1.size)
    go_wp2_with fail
    refine (c1 w2).mono ?_
    rintro e w3 ⟨rfl, hb3⟩
    have hB3 := hB2.trans (hb3.mono hB2.size)
    go_wp2_with fail
    refine (c2 w3).mono ?_
    rintro e w4 ⟨rfl, hb4⟩
    have hB4 := hB3.trans (hb4.mono hB3.size)
    clear q1 q2 c1 c2 hB1 hB2 hB3 hb2 hb3 hb4
    have c5' := c5 w4 hB4
    clear c5
    rcases h3 with rfl | rfl | rfl
    all_goals
      first
        | rw [show decide ((-1 : Int) < 0) = true from by decide] at hl1
        | rw [show decide ((0 : Int) < 0) = false from by decide] at hl1
        | rw [show decide ((1 : Int) < 0) = false from by decide] at hl1
      first
        | rw [show decide (-(-1 : Int) < 0) = false from by decide] at hl2
        | rw [show decide (-(0 : Int) < 0) = false from by decide] at hl2
        | rw [show decide (-(1 : Int) < 0) = true from by decide] at hl2
      go_wp2_with fail
      refine c5'.mono ?_
      rintro e w5 ⟨rfl, hb5⟩
      have hB5 := hB4.trans (hb5.mono hB4.size)
      go_wp2_with fail
      refine (c6 w5).mono ?_
      rintro e w6 ⟨rfl, hb6⟩
      have hB6 := hB5.trans (hb6.mono hB5.size)
      obtain ⟨cap, w7, r7, -, -, -, hb7, -⟩ := k1 w6
      have hB7 := hB6.trans (hb7.mono hB6.size)
      clear c6 k1
      go_wp2_with fail
      go_ret
      exact ⟨ret_bool (by simp), hB7⟩
  · clear hx1 hx2 hb hb2 k1 c6
    cases g1
    · go_enter Tryd.func4, Tryd.ntmps4
      go_wp2_with fail
      refine q1.mono ?_
      rintro e w1 ⟨rfl, hB1⟩
      go_wp2_with fail
      refine (q2 w1 hB1).mono ?_
      rintro e w2 ⟨rfl, hb2⟩
      have hB2 := hB1.trans (hb2.mono hB1.size)
      go_wp2_with fail
      refine (c1 w2).mono ?_
      rintro e w3 ⟨rfl, hb3⟩
      have hB3 := hB2.trans (hb3.mono hB2.size)
      go_wp2_with fail
      refine (c3 w3 hB3).mono ?_
      rintro e w4 ⟨rfl, hb4⟩
      have hB4 := hB3.trans (hb4.mono hB3.size)
      go_wp2_with fail
      refine (c4 w4 hB4).mono ?_
      rintro e w5 ⟨rfl, hb5⟩
      have hB5 := hB4.trans (hb5.mono hB4.size)
      go_wp2_with fail
      refine (c5 w5 hB5).mono ?_
      rintro e w6 ⟨rfl, hb6⟩
      have hB6 := hB5.trans (hb6.mono hB5.size)
      go_wp2_with fail
      go_ret
      exact ⟨ret_bool (by simp), hB6⟩
    · obtain rfl : g2 = false := by
        cases g2
        · rfl
        · exact absurd ⟨rfl, rfl⟩ hg
      clear hg
      go_enter Tryd.func4, Tryd.ntmps4
      go_wp2_with fail
      refine q1.mono ?_
      rintro e w1 ⟨rfl, hB1⟩
      go_wp2_with fail
      refine (q2 w1 hB1).mono ?_
      rintro e w2 ⟨rfl, hb2⟩
      have hB2 := hB1.trans (hb2.mono hB1.size)
      go_wp2_with fail
      refine (c1 w2).mono ?_
      rintro e w3 ⟨rfl, hb3⟩
      have hB3 := hB2.trans (hb3.mono hB2.size)
      go_wp2_with fail
      refine (c2 w3).mono ?_
      rintro e v3 ⟨rfl, hbv3⟩
      have hBv3 := hB3.trans (hbv3.mono hB3.size)
      go_wp2_with fail
      refine (c3 v3 hBv3).mono ?_
      rintro e w4 ⟨rfl, hb4⟩
      have hB4 := hBv3.trans (hb4.mono hBv3.size)
      go_wp2_with fail
      refine (c4 w4 hB4).mono ?_
      rintro e w5 ⟨rfl, hb5⟩
      have hB5 := hB4.trans (hb5.mono hB4.size)
      go_wp2_with fail
      refine (c5 w5 hB5).mono ?_
      rintro e w6 ⟨rfl, hb6⟩
      have hB6 := hB5.trans (hb6.mono hB5.size)
      go_wp2_with fail
      go_ret
      exact ⟨ret_bool (by simp), hB6⟩
end Go.Proofs.YtkhlfahpbkcjeaaDoor
