import Derived.Test.YtcggkbgbfgkaiaaDoorFdPlc
import Derived.Test.YtcggkbgbfgkaiaaDoorRnRunes
import Derived.Test.YtcggkbgbfgkaiaaDoorRnStr
import Derived.Test.YtcggkbgbfgkaiaaDoorWfLit
/-
  THE WALK over gimlettop.whole, of any text; and what it tells of a text, in a Feed's words.
-/
namespace Go.Proofs.YtcggkbgbfgkaiaaDoor
open Go.RowKit Go.Lib Go.Shelf

namespace Wd
/-- is no character from a place on a U+FFFD of one byte? -/
def gb (f : Nat → Nat) (n : Nat) : Nat → Nat → Bool
  | 0, _ => true
  | fuel + 1, p => if p < n then !decide ((Rn.dec (Rn.off f p) (n - p)).1 = 65533 ∧ (Rn.dec (Rn.off f p) (n - p)).2 = 1) && gb f n fuel (p + (Rn.dec (Rn.off f p) (n - p)).2) else true
theorem gb_end (f : Nat → Nat) (n fuel p : Nat) (h : ¬ p < n) : gb f n fuel p = true := by
  cases fuel with
  | zero => rfl
  | succ m => unfold gb; rw [if_neg h]
theorem gb_step (f : Nat → Nat) (n fuel p : Nat) (h : p < n) : gb f n (fuel + 1) p = (!decide ((Rn.dec (Rn.off f p) (n - p)).1 = 65533 ∧ (Rn.dec (Rn.off f p) (n - p)).2 = 1) && gb f n fuel (p + (Rn.dec (Rn.off f p) (n - p)).2)) := by
  show (if p < n then _ else _) = _
  rw [if_pos h]
/-- the last character read is a U+FFFD of one byte -/
def pnd (pos last was : Nat) : Bool := decide (0 < pos ∧ was = 65533 ∧ pos = last + 1)
theorem gb_run {f : Nat → Nat} {n p q : Nat} (hf : ∀ j, f j < 256) (h : Fd.Run f n p q) : ∀ fuel, n ≤ p + fuel → ∃ fuel', n ≤ q + fuel' ∧ gb f n fuel p = gb f n fuel' q := by
  induction h with
  | refl p => exact fun fuel h => ⟨fuel, h, rfl⟩
  | @step p q h r ih =>
    intro fuel hp
    obtain ⟨a1, a2, a3, a4⟩ := Fd.whole_lt h
    obtain ⟨m, rfl⟩ : ∃ m, fuel = m + 1 := ⟨fuel - 1, by omega⟩
    have hd := Rn.dec_whole (Rn.off f p) (n - p) (fun _ => hf _) (by omega)
    rw [h, if_pos rfl] at hd
    obtain ⟨m', h1, h2⟩ := ih m (by omega)
    refine ⟨m', h1, ?_⟩
    rw [gb_step _ _ _ _ (by omega), hd, ← h2]
    have : decide (Rn.fv (Rn.off f p) = 65533 ∧ Rn.fs (Rn.off f p) (n - p) = 1) = false := by
      rw [decide_eq_false_iff_not]
      rintro ⟨e1, e2⟩
      have := (Rn.enc_fv _ _ h).1
      rw [e1, e2] at this
      revert this
      decide +kernel
    rw [this]
    rfl
theorem gb_good {f : Nat → Nat} {n : Nat} (hf : ∀ j, f j < 256) (h : Fd.Run f n 0 n) : gb f n n 0 = true := by
  obtain ⟨m, _, e⟩ := gb_run hf h n (by omega)
  rw [e, gb_end _ _ _ _ (by omega)]
theorem gb_bad {f : Nat → Nat} {n p : Nat} (hf : ∀ j, f j < 256) (h : Fd.Run f n 0 p) (hp : p < n) (hw : Rn.whole (Rn.off f p) (n - p) = false) : gb f n n 0 = false := by
  obtain ⟨m, hm, e⟩ := gb_run hf h n (by omega)
  obtain ⟨m, rfl⟩ : ∃ k, m = k + 1 := ⟨m - 1, by omega⟩
  have hd := Rn.dec_whole (Rn.off f p) (n - p) (fun _ => hf _) (by omega)
  rw [hw] at hd
  simp only [Bool.false_eq_true, if_false] at hd
  rw [e, gb_step _ _ _ _ hp, hd]
  rfl
theorem plc_chs (f : Nat → Nat) (n a : Nat) (hf : ∀ j, f j < 256) : ∀ (fuel p rn ln co : Nat), (Rn.plcFrom f n a fuel p rn ln co).1 = rn + (Rn.chFrom f a hf fuel p).length
  | 0, p, rn, ln, co => rfl
  | fuel + 1, p, rn, ln, co => by
    unfold Rn.plcFrom Rn.chFrom
    by_cases h : p < a
    · rw [if_neg (by omega), dif_pos h]
      have ih := plc_chs f n a hf fuel (p + (Rn.dec (Rn.off f p) (a - p)).2) (rn + 1)
      split
      · rw [ih]; simp; omega
      · rw [ih]; simp; omega
    · rw [if_pos (by omega), dif_neg h]
      rfl
theorem plc_len (f : Nat → Nat) (n a : Nat) (hf : ∀ j, f j < 256) : (Rn.rl (Rn.chs f a hf)).length = (Rn.plc f n a).1 := by
  unfold Rn.plc Rn.chs
  rw [plc_chs f n a hf]
  simp [Rn.rl]
theorem pk_wrong {f : Nat → Nat} {n p : Nat} (hp : p < n) (hw : Rn.whole (Rn.off f p) (n - p) = false) : (Fd.pk f n p true).2.2.2 = 2 := by
  unfold Fd.pk
  rw [if_neg (by simp [hw]), if_neg (by omega)]
  split <;> rfl
theorem pk_whole {f : Nat → Nat} {n p : Nat} (hw : Rn.whole (Rn.off f p) (n - p) = true) : (Fd.pk f n p true).2.2.2 = 0 := by
  unfold Fd.pk
  rw [if_pos hw]
  repeat' split
  all_goals first | rfl | simp_all
theorem run_of_pk {f : Nat → Nat} {n T : Nat} (h0 : (Fd.pk f n T true).2.2.2 = 0) : Fd.Run f n T (T + (Fd.pk f n T true).2.2.1) := by
  obtain ⟨x, hx⟩ : ∃ x, Fd.pk f n T true = x := ⟨_, rfl⟩
  obtain ⟨r, a, w, k⟩ := x
  rw [hx] at h0 ⊢
  obtain rfl : k = 0 := h0
  exact (Fd.pk_have hx).2.2.1
end Wd

/-- the text of the bytes that came in -/
theorem conv_arg {w : World} {f : Nat → Nat} {n cap : Nat} {pa : Option Addr} (hf : ∀ j, f j < 256) (h : 0 < n → ∃ b o, pa = some ⟨b, o, none⟩ ∧ Bytes w b o n f) : (convert 22 9 (.slice pa n cap)).run Tryd.prog w = .ok (.string (Rn.arr f n)) w := by
  cases pa with
  | none =>
    obtain rfl : n = 0 := by
      rcases Nat.eq_zero_or_pos n with h0 | h0
      · exact h0
      · obtain ⟨b, o, e, _⟩ := h h0
        cases e
    rw [run_convert_bytes_nil (P := Tryd.prog) w 22 5 Tryd.underlying22 Tryd.underlying5 0 cap 9 Tryd.underlying9]
    rfl
  | some ad =>
    have hh := run_convert_bytes_back (P := Tryd.prog) w 22 9 5 ad cap (Rn.arr f n).data.toList Tryd.underlying22 Tryd.underlying5 Tryd.underlying9 (fun j hj => by
      have hj' : j < n := by simpa [Rn.arr] using hj
      obtain ⟨b, o, e, hb⟩ := h (by omega)
      obtain rfl : ad = ⟨b, o, none⟩ := by injection e
      have hc := hb j hj'
      rw [show (Addr.add ⟨b, o, none⟩ j) = ⟨b, o + j, none⟩ from by simp [Addr.add], hc]
      have e : ((Rn.arr f n).data.toList[j]).toNat = f j := by
        simp [Rn.arr]
        have := hf j
        omega
      rw [e])
    have e1 : (Rn.arr f n).data.toList.length = n := by simp [Rn.arr]
    rw [e1] at hh
    simpa using hh

set_option maxRecDepth 100000 in
set_option maxHeartbeats 4000000 in
theorem whole_any (f : Nat → Nat) (n : Nat) (w : World) (hf : ∀ j, f j < 256) (hn : n ≤ 4611686018427387904) :
    Calls Tryd.prog 14 #[.string (Rn.arr f n)] w fun e w' => e = .returned (.bool (Wd.gb f n n 0)) ∧ Below w.heap.size w w' := by
  have hsz := Rn.arr_size f n
  obtain ⟨G, hG⟩ : ∃ G, G = Wd.gb f n n 0 := ⟨_, rfl⟩
  rw [← hG]
  have HG := hide' hG
  clear hG
  go_enter Tryd.func14, Tryd.ntmps14
  go_wp2
  go_loopw [3, 4, 5] (fun a b c wr => ∃ (pos fuel last was : Nat) (wrong : Bool), a = .int .i64 last ∧ b = .bool wrong ∧ c = .int .i32 was ∧ wr.heap[w.heap.size]? = some (.stringIter (Rn.arr f n) pos) ∧
      Hid (G = (!wrong && (!Wd.pnd pos last was && Wd.gb f n fuel pos))) ∧ n ≤ pos + fuel ∧ pos ≤ n ∧ last ≤ pos ∧ Below w.heap.size w wr)
    (fun _ _ _ wr => n - wr.iterPos w.heap.size)
  case atStart => exact ⟨0, n, 0, 0, false, rfl, rfl, rfl, World.iter_heap w _ 0, by show G = _; rw [HG.out]; simp [Wd.pnd], by omega, by omega, by omega, (Below.refl _ _).alloc (Nat.le_refl _) _⟩
  case round =>
    obtain ⟨pos, fuel, last, was, wrong, rfl, rfl, rfl, hit, hk, hfu, hpn, hlp, hB⟩ := hrel
    by_cases hlt : pos < n
    · have hnx : ∀ ty, (Instr.next (.pointer (some ⟨w.heap.size, 0, none⟩)) true ty).run Tryd.prog wr = _ := fun ty => Lib.run_next_any_at wr w.heap.size (Rn.arr f n) pos ty hit (by rw [hsz]; exact hlt)
      rw [Rn.arr_decode f n pos hf hlt] at hnx
      obtain ⟨q, rfl⟩ : ∃ q, fuel = q + 1 := ⟨fuel - 1, by omega⟩
      have hk2 := hk.out
      rw [Wd.gb_step _ _ _ _ hlt] at hk2
      obtain ⟨hd1, hd2, hd3⟩ := Rn.dec_pos (Rn.off f pos) (n - pos) (fun _ => hf _) (by omega)
      have hit2 := Lib.iterAt_heap wr w.heap.size (Rn.arr f n) pos (pos + (Rn.dec (Rn.off f pos) (n - pos)).2) hit
      have hB2 := Lib.below_iterAt hB (Nat.le_refl _) (Rn.arr f n) (pos + (Rn.dec (Rn.off f pos) (n - pos)).2)
      generalize (Rn.dec (Rn.off f pos) (n - pos)).1 = r at *
      generalize (Rn.dec (Rn.off f pos) (n - pos)).2 = d at *
      have hpd : Wd.pnd (pos + d) pos r = decide (r = 65533 ∧ d = 1) := by
        unfold Wd.pnd
        rw [Bool.eq_iff_iff]
        simp only [decide_eq_true_eq]
        omega
      rw [← hpd] at hk2
      have HK := hide' hk2
      have hp9 : pos ≤ 4611686018427387904 := by omega
      clear hk hk2 hpd
      cases wrong
      · by_cases h1 : 0 < pos
        · have h1i : (0 : Int) < (pos : Int) := by omega
          by_cases h2 : was = 65533
          · subst h2
            by_cases h3 : pos = last + 1
            · have h3i : (pos : Int) - (last : Int) = 1 := by omega
              have hp : Hid (Wd.pnd pos last 65533 = true) := by
                show _ = _
                unfold Wd.pnd
                rw [decide_eq_true_eq]
                exact ⟨h1, rfl, h3⟩
              clear h3
              go_wp2
              go_roundw
              case rel => exact ⟨pos + d, q, pos, r, true, rfl, rfl, rfl, hit2, by rw [HK.out, hp.out]; rfl, by omega, by omega, by omega, hB2⟩
              case measure => simp only [World.iterPos, hit2, hit]; omega
            · have h3i : ((pos : Int) - (last : Int) == 1) = false := by simp; omega
              have hp : Hid (Wd.pnd pos last 65533 = false) := by
                show _ = _
                unfold Wd.pnd
                rw [decide_eq_false_iff_not]
                exact fun h => h3 h.2.2
              clear h3
              go_wp2
              go_roundw
              case rel => exact ⟨pos + d, q, pos, r, false, rfl, rfl, rfl, hit2, by rw [HK.out, hp.out]; rfl, by omega, by omega, by omega, hB2⟩
              case measure => simp only [World.iterPos, hit2, hit]; omega
          · have h2i : ((was : Int) == 65533) = false := by simp; omega
            have hp : Hid (Wd.pnd pos last was = false) := by
              show _ = _
              unfold Wd.pnd
              rw [decide_eq_false_iff_not]
              exact fun h => h2 h.2.1
            go_wp2
            go_roundw
            case rel => exact ⟨pos + d, q, pos, r, false, rfl, rfl, rfl, hit2, by rw [HK.out, hp.out]; rfl, by omega, by omega, by omega, hB2⟩
            case measure => simp only [World.iterPos, hit2, hit]; omega
        · have h1i : ¬ (0 : Int) < (pos : Int) := by omega
          have hp : Hid (Wd.pnd pos last was = false) := by
            show _ = _
            unfold Wd.pnd
            rw [decide_eq_false_iff_not]
            exact fun h => h1 h.1
          go_wp2
          go_roundw
          case rel => exact ⟨pos + d, q, pos, r, false, rfl, rfl, rfl, hit2, by rw [HK.out, hp.out]; rfl, by omega, by omega, by omega, hB2⟩
          case measure => simp only [World.iterPos, hit2, hit]; omega
      · go_wp2
        go_roundw
        case rel => exact ⟨pos + d, q, pos, r, true, rfl, rfl, rfl, hit2, by rw [HK.out]; rfl, by omega, by omega, by omega, hB2⟩
        case measure => simp only [World.iterPos, hit2, hit]; omega
    · have hnx : ∀ ty, (Instr.next (.pointer (some ⟨w.heap.size, 0, none⟩)) true ty).run Tryd.prog wr = _ := fun ty => Lib.run_next_end_at wr w.heap.size (Rn.arr f n) pos ty hit (by rw [hsz]; exact hlt)
      have hk2 := hk.out
      rw [Wd.gb_end f n _ _ hlt, Bool.and_true] at hk2
      obtain rfl : pos = n := by omega
      have HK := hide' hk2
      clear hk hk2
      have hl9 : last ≤ 4611686018427387904 := by omega
      cases wrong
      · by_cases h1 : 0 < pos
        · have h1i : (0 : Int) < (pos : Int) := by omega
          by_cases h2 : was = 65533
          · subst h2
            by_cases h3 : pos = last + 1
            · have h3i : (pos : Int) - (last : Int) = 1 := by omega
              have hp : Hid (Wd.pnd pos last 65533 = true) := by
                show _ = _
                unfold Wd.pnd
                rw [decide_eq_true_eq]
                exact ⟨h1, rfl, h3⟩
              clear h3
              go_wp2
              go_ret
              exact ⟨ret_bool (by rw [HK.out, hp.out]; rfl), hB⟩
            · have h3i : ((pos : Int) - (last : Int) == 1) = false := by simp; omega
              have hp : Hid (Wd.pnd pos last 65533 = false) := by
                show _ = _
                unfold Wd.pnd
                rw [decide_eq_false_iff_not]
                exact fun h => h3 h.2.2
              clear h3
              go_wp2
              go_ret
              exact ⟨ret_bool (by rw [HK.out, hp.out]; rfl), hB⟩
          · have h2i : ((was : Int) == 65533) = false := by simp; omega
            have hp : Hid (Wd.pnd pos last was = false) := by
              show _ = _
              unfold Wd.pnd
              rw [decide_eq_false_iff_not]
              exact fun h => h2 h.2.1
            go_wp2
            go_ret
            exact ⟨ret_bool (by rw [HK.out, hp.out]; rfl), hB⟩
        · have h1i : ¬ (0 : Int) < (pos : Int) := by omega
          have hp : Hid (Wd.pnd pos last was = false) := by
            show _ = _
            unfold Wd.pnd
            rw [decide_eq_false_iff_not]
            exact fun h => h1 h.1
          go_wp2
          go_ret
          exact ⟨ret_bool (by rw [HK.out, hp.out]; rfl), hB⟩
      · go_wp2
        go_ret
        exact ⟨ret_bool (by rw [HK.out]; rfl), hB⟩

end Go.Proofs.YtcggkbgbfgkaiaaDoor
/-
  THE WALK over gimlettop.WholeFeeds.
-/
namespace Go.Proofs.YtcggkbgbfgkaiaaDoor
open Go.RowKit Go.Lib

set_option maxRecDepth 100000 in
set_option maxHeartbeats 4000000 in
theorem lawWholeFeeds_any (f : Nat → Nat) (pa : Option Addr) (n cap : Nat) (pc : Option Addr) (c capc : Nat) (g : Nat → Int) (w : World) (hT : Lib.Utf8Tabs 0 1 w) (hf : ∀ j, f j < 256) (hc : n ≤ cap) (hm : cap ≤ 9223372036854775807) (hn : n ≤ 1048576) (hcc : c ≤ 1048576)
    (hpa : 0 < n → ∃ b o, pa = some ⟨b, o, none⟩ ∧ Bytes w b o n f ∧ b < w.heap.size) (hpc : 0 < c → ∃ b o, pc = some ⟨b, o, none⟩ ∧ b < w.heap.size ∧ ∀ j, j < c → w.cell? ⟨b, o + j, none⟩ = some (.int .i64 (g j))) :
    Calls Tryd.prog 4 #[.slice pa n cap, .slice pc c capc] w fun e w' => e = .returned (.bool true) ∧ Below w.heap.size w w' := by
  obtain ⟨L, hL⟩ : ∃ L, Fd.tk f n true n 0 (0, 1, 1) = L := ⟨_, rfl⟩
  obtain ⟨S, hS⟩ : ∃ S, Fd.tkE f n true n 0 (0, 1, 1) = S := ⟨_, rfl⟩
  have hLn : L.length ≤ n := by rw [← hL]; exact Fd.tk_length f n true n 0 (0, 1, 1)
  have HLS := hide' (And.intro hL hS)
  clear hL hS
  obtain ⟨Y, hY⟩ : ∃ Y : Nat, (Fd.pk f n S.1 true).2.2.2 = Y := ⟨_, rfl⟩
  have cP1 : ∀ W, Below w.heap.size w W → _ := fun W hb => topPieces_any f pa n cap none 0 0 g W hc hm hn (by omega) (fun h0 => by
    obtain ⟨b, o, e, hby, hlt⟩ := hpa h0
    exact ⟨b, o, e, hby.below hb (Nat.le_refl _), Nat.lt_of_lt_of_le hlt hb.size⟩) (fun h => absurd h (by omega))
  have cP2 : ∀ W, Below w.heap.size w W → _ := fun W hb => topPieces_any f pa n cap pc c capc g W hc hm hn hcc (fun h0 => by
    obtain ⟨b, o, e, hby, hlt⟩ := hpa h0
    exact ⟨b, o, e, hby.below hb (Nat.le_refl _), Nat.lt_of_lt_of_le hlt hb.size⟩) (fun h0 => by
    obtain ⟨b, o, e, hlt, hcell⟩ := hpc h0
    exact ⟨b, o, e, Nat.lt_of_lt_of_le hlt hb.size, fun j hj => (hb.cell (p := ⟨b, o + j, none⟩) hlt).trans (hcell j hj)⟩)
  have cRd : ∀ W, Below w.heap.size w W → ∀ (pv : Option Addr) (cv : Nat) (vs : List Value) (B0 : Nat), vs.length ≤ n → W.ownsRow B0 22 1 (.slice pv vs.length cv) vs.length vs → Pcs W f vs 0 n → _ := fun W hb pv cv vs B0 hl ho hp => topRead_any f n pv cv vs B0 W (tabs_below hT hb (Nat.le_refl _)) hf hn (by omega) ho hp L S HLS.out.1 HLS.out.2
  rw [hY] at cRd
  have HP := hide' (And.intro hpa (And.intro hpc (And.intro hT hY)))
  clear hY
  clear hpa hpc hT
  go_enter Tryd.func4, Tryd.ntmps4
  have cR0 := read_lit w HP.out.2.2.1
  go_wp2_with fail
  refine cR0.mono ?_
  rintro e w1 ⟨o1, rfl, ho1, hb1⟩
  obtain ⟨g1, k1, cur1, rfl, hg1, hg2, hk1⟩ : ∃ g1 k1 cur1, o1 = .slice (some ⟨g1, 0, none⟩) 2 k1 ∧ w1.heap[g1]? = some (.cells cur1 45 (0, 0)) ∧ g1 < w1.heap.size ∧ 2 ≤ k1 := by
    rcases ho1.2 with ⟨_, h⟩ | ⟨g1, k1, cur1, e1, _, e3, e4, _⟩
    · omega
    · exact ⟨g1, k1, cur1, e1, e3, (Array.getElem?_eq_some_iff.1 e3).1, e4⟩
  have x0 : w1.cell? ⟨g1, 0, none⟩ = some (.int .i32 233) := by
    have := ho1.cells (g := g1) rfl 0 (.int .i32 233) rfl
    exact this
  have x6 : w1.cell? ⟨g1, 6, none⟩ = some (.int .i32 10) := by
    have := ho1.cells (g := g1) rfl 6 (.int .i32 10) rfl
    exact this
  have x11 : w1.cell? ⟨g1, 11, none⟩ = some (.int .i64 2) := by
    have := ho1.cells (g := g1) rfl 11 (.int .i64 2) rfl
    exact this
  have HB1 := hide' hb1
  clear cR0 ho1 hb1
  go_wp2_with fail
  have hA2 : Below w.heap.size w (w1.alloc (.cells #[.int .i64 4, .int .i64 3, .int .i64 2, .int .i64 1] 40)) := HB1.out.alloc HB1.out.size _
  refine (cP1 _ hA2).mono ?_
  rintro e wp2 ⟨v2, vs2, rfl, hv2, hp2, hbp2, hl2⟩
  obtain ⟨pv2, cv2, rfl, -⟩ := Wh.owns_slice hv2
  have hB2p := hA2.trans (hbp2.mono hA2.size)
  have cR2 := cRd _ hB2p pv2 cv2 vs2 _ hl2 hv2 hp2
  have HQ2 := hide' hB2p
  clear hv2 hp2 hbp2 hB2p
  go_wp2_with fail
  refine cR2.mono ?_
  rintro e wr2 ⟨o2, rfl, ho2, hbr2⟩
  obtain ⟨po2, co2, rfl⟩ := fc_slice ho2
  have hBr2 := HQ2.out.trans (hbr2.mono HQ2.out.size)
  obtain ⟨W2, hW2⟩ : ∃ W2, W2 = wr2.alloc (.cells #[.int .i64 (S.1 : Nat), .int .i64 (S.2.1 : Nat), .int .i64 (S.2.2.1 : Nat), .int .i64 (S.2.2.2 : Nat)] 40) := ⟨_, rfl⟩
  have hal2 : Below wr2.heap.size wr2 W2 := by rw [hW2]; exact (Below.refl _ _).alloc (Nat.le_refl _) _
  have hA3 : Below w.heap.size w W2 := hBr2.trans (hal2.mono hBr2.size)
  have hx2 : W2.heap[wr2.heap.size]? = some (.cells #[.int .i64 (S.1 : Nat), .int .i64 (S.2.1 : Nat), .int .i64 (S.2.2.1 : Nat), .int .i64 (S.2.2.2 : Nat)] 40 (0, 0)) := by rw [hW2]; exact heap_top _ _ rfl
  have ho2' := rrow_kept ho2 hal2
  have H2 := hide' (And.intro ho2' (And.intro hx2 (And.intro hA3 hW2)))
  have hs2 : wr2.heap.size < W2.heap.size := (Array.getElem?_eq_some_iff.1 hx2).1
  have cP2' := cP2 W2 hA3
  rw [hW2] at cP2'
  clear cR2 ho2 hbr2 hBr2 hal2 hA3 hx2 ho2' cP1 cP2 HQ2 HB1 x0 x6 x11 hg1 hg2 hk1 hA2
  have HW2 := hide' hW2
  clear hW2 hs2
  go_wp2_with fail
  refine cP2'.mono ?_
  rintro e wp3 ⟨v3, vs3, rfl, hv3, hp3, hbp3, hl3⟩
  obtain ⟨pv3, cv3, rfl, -⟩ := Wh.owns_slice hv3
  rw [← HW2.out] at hbp3 hv3
  obtain ⟨ho2, hx2, hA3, hW2⟩ := H2.out
  have hB3p := hA3.trans (hbp3.mono hA3.size)
  have cR3 := cRd _ hB3p pv3 cv3 vs3 _ hl3 hv3 hp3
  have ho2p := rrow_kept ho2 hbp3
  have hx2p := (hbp3.block wr2.heap.size (Array.getElem?_eq_some_iff.1 hx2).1).trans hx2
  have H3 := hide' (And.intro hB3p (And.intro ho2p hx2p))
  clear hv3 hp3 hbp3 hB3p ho2p hx2p ho2 hx2 hA3 hW2 H2 cP2' cRd
  go_wp2_with fail
  refine cR3.mono ?_
  rintro e wr3 ⟨o3, rfl, ho3, hbr3⟩
  obtain ⟨po3, co3, rfl⟩ := fc_slice ho3
  obtain ⟨hB3p, ho2p, hx2p⟩ := H3.out
  have hB3 := hB3p.trans (hbr3.mono hB3p.size)
  have ho2r := rrow_kept ho2p hbr3
  have hx2r := (hbr3.block wr2.heap.size (Array.getElem?_eq_some_iff.1 hx2p).1).trans hx2p
  obtain ⟨W3, hW3⟩ : ∃ W3, W3 = wr3.alloc (.cells #[.int .i64 (S.1 : Nat), .int .i64 (S.2.1 : Nat), .int .i64 (S.2.2.1 : Nat), .int .i64 (S.2.2.2 : Nat)] 40) := ⟨_, rfl⟩
  have hal3 : Below wr3.heap.size wr3 W3 := by rw [hW3]; exact (Below.refl _ _).alloc (Nat.le_refl _) _
  have hx3 : W3.heap[wr3.heap.size]? = some (.cells #[.int .i64 (S.1 : Nat), .int .i64 (S.2.1 : Nat), .int .i64 (S.2.2.1 : Nat), .int .i64 (S.2.2.2 : Nat)] 40 (0, 0)) := by rw [hW3]; exact heap_top _ _ rfl
  have hx2w := (hal3.block wr2.heap.size (Array.getElem?_eq_some_iff.1 hx2r).1).trans hx2r
  have a0 : wr3.cell? ⟨wr2.heap.size, 0, none⟩ = some (.int .i64 (S.1 : Nat)) := by rw [Lib.cell_of_heap hx2r]; rfl
  have a1 : wr3.cell? ⟨wr2.heap.size, 1, none⟩ = some (.int .i64 (S.2.1 : Nat)) := by rw [Lib.cell_of_heap hx2r]; rfl
  have a2 : wr3.cell? ⟨wr2.heap.size, 2, none⟩ = some (.int .i64 (S.2.2.1 : Nat)) := by rw [Lib.cell_of_heap hx2r]; rfl
  have a3 : wr3.cell? ⟨wr2.heap.size, 3, none⟩ = some (.int .i64 (S.2.2.2 : Nat)) := by rw [Lib.cell_of_heap hx2r]; rfl
  have hlt2 : wr2.heap.size < wr3.heap.size := (Array.getElem?_eq_some_iff.1 hx2r).1
  have hne2 : ¬ wr3.heap.size = wr2.heap.size := by omega
  have H4 := hide' (And.intro (hB3.trans (hal3.mono hB3.size)) (And.intro (rrow_kept ho2r hal3) (And.intro (rrow_kept ho3 hal3) hW3)))
  clear cR3 ho3 hbr3 hB3p ho2p hx2p hB3 ho2r hx2r hal3 hx3 hx2w H3 hW3
  have hLm : L.length ≤ 9223372036854775807 := by omega
  go_wp2
  clear a0 a1 a2 a3
  rw [← H4.out.2.2.2]
  go_loopw [102] (fun i wr => ∃ k : Nat, i = .int .i64 k ∧ k ≤ L.length ∧ Below W3.heap.size W3 wr) (fun i _ => L.length - (RowKit.intOf i).toNat)
  case atStart => exact ⟨0, rfl, Nat.zero_le _, Below.refl _ _⟩
  case round =>
    obtain ⟨k, rfl, hk, hB⟩ := hrel
    by_cases hkl : k < L.length
    · have u1 : (k : Int) < L.length := by omega
      obtain ⟨q1, rfl⟩ := fc_some H4.out.2.1 (by omega)
      obtain ⟨q2, rfl⟩ := fc_some H4.out.2.2.1 (by omega)
      obtain ⟨a0, a1, a2, a3, a4, a5⟩ := fc_six (rrow_kept H4.out.2.1 hB) k hkl
      obtain ⟨b0, b1, b2, b3, b4, b5⟩ := fc_six (rrow_kept H4.out.2.2.1 hB) k hkl
      generalize L[k] = x at *
      obtain ⟨x0', x1', ⟨x2', x3', x4'⟩, x5'⟩ := x
      dsimp only at a0 a1 a2 a3 a4 a5 b0 b1 b2 b3 b4 b5
      go_wp2
      go_quiet (fail)
      go_wp2
      go_roundw
      case rel => exact ⟨k + 1, by go_num, by omega, below_drewN hB _⟩
      case measure => simp [RowKit.intOf]; omega
    · obtain rfl : k = L.length := by omega
      have u1 : ¬ (L.length : Int) < L.length := by omega
      have hBw : Below w.heap.size w wr := H4.out.1.trans (hB.mono H4.out.1.size)
      have hcv0 := conv_arg (w := wr) (cap := cap) hf (fun h0 => by
        obtain ⟨b, o, e, hby, hlt⟩ := HP.out.1 h0
        exact ⟨b, o, e, hby.below hBw (Nat.le_refl _)⟩)
      have HO := hide' (rrow_kept H4.out.2.1 hB)
      have cW := fun W => whole_any f n W hf (by omega)
      have hsz := Rn.arr_size f n
      have HBw := hide' hBw
      obtain ⟨G, hG⟩ : ∃ G, Wd.gb f n n 0 = G := ⟨_, rfl⟩
      rw [hG] at cW
      have HG := hide' hG
      clear hBw hG H4 hB
      obtain ⟨W5, hW5⟩ : ∃ W5, W5 = wr := ⟨_, rfl⟩
      rw [← hW5] at hcv0 HO HBw ⊢
      clear hW5
      go_wp2
      clear hcv0
      go_loopw [17, 19] (fun kn wa wr => ∃ (pos k T wv : Nat) (b : Bool), kn = .int .i64 k ∧ wa = .int .i32 wv ∧ wr.heap[W5.heap.size]? = some (.stringIter (Rn.arr f n) pos) ∧ Below W5.heap.size W5 wr ∧ pos ≤ n ∧ k ≤ L.length ∧ wv < 2097152 ∧
          Hid (Fd.Run f n 0 pos ∧ Fd.Run f n 0 T ∧ L.drop k = Fd.tk f n true (n - T) T (Rn.plc f n T) ∧ Fd.tkE f n true (n - T) T (Rn.plc f n T) = S) ∧ (b = true → T = pos + 1 ∧ f pos = 10 ∧ pos < n ∧ wv = 13) ∧ (b = false → T = pos ∧ (wv = 13 → pos < n → f pos ≠ 10))) (fun _ _ wr => n - wr.iterPos W5.heap.size)
      case atStart =>
        refine ⟨0, 0, 0, 0, false, rfl, rfl, World.iter_heap W5 _ 0, (Below.refl _ _).alloc (Nat.le_refl _) _, Nat.zero_le _, Nat.zero_le _, by omega, ⟨.refl _, .refl _, ?_, ?_⟩, (fun e => by cases e), fun _ => ⟨rfl, fun e => by cases e⟩⟩
        · rw [List.drop_zero, Nat.sub_zero]
          exact HLS.out.1.symm
        · rw [Nat.sub_zero]
          exact HLS.out.2
      case round =>
        obtain ⟨pos, k, T, wv, b, rfl, rfl, hit, hB, hpn, hkL, hwv, hI, hb1, hb0⟩ := hrel
        by_cases hlt : pos < n
        · have hnx : ∀ ty, (Instr.next (.pointer (some ⟨W5.heap.size, 0, none⟩)) true ty).run Tryd.prog wr = _ := fun ty => Lib.run_next_any_at wr W5.heap.size (Rn.arr f n) pos ty hit (by rw [hsz]; exact hlt)
          rw [Rn.arr_decode f n pos hf hlt] at hnx
          have hd := Rn.dec_whole (Rn.off f pos) (n - pos) (fun _ => hf _) (by omega)
          cases b with
          | true =>
            obtain ⟨rfl, e2, -, rfl⟩ := hb1 rfl
            obtain ⟨s1, s2, s3⟩ := Fd.small_whole (f := Rn.off f pos) (n := n - pos) (by show f (pos + 0) < 128; rw [Nat.add_zero, e2]; omega) (by omega)
            have s4 : Rn.fv (Rn.off f pos) = 10 := by rw [s3]; show f (pos + 0) = 10; rw [Nat.add_zero, e2]
            rw [s1, if_pos rfl, s2, s4] at hd
            rw [hd] at hnx
            dsimp only at hnx
            have hit2 := Lib.iterAt_heap wr W5.heap.size (Rn.arr f n) pos (pos + 1) hit
            have hB2 := Lib.below_iterAt hB (Nat.le_refl _) (Rn.arr f n) (pos + 1)
            have hR1 := Fd.Run.one s1
            rw [s2] at hR1
            have HI := hide' (And.intro (hI.out.1.trans hR1) hI.out.2)
            clear hI hb1 hb0 s1 s2 s3 s4 hR1 hd hf
            go_wp2
            go_roundw
            case rel => exact ⟨pos + 1, k, pos + 1, 10, false, rfl, rfl, hit2, hB2, by omega, by omega, by omega, HI.out, (fun e => by cases e), fun _ => ⟨rfl, fun e => by cases e⟩⟩
            case measure => simp only [World.iterPos, hit2, hit]; omega
          | false =>
            obtain ⟨rfl, hnot⟩ := hb0 rfl
            cases hwh : Rn.whole (Rn.off f T) (n - T)
            · rw [hwh] at hd
              simp only [Bool.false_eq_true, if_false] at hd
              rw [hd] at hnx
              dsimp only at hnx
              obtain ⟨I1, I2, I3, I4⟩ := hI.out
              have hp2 := Wd.pk_wrong hlt hwh
              obtain ⟨t1, t2⟩ := Fd.tk_stop (E := true) (Rn.plc f n T) (by rw [hp2]; omega)
              rw [t1] at I3
              rw [t2] at I4
              have hkk : k = L.length := by
                have := congrArg List.length I3
                rw [List.length_drop, List.length_nil] at this
                omega
              have hGf : G = false := by rw [← HG.out]; exact Wd.gb_bad hf I1 hlt hwh
              have hY2 : Y = 2 := by rw [← HP.out.2.2.2, ← I4]; exact hp2
              have hB2 := Lib.below_iterAt hB (Nat.le_refl _) (Rn.arr f n) (T + 1)
              clear hI hb1 hb0 I1 I2 I3 I4 hp2 t1 t2 hnot HG
              clear HP
              subst hkk hY2 hGf
              have HB2 := hide' hB2
              clear hB2 hd hwh
              go_wp2_with fail
              refine (cW _).mono ?_
              rintro e w9 ⟨rfl, hb9⟩
              go_wp2
              go_ret
              exact ⟨rfl, HBw.out.trans ((HB2.out.trans (hb9.mono HB2.out.size)).mono HBw.out.size)⟩
            · rw [hwh, if_pos rfl] at hd
              rw [hd] at hnx
              dsimp only at hnx
              obtain ⟨I1, I2, I3, I4⟩ := hI.out
              have hR1 := I1.trans (Fd.Run.one hwh)
              have hcr := Fd.whole_cr hwh
              obtain ⟨v1, v2, v3, v4⟩ := Fd.whole_lt hwh
              have h0 := Wd.pk_whole hwh
              have hpl := Fd.plc_adv hf I2 h0
              obtain ⟨t1, t2⟩ := Fd.tk_step (Rn.plc f n T) h0
              rw [← hpl] at t1 t2
              rw [t1] at I3
              rw [t2] at I4
              have hkl : k < L.length := by
                have := congrArg List.length I3
                rw [List.length_drop, List.length_cons] at this
                omega
              rw [List.drop_eq_getElem_cons hkl] at I3
              obtain ⟨I6, I7⟩ := List.cons.inj I3
              have hR2 := I2.trans (Wd.run_of_pk h0)
              obtain ⟨q1, rfl⟩ := fc_some HO.out (by omega)
              have hit2 := Lib.iterAt_heap wr W5.heap.size (Rn.arr f n) T (T + Rn.fs (Rn.off f T) (n - T)) hit
              have hB2 := Lib.below_iterAt hB (Nat.le_refl _) (Rn.arr f n) (T + Rn.fs (Rn.off f T) (n - T))
              obtain ⟨w5, hw5⟩ : ∃ w5, wr.iterAt W5.heap.size (Rn.arr f n) (T + Rn.fs (Rn.off f T) (n - T)) = w5 := ⟨_, rfl⟩
              rw [hw5] at hnx hit2 hB2
              have hi1 : W5.heap.size < w5.heap.size := (Array.getElem?_eq_some_iff.1 hit2).1
              obtain ⟨cap6, W6, hcv, g1, g2, -, hb6, hz6, -⟩ := conv_runes f T w5.drew hf (by omega)
              have hex : (Rn.arr f n).extract 0 T = Rn.arr f T := by rw [Rn.arr_extract f n 0 T (Nat.zero_le _) (by omega), Rn.off_zero, Nat.sub_zero]
              rw [Wd.plc_len f n T hf] at hcv g1
              have hb6' : Below w5.heap.size w5 W6 := (Below.refl w5.heap.size w5).drew.trans hb6
              have hB6 := hB2.trans (hb6'.mono (by omega))
              have hit6 := (hb6'.block W5.heap.size hi1).trans hit2
              obtain ⟨z0, z1, z2, -, -, -⟩ := fc_six (rrow_kept HO.out hB2) k hkl
              rw [I6] at z0 z1 z2
              dsimp only at z0 z1 z2
              obtain ⟨P, hP⟩ : ∃ P, (Rn.plc f n T).1 = P := ⟨_, rfl⟩
              rw [hP] at hcv g1 z2
              have hkp : ∀ j v, w5.cell? ⟨q1, j, none⟩ = some v → W6.cell? ⟨q1, j, none⟩ = some v := fun j v h => (hb6'.cell (p := ⟨q1, j, none⟩) (block_lt_of_cell h)).trans h
              have hmm : W6.iterPos W5.heap.size = T + Rn.fs (Rn.off f T) (n - T) := by simp only [World.iterPos, hit6]
              have HKP := hide' hkp
              have HMM := hide' hmm
              have HIT6 := hide' hit6
              have HB6 := hide' hB6
              have HI := hide' (And.intro hR1 (And.intro hR2 (And.intro I7 I4)))
              have gk : ((k : Int) == (L.length : Int)) = false := by simp; omega
              have hk9 : (k : Int) + 1 ≤ 4194304 := by omega
              have g9 : cap6 ≤ 9223372036854775807 := by unfold maxLen at g2; omega
              have hTi : (T : Int) ≤ (n : Int) := by omega
              have hT0 : (0 : Int) ≤ (T : Int) := by omega
              have hki : (k : Int) < (L.length : Int) := by omega
              have hPP : ((P : Int) != (P : Int)) = false := by simp
              have hTT : ((T : Int) != (T : Int)) = false := by simp
              clear hI hb1 hb0 I1 I2 I3 I4 I6 I7 hR1 hR2 hmm hit6 hB6 hb6 hb6' hz6 hw5 hit2 hB2 hP t1 t2 hpl hd cW hkp
              by_cases h13 : Rn.fv (Rn.off f T) = 13
              · obtain ⟨c1, c2⟩ := hcr.1 h13
                rw [h13] at hnx
                rw [c1] at HI HIT6 HMM
                by_cases h10 : T + 1 < n ∧ f (T + 1) = 10
                · have hpk : Fd.pk f n T true = (10, 0, 2, 0) := by unfold Fd.pk; rw [if_pos hwh, if_pos h13, if_pos h10.1, if_pos h10.2]
                  rw [hpk] at HI z0
                  dsimp only at HI z0
                  clear hcr hwh v1 v2 v3 v4 h0 h13 c1 c2 hnot hpk
                  have hS5 : w5.drew.cell? ⟨q1, k * 6, none⟩ = some (.int .i32 10) ∧ w5.drew.cell? ⟨q1, k * 6 + 1, none⟩ = some (.int .i64 (T : Nat)) ∧ w5.drew.cell? ⟨q1, k * 6 + 2, none⟩ = some (.int .i64 (P : Nat)) := ⟨z0, z1, z2⟩
                  have hS6 : W6.cell? ⟨q1, k * 6, none⟩ = some (.int .i32 10) ∧ W6.cell? ⟨q1, k * 6 + 1, none⟩ = some (.int .i64 (T : Nat)) ∧ W6.cell? ⟨q1, k * 6 + 2, none⟩ = some (.int .i64 (P : Nat)) := ⟨HKP.out _ _ z0, HKP.out _ _ z1, HKP.out _ _ z2⟩
                  clear z0 z1 z2
                  have HX := hide' h10
                  clear h10

                  go_wp2
                  go_region_held (fun w' => w'.cell? ⟨q1, k * 6, none⟩ = some (.int .i32 10) ∧ w'.cell? ⟨q1, k * 6 + 1, none⟩ = some (.int .i64 (T : Nat)) ∧ w'.cell? ⟨q1, k * 6 + 2, none⟩ = some (.int .i64 (P : Nat))) (first | (with_reducible exact hS5) | (with_reducible exact hS6)) (fail)
                  clear hS5 hS6
                  go_wp2
                  go_roundw
                  case rel => have h10 := HX.out; exact ⟨T + 1, k + 1, T + 2, 13, true, by go_num, rfl, HIT6.out, HB6.out, by omega, by omega, by omega, HI.out, (fun _ => ⟨by omega, h10.2, h10.1, rfl⟩), (fun e => by cases e)⟩
                  case measure =>
                    rw [HMM.out]
                    simp only [World.iterPos, hit]
                    omega
                · have hpk : Fd.pk f n T true = (10, 0, 1, 0) := by
                    unfold Fd.pk
                    rw [if_pos hwh, if_pos h13]
                    by_cases q : T + 1 < n
                    · rw [if_pos q, if_neg (fun e => h10 ⟨q, e⟩)]
                    · rw [if_neg q, if_pos rfl]
                  rw [hpk] at HI z0
                  dsimp only at HI z0
                  clear hcr hwh v1 v2 v3 v4 h0 h13 c1 c2 hnot hpk
                  have hS5 : w5.drew.cell? ⟨q1, k * 6, none⟩ = some (.int .i32 10) ∧ w5.drew.cell? ⟨q1, k * 6 + 1, none⟩ = some (.int .i64 (T : Nat)) ∧ w5.drew.cell? ⟨q1, k * 6 + 2, none⟩ = some (.int .i64 (P : Nat)) := ⟨z0, z1, z2⟩
                  have hS6 : W6.cell? ⟨q1, k * 6, none⟩ = some (.int .i32 10) ∧ W6.cell? ⟨q1, k * 6 + 1, none⟩ = some (.int .i64 (T : Nat)) ∧ W6.cell? ⟨q1, k * 6 + 2, none⟩ = some (.int .i64 (P : Nat)) := ⟨HKP.out _ _ z0, HKP.out _ _ z1, HKP.out _ _ z2⟩
                  clear z0 z1 z2
                  have HX := hide' h10
                  clear h10

                  go_wp2
                  go_region_held (fun w' => w'.cell? ⟨q1, k * 6, none⟩ = some (.int .i32 10) ∧ w'.cell? ⟨q1, k * 6 + 1, none⟩ = some (.int .i64 (T : Nat)) ∧ w'.cell? ⟨q1, k * 6 + 2, none⟩ = some (.int .i64 (P : Nat))) (first | (with_reducible exact hS5) | (with_reducible exact hS6)) (fail)
                  clear hS5 hS6
                  go_wp2
                  go_roundw
                  case rel => have h10 := HX.out; exact ⟨T + 1, k + 1, T + 1, 13, false, by go_num, rfl, HIT6.out, HB6.out, by omega, by omega, by omega, HI.out, (fun e => by cases e), (fun _ => ⟨rfl, fun _ e e2 => h10 ⟨e, e2⟩⟩)⟩
                  case measure =>
                    rw [HMM.out]
                    simp only [World.iterPos, hit]
                    omega
              · have hpk : Fd.pk f n T true = (Rn.fv (Rn.off f T), 0, Rn.fs (Rn.off f T) (n - T), 0) := by unfold Fd.pk; rw [if_pos hwh, if_neg h13]
                rw [hpk] at HI z0
                dsimp only at HI z0
                have hr21 : Rn.fv (Rn.off f T) < 2097152 := by
                  have := Rn.fv_scal _ _ hwh
                  unfold Rn.scal at this
                  omega
                have hsk : wv = 13 → Rn.fv (Rn.off f T) ≠ 10 := fun e1 e2 => by
                  have := (hcr.2.2.1 (by omega)).2
                  exact hnot e1 hlt (by rw [e2] at this; exact this.symm)
                have e13 : ((Rn.fv (Rn.off f T) : Int) == 13) = false := by simp; omega
                generalize Rn.fv (Rn.off f T) = r at *
                generalize Rn.fs (Rn.off f T) (n - T) = d at *
                have H13 := hide' h13
                clear hpk hcr hwh v3 h0 hnot h13
                by_cases hr : r = 10
                · subst hr
                  have ew : ((wv : Int) == 13) = false := by
                    have : wv ≠ 13 := fun e => hsk e rfl
                    simp; omega
                  clear hsk
                  have hS5 : w5.drew.cell? ⟨q1, k * 6, none⟩ = some (.int .i32 10) ∧ w5.drew.cell? ⟨q1, k * 6 + 1, none⟩ = some (.int .i64 (T : Nat)) ∧ w5.drew.cell? ⟨q1, k * 6 + 2, none⟩ = some (.int .i64 (P : Nat)) := ⟨z0, z1, z2⟩
                  have hS6 : W6.cell? ⟨q1, k * 6, none⟩ = some (.int .i32 10) ∧ W6.cell? ⟨q1, k * 6 + 1, none⟩ = some (.int .i64 (T : Nat)) ∧ W6.cell? ⟨q1, k * 6 + 2, none⟩ = some (.int .i64 (P : Nat)) := ⟨HKP.out _ _ z0, HKP.out _ _ z1, HKP.out _ _ z2⟩
                  clear z0 z1 z2

                  go_wp2
                  go_region_held (fun w' => w'.cell? ⟨q1, k * 6, none⟩ = some (.int .i32 10) ∧ w'.cell? ⟨q1, k * 6 + 1, none⟩ = some (.int .i64 (T : Nat)) ∧ w'.cell? ⟨q1, k * 6 + 2, none⟩ = some (.int .i64 (P : Nat))) (first | (with_reducible exact hS5) | (with_reducible exact hS6)) (fail)
                  clear hS5 hS6
                  go_wp2
                  go_roundw
                  case rel => exact ⟨T + d, k + 1, T + d, 10, false, by go_num, rfl, HIT6.out, HB6.out, by omega, by omega, by omega, HI.out, (fun e => by cases e), (fun _ => ⟨rfl, fun e => by cases e⟩)⟩
                  case measure =>
                    rw [HMM.out]
                    simp only [World.iterPos, hit]
                    omega
                · have e10 : ((r : Int) == 10) = false := by simp; omega
                  have hrr : ((r : Int) != (r : Int)) = false := by simp
                  clear hsk
                  have HR := hide' hr
                  clear hr
                  have hS5 : w5.drew.cell? ⟨q1, k * 6, none⟩ = some (.int .i32 (r : Nat)) ∧ w5.drew.cell? ⟨q1, k * 6 + 1, none⟩ = some (.int .i64 (T : Nat)) ∧ w5.drew.cell? ⟨q1, k * 6 + 2, none⟩ = some (.int .i64 (P : Nat)) := ⟨z0, z1, z2⟩
                  have hS6 : W6.cell? ⟨q1, k * 6, none⟩ = some (.int .i32 (r : Nat)) ∧ W6.cell? ⟨q1, k * 6 + 1, none⟩ = some (.int .i64 (T : Nat)) ∧ W6.cell? ⟨q1, k * 6 + 2, none⟩ = some (.int .i64 (P : Nat)) := ⟨HKP.out _ _ z0, HKP.out _ _ z1, HKP.out _ _ z2⟩
                  clear z0 z1 z2

                  go_wp2
                  go_region_held (fun w' => w'.cell? ⟨q1, k * 6, none⟩ = some (.int .i32 (r : Nat)) ∧ w'.cell? ⟨q1, k * 6 + 1, none⟩ = some (.int .i64 (T : Nat)) ∧ w'.cell? ⟨q1, k * 6 + 2, none⟩ = some (.int .i64 (P : Nat))) (first | (with_reducible exact hS5) | (with_reducible exact hS6)) (fail)
                  clear hS5 hS6
                  go_wp2
                  go_roundw
                  case rel => exact ⟨T + d, k + 1, T + d, r, false, by go_num, rfl, HIT6.out, HB6.out, by omega, by omega, by omega, HI.out, (fun e => by cases e), (fun _ => ⟨rfl, fun e => absurd e H13.out⟩)⟩
                  case measure =>
                    rw [HMM.out]
                    simp only [World.iterPos, hit]
                    omega
        · obtain rfl : pos = n := by omega
          have hnx : ∀ ty, (Instr.next (.pointer (some ⟨W5.heap.size, 0, none⟩)) true ty).run Tryd.prog wr = _ := fun ty => Lib.run_next_end_at wr W5.heap.size (Rn.arr f pos) pos ty hit (by rw [hsz]; exact hlt)
          have hbf : b = false := by
            cases b with
            | false => rfl
            | true => have := (hb1 rfl).2.2.1; omega
          obtain rfl : T = pos := (hb0 hbf).1
          obtain ⟨I1, I2, I3, I4⟩ := hI.out
          have hp3 := Fd.pk_done f T
          obtain ⟨t1, t2⟩ := Fd.tk_stop (E := true) (Rn.plc f T T) (by rw [hp3]; omega)
          rw [t1] at I3
          rw [t2] at I4
          have hkk : k = L.length := by
            have := congrArg List.length I3
            rw [List.length_drop, List.length_nil] at this
            omega
          have hGf : G = true := by rw [← HG.out]; exact Wd.gb_good hf I1
          have hY2 : Y = 3 := by rw [← HP.out.2.2.2, ← I4]; exact hp3
          clear hI hb1 hb0 I1 I2 I3 I4 hp3 t1 t2 HG
          clear HP
          subst hkk hY2 hGf
          have HB2 := hide' hB
          clear hB
          go_wp2_with fail
          refine (cW _).mono ?_
          rintro e w9 ⟨rfl, hb9⟩
          go_wp2
          go_ret
          exact ⟨rfl, HBw.out.trans ((HB2.out.trans (hb9.mono HB2.out.size)).mono HBw.out.size)⟩
end Go.Proofs.YtcggkbgbfgkaiaaDoor
