/-
  THE WALK over gimletlaw04.FeedChars.
-/
import Derived.Test.YtbfabpjhdhhpfaaDoorFdPlc
namespace Go.Proofs.YtbfabpjhdhhpfaaDoor
open Go.RowKit Go.Lib

namespace Fd
theorem encode_scal (r : Nat) (hr : Rn.scal r) : (Utf8.encode (r : Int)).size = Rn.el r := by
  unfold Rn.scal at hr
  have hv : Utf8.valid (r : Int) = true := by
    unfold Utf8.valid
    simp
    omega
  unfold Utf8.encode
  rw [if_pos hv]
  simp only [Int.toNat_natCast]
  unfold Rn.el Lib.encodeRuneZ
  by_cases h1 : r < 128
  · rw [if_pos h1, if_pos (by omega)]
    rfl
  · have k1 : ¬ (0 ≤ (r : Int) ∧ (r : Int) ≤ 127) := by omega
    rw [if_neg h1, if_neg k1]
    by_cases h2 : r < 2048
    · rw [if_pos h2, if_pos (by omega)]
      rfl
    · have k2 : ¬ (128 ≤ (r : Int) ∧ (r : Int) ≤ 2047) := by omega
      rw [if_neg h2, if_neg k2]
      by_cases h3 : r < 65536
      · rw [if_pos h3, if_pos (by omega)]
        rfl
      · have k3 : ¬ (2048 ≤ (r : Int) ∧ (r : Int) < 55296 ∨ 57343 < (r : Int) ∧ (r : Int) ≤ 65535) := by omega
        rw [if_neg h3, if_neg k3, if_pos (by omega)]
        rfl
end Fd
set_option maxRecDepth 100000 in
set_option maxHeartbeats 1000000 in
theorem lawChars_any (l : List UInt8) (pc : Option Addr) (c capc : Nat) (g : Nat → Int) (w : World) (hT : Lib.Utf8Tabs 0 1 w) (hl : l.length ≤ 1048576) (hcc : c ≤ 1048576) (hpc : Cuts w pc c g) :
    Calls Tryd.prog 5 #[.string ⟨l.toArray⟩, .slice pc c capc] w fun e w' => e = .returned (.bool true) ∧ Below w.heap.size w w' := by
  have cA := feedAwake_any w hT
  have cutsB : ∀ {W : World}, Below w.heap.size w W → Cuts W pc c g := by
    intro W hb h0
    obtain ⟨b, o, e, hlt, hcell⟩ := hpc h0
    exact ⟨b, o, e, Nat.lt_of_lt_of_le hlt hb.size, fun j hj => (hb.cell (p := ⟨b, o + j, none⟩) hlt).trans (hcell j hj)⟩
  have cM := fun W => mend_any (Rn.lf l) l.length W (Rn.lf_lt l) (by omega)
  rw [Rn.arr_lf, Rn.md_cat] at cM
  have hsc := Rn.chs_scal (Rn.lf l) l.length (Rn.lf_lt l)
  generalize Rn.rl (Rn.chs (Rn.lf l) l.length (Rn.lf_lt l)) = K at *
  have hrun0 := Fd.run_cat (Rn.cat K) K hsc [] rfl
  have hM := Rn.arr_lf (Rn.cat K)
  obtain ⟨f, hf0⟩ : ∃ f, Rn.lf (Rn.cat K) = f := ⟨_, rfl⟩
  have hf : ∀ j, f j < 256 := by rw [← hf0]; exact Rn.lf_lt _
  obtain ⟨n, hn0⟩ : ∃ n, (Rn.cat K).length = n := ⟨_, rfl⟩
  rw [hf0, hn0] at hM hrun0
  rw [← hM, hn0] at cM
  have hrun : Fd.Run f n 0 n := hrun0
  clear hM hrun0 hf0 hn0 hsc
  have cP := fun W cap hc hm hn (hb : Below w.heap.size w W) (b : Nat) (hby : Bytes W b 0 n f ∧ b < W.heap.size) => pieces_any f (some ⟨b, 0, none⟩) n cap pc c capc g W (tabs_below hT hb (Nat.le_refl _)) hf hc hm hn hcc (fun _ => ⟨b, 0, rfl, hby⟩) (cutsB hb)
  have HE := hide' (And.intro (Fd.tkE_run n 0 (0, 1, 1) (by omega) hrun) hrun)
  have hsz := Rn.arr_size f n
  clear hT hpc cutsB hrun
  go_enter Tryd.func5, Tryd.ntmps5
  go_wp2_with fail
  refine cA.mono ?_
  rintro e w1 ⟨rfl, hb1⟩
  have cM1 := cM w1
  clear cA cM
  go_wp2_with fail
  refine cM1.mono ?_
  rintro e w2 ⟨rfl, hb2, hnl⟩
  have hB2 := hb1.trans (hb2.mono hb1.size)
  clear cM1 hb1 hb2
  have hcv := Lib.run_convert_string_bytes (P := Tryd.prog) w2 9 27 5 (Rn.arr f n) Tryd.underlying9 Tryd.underlying27 Tryd.underlying5
  rw [Rn.arr_size] at hcv
  have hby := bytes_bytesWorld w2 5 f n hf
  have hbw := below_bytesWorld w2 5 (Rn.arr f n)
  have hsw := Lib.bytesWorld_size w2 5 (Rn.arr f n)
  have hg1 := grownCap_ge w2 n 0 5
  have hg2 := grownCap_le_maxLen w2 n 0 5 (by unfold maxLen; omega)
  unfold maxLen at hg2
  generalize bytesWorld w2 5 (Rn.arr f n) = W2 at *
  generalize grownCap w2 n 0 5 = cap at *
  have hBW := hB2.trans (hbw.mono hB2.size)
  have cP2 := cP W2 cap hg1 hg2 (by omega) hBW w2.heap.size ⟨hby, by omega⟩
  unfold drainV at cP2
  have h3 : (Fd.pk f n (Fd.tkE f n true n 0 (0, 1, 1)).1 true).2.2.2 = 3 := by
    have := HE.out.1
    rw [Nat.sub_zero] at this
    rw [this]
    exact Fd.pk_done f n
  rw [h3] at cP2
  generalize Fd.pkY (Fd.pk f n (Fd.tkE f n true n 0 (0, 1, 1)).1 true) (Fd.tkE f n true n 0 (0, 1, 1)).1 (Fd.tkE f n true n 0 (0, 1, 1)).2 = Y at *
  obtain ⟨L, hL⟩ : ∃ L, Fd.tk f n true n 0 (0, 1, 1) = L := ⟨_, rfl⟩
  have hLl := Fd.tk_length f n true n 0 (0, 1, 1)
  rw [hL] at cP2 hLl
  have HL := hide' hL
  have HBW := hide' hBW
  clear hL hby hbw hg1 hg2 hBW hB2 h3 cP
  go_wp2_with fail
  refine cP2.mono ?_
  rintro e w3 ⟨out, rfl, ho, hb3⟩
  obtain ⟨p1, k1, rfl⟩ := fc_slice ho
  have hB3 := HBW.out.trans (hb3.mono HBW.out.size)
  have hO := ho.kept_below ((Below.refl _ w3).alloc (Nat.le_refl _) (.cells #[.int .i32 0, .int .i64 Y.1, .int .i64 Y.2.1, .int .i64 Y.2.2.1, .int .i64 Y.2.2.2, .int .i64 0] 36))
  have HB3 := hide' hB3
  have HO := hide' hO
  clear cP2 hb3 hB3 hO ho hcv hsw
  obtain ⟨w4, hw4⟩ : ∃ w4, w3.alloc (.cells #[.int .i32 0, .int .i64 Y.1, .int .i64 Y.2.1, .int .i64 Y.2.2.1, .int .i64 Y.2.2.2, .int .i64 0] 36) = w4 := ⟨_, rfl⟩
  have hs4 : w4.heap.size = w3.heap.size + 1 := by rw [← hw4]; simp
  have hB4 : Below w.heap.size w w4 := by rw [← hw4]; exact HB3.out.alloc HB3.out.size _
  have HB4 := hide' hB4
  have HO4 := HO
  rw [hw4] at HO4
  have HW4 := hide' (And.intro hw4 hs4)
  clear hw4 hs4 hB4 HO HB3
  go_wp2
  rw [← HW4.out.2, HW4.out.1]
  clear HW4
  have HR := hide' HE.out.2
  clear HE
  go_loopw [8, 9, 10] (fun kn av sk wr => ∃ (pos k a : Nat) (b : Bool), kn = .int .i64 k ∧ av = .int .i64 a ∧ sk = .bool b ∧ wr.heap[w4.heap.size]? = some (.stringIter (Rn.arr f n) pos) ∧ Below w4.heap.size w4 wr ∧ pos ≤ n ∧ a ≤ n ∧ k ≤ L.length ∧ Hid (Fd.Run f n 0 pos ∧ Fd.Run f n pos n ∧ Fd.Run f n 0 a ∧ Fd.Run f n a n ∧ L.drop k = Fd.tk f n true (n - a) a (Rn.plc f n a)) ∧ (b = true → a = pos + 1 ∧ f pos = 10) ∧ (b = false → a = pos)) (fun _ _ _ wr => n - wr.iterPos w4.heap.size)
  case atStart =>
    refine ⟨0, 0, 0, false, rfl, rfl, rfl, World.iter_heap w4 _ 0, (Below.refl _ _).alloc (Nat.le_refl _) _, Nat.zero_le _, Nat.zero_le _, Nat.zero_le _, ⟨.refl _, HR.out, .refl _, HR.out, ?_⟩, (fun e => by cases e), fun _ => rfl⟩
    rw [List.drop_zero, Nat.sub_zero]
    exact HL.out.symm
  case round =>
    obtain ⟨pos, k, a, b, rfl, rfl, rfl, hit, hB, hpn, han, hkL, hI, hb1, hb0⟩ := hrel
    clear HL HR
    by_cases hlt : pos < n
    · have hnx : ∀ ty, (Instr.next (.pointer (some ⟨w4.heap.size, 0, none⟩)) true ty).run Tryd.prog wr = _ := fun ty => Lib.run_next_any_at wr w4.heap.size (Rn.arr f n) pos ty hit (by rw [hsz]; exact hlt)
      rw [Rn.arr_decode f n pos hf hlt] at hnx
      obtain ⟨I1, I2, I3, I4, I5⟩ := hI.out
      obtain ⟨hwh, hrn⟩ := Fd.run_whole I2 hlt
      have hd := Rn.dec_whole (Rn.off f pos) (n - pos) (fun _ => hf _) (by omega)
      rw [hwh, if_pos rfl] at hd
      rw [hd] at hnx
      dsimp only at hnx
      have hR1 := I1.trans (Fd.Run.one hwh)
      have hcr := Fd.whole_cr hwh
      obtain ⟨v1, v2, v3, v4⟩ := Fd.whole_lt hwh
      have hit2 := Lib.iterAt_heap wr w4.heap.size (Rn.arr f n) pos (pos + Rn.fs (Rn.off f pos) (n - pos)) hit
      have hB2 := Lib.below_iterAt hB (Nat.le_refl _) (Rn.arr f n) (pos + Rn.fs (Rn.off f pos) (n - pos))
      have hi1 : w4.heap.size < (wr.iterAt w4.heap.size (Rn.arr f n) (pos + Rn.fs (Rn.off f pos) (n - pos))).heap.size := by
        obtain ⟨hh, _⟩ := Array.getElem?_eq_some_iff.1 hit2
        exact hh
      cases b with
      | true =>
        obtain ⟨e1, e2⟩ := hb1 rfl
        have hc1 := (hcr.2.2.2 (by show f (pos + 0) < 128; rw [Nat.add_zero, e2]; omega)).1
        rw [hc1] at hnx hit2 hB2 hi1 hR1 hrn
        have HI := hide' (And.intro hR1 (And.intro hrn (And.intro I3 (And.intro I4 I5))))
        generalize Rn.fv (Rn.off f pos) = r at *
        clear hI I1 I2 I3 I4 I5 hwh hd hcr hR1 hrn hb1 hb0 hc1 v1 v2 v3 v4 hf
        go_wp2
        go_roundw
        case rel => exact ⟨pos + 1, k, a, false, rfl, rfl, rfl, hit2, hB2, by omega, by omega, by omega, HI.out, (fun e => by cases e), fun _ => e1⟩
        case measure => simp only [World.iterPos, hit2, hit]; omega
      | false =>
        obtain rfl : a = pos := hb0 rfl
        obtain ⟨p0, p1', p2⟩ := Fd.run_pk I4 hlt
        have hpl := Fd.plc_adv hf I3 p0
        have hstep := (Fd.tk_step (Rn.plc f n a) p0).1
        rw [← hpl] at hstep
        rw [hstep] at I5
        have hkl : k < L.length := by
          have := congrArg List.length I5
          rw [List.length_drop, List.length_cons] at this
          omega
        rw [List.drop_eq_getElem_cons hkl] at I5
        obtain ⟨I6, I7⟩ := List.cons.inj I5
        obtain ⟨q1, rfl⟩ := fc_some HO4.out (by omega)
        have hscal := Rn.fv_scal _ _ hwh
        have hel := (Rn.enc_fv _ _ hwh).1
        have hes := Fd.encode_scal (Rn.fv (Rn.off f a)) hscal
        rw [hel] at hes
        have HI := hide' (And.intro hR1 (And.intro hrn (And.intro (I3.trans p2) (And.intro p1' I7))))
        obtain ⟨w5, hw5⟩ : ∃ w5, wr.iterAt w4.heap.size (Rn.arr f n) (a + Rn.fs (Rn.off f a) (n - a)) = w5 := ⟨_, rfl⟩
        rw [hw5] at hnx hit2 hB2 hi1
        have hcv := Lib.run_convert_string_bytes (P := Tryd.prog) w5 9 27 5 (Rn.arr f n) Tryd.underlying9 Tryd.underlying27 Tryd.underlying5
        rw [Rn.arr_size] at hcv
        have hby := bytes_bytesWorld w5 5 f n hf
        have hbw := below_bytesWorld w5 5 (Rn.arr f n)
        have hsw := Lib.bytesWorld_size w5 5 (Rn.arr f n)
        have hg1 := grownCap_ge w5 n 0 5
        have hg2 := grownCap_le_maxLen w5 n 0 5 (by unfold maxLen; omega)
        generalize bytesWorld w5 5 (Rn.arr f n) = W6 at *
        generalize grownCap w5 n 0 5 = cap6 at *
        have cAt := at_in f n w5.heap.size 0 cap6 a W6 hf (by omega) hg1 hg2 (by omega) hby
        have hB6 := hB2.trans (hbw.mono (by have := hB2.size; omega))
        have hit6 := (hbw.block w4.heap.size (by omega)).trans hit2
        have hsz6 : w4.heap.size < W6.heap.size := by omega
        have HB6 := hide' hB6
        have HIT6 := hide' hit6
        obtain ⟨P, hP⟩ : ∃ P, Rn.plc f n a = P := ⟨_, rfl⟩
        rw [hP] at cAt I6
        unfold maxLen at hg2
        clear hI I1 I2 I3 I4 I5 hd hR1 hrn hb1 hb0 hby hbw hsw hB6 hit6 hw5 hit2 hB2 hi1 hscal hel hpl hstep hP p2 p1'
        by_cases h13 : Rn.fv (Rn.off f a) = 13
        · obtain ⟨c1, c2⟩ := hcr.1 h13
          rw [h13] at hnx
          rw [c1] at HI HIT6
          clear hes
          have hes : (Utf8.encode 13).size = 1 := by decide +kernel
          by_cases h10 : a + 1 < n ∧ f (a + 1) = 10
          · have hpk : Fd.pk f n a true = (10, 0, 2, 0) := by unfold Fd.pk; rw [if_pos hwh, if_pos h13, if_pos h10.1, if_pos h10.2]
            rw [hpk] at I6 HI
            dsimp only at I6 HI
            have hix : ∀ h : a + 1 < (Rn.arr f n).size, (Rn.arr f n)[a + 1]'h = 10 := fun h => by
              have e : (Rn.arr f n)[a + 1]'h = (f (a + 1)).toUInt8 := by show (Array.ofFn (n := n) fun i => (f i).toUInt8)[a + 1]'_ = _; simp
              rw [e, h10.2]
              rfl
            have g3 : (a : Int) + 1 < n := by omega
            have g4 : a + 1 < n := h10.1
            have f10 := h10.2
            have HI6 := hide' I6
            clear I6 hpk h13 hcr hwh v1 v2 v3 p0 I7 c1 c2 h10
            go_wp2_with fail
            refine cAt.mono ?_
            rintro e w7 ⟨rfl, hb7⟩
            have hB7 := HB6.out.trans (hb7.mono HB6.out.size)
            have hB8 : Below w4.heap.size w4 (w7.alloc (.cells #[.int .i64 a, .int .i64 P.1, .int .i64 P.2.1, .int .i64 P.2.2] 34)) := hB7.alloc hB7.size _
            obtain ⟨z0, z1, z2, z3, z4, z5⟩ := fc_six (HO4.out.kept_below hB8) k hkl
            rw [HI6.out] at z0 z1 z2 z3 z4 z5
            dsimp only at z0 z1 z2 z3 z4 z5
            have hit8 : (w7.alloc (.cells #[.int .i64 a, .int .i64 P.1, .int .i64 P.2.1, .int .i64 P.2.2] 34)).heap[w4.heap.size]? = some (.stringIter (Rn.arr f n) (a + 1)) := by
              rw [((Below.refl _ w7).alloc (Nat.le_refl _) _).block w4.heap.size (by have := hb7.size; have := HB6.out.size; omega), hb7.block w4.heap.size (by omega)]
              exact HIT6.out
            have hmm : ∀ nq, ((w7.alloc (.cells #[.int .i64 a, .int .i64 P.1, .int .i64 P.2.1, .int .i64 P.2.2] 34)).drewN nq).iterPos w4.heap.size = a + 1 := fun nq => by
              have e9 : ((w7.alloc (.cells #[.int .i64 a, .int .i64 P.1, .int .i64 P.2.1, .int .i64 P.2.2] 34)).drewN nq).heap[w4.heap.size]? = some (.stringIter (Rn.arr f n) (a + 1)) := hit8
              simp only [World.iterPos, e9]
            have HMM := hide' hmm
            have gk : decide (L.length ≤ k) = false := by simp; omega
            have gk2 : ¬ L.length ≤ k := by omega
            have HB8 := hide' hB8
            have HIT8 := hide' hit8
            clear cAt hb7 hB7 hB8 hit8 hmm
            go_wp2
            go_quiet (fail)
            have had : a + 2 ≤ 4194304 := by omega
            have had2 : (a : Int) + (2 : Int) ≤ 4194304 := by omega
            have hkk : (k : Int) + 1 ≤ 4194304 := by omega
            clear z0 z1 z2 z3 z4 z5 hes hcv hnx hsz
            go_wp2
            go_roundw
            case rel => exact ⟨a + 1, k + 1, a + 2, true, by go_num, by go_num, rfl, HIT8.out, below_drewN HB8.out _, by omega, by omega, by omega, HI.out, (fun _ => ⟨by omega, f10⟩), (fun e => by cases e)⟩
            case measure =>
              rw [HMM.out]
              simp only [World.iterPos, hit]
              omega
          · have hpk : Fd.pk f n a true = (10, 0, 1, 0) := by
              unfold Fd.pk
              rw [if_pos hwh, if_pos h13]
              by_cases q : a + 1 < n
              · rw [if_pos q, if_neg (fun e => h10 ⟨q, e⟩)]
              · rw [if_neg q, if_pos rfl]
            rw [hpk] at I6 HI
            dsimp only at I6 HI
            have HI6 := hide' I6
            by_cases g4 : a + 1 < n
            · have hix : ∀ h : a + 1 < (Rn.arr f n).size, (Rn.arr f n)[a + 1]'h = (f (a + 1)).toUInt8 := fun h => by show (Array.ofFn (n := n) fun i => (f i).toUInt8)[a + 1]'_ = _; simp
              have hy : ((((f (a + 1)).toUInt8).toNat : Int) == 10) = false := by
                have h1 := hf (a + 1)
                have h2 : ((f (a + 1)).toUInt8).toNat = f (a + 1) := by simp; omega
                have h3 : f (a + 1) ≠ 10 := fun e => h10 ⟨g4, e⟩
                rw [h2]
                simp
                omega
              generalize (f (a + 1)).toUInt8 = y at *
              have g3 : (a : Int) + 1 < n := by omega
              clear I6 hpk h13 hcr hwh v1 v2 v3 p0 I7 c1 c2 h10
              go_wp2_with fail
              refine cAt.mono ?_
              rintro e w7 ⟨rfl, hb7⟩
              have hB7 := HB6.out.trans (hb7.mono HB6.out.size)
              have hB8 : Below w4.heap.size w4 (w7.alloc (.cells #[.int .i64 a, .int .i64 P.1, .int .i64 P.2.1, .int .i64 P.2.2] 34)) := hB7.alloc hB7.size _
              obtain ⟨z0, z1, z2, z3, z4, z5⟩ := fc_six (HO4.out.kept_below hB8) k hkl
              rw [HI6.out] at z0 z1 z2 z3 z4 z5
              dsimp only at z0 z1 z2 z3 z4 z5
              have hit8 : (w7.alloc (.cells #[.int .i64 a, .int .i64 P.1, .int .i64 P.2.1, .int .i64 P.2.2] 34)).heap[w4.heap.size]? = some (.stringIter (Rn.arr f n) (a + 1)) := by
                rw [((Below.refl _ w7).alloc (Nat.le_refl _) _).block w4.heap.size (by have := hb7.size; have := HB6.out.size; omega), hb7.block w4.heap.size (by omega)]
                exact HIT6.out
              have hmm : ∀ nq, ((w7.alloc (.cells #[.int .i64 a, .int .i64 P.1, .int .i64 P.2.1, .int .i64 P.2.2] 34)).drewN nq).iterPos w4.heap.size = a + 1 := fun nq => by
                have e9 : ((w7.alloc (.cells #[.int .i64 a, .int .i64 P.1, .int .i64 P.2.1, .int .i64 P.2.2] 34)).drewN nq).heap[w4.heap.size]? = some (.stringIter (Rn.arr f n) (a + 1)) := hit8
                simp only [World.iterPos, e9]
              have HMM := hide' hmm
              have gk : decide (L.length ≤ k) = false := by simp; omega
              have gk2 : ¬ L.length ≤ k := by omega
              have HB8 := hide' hB8
              have HIT8 := hide' hit8
              clear cAt hb7 hB7 hB8 hit8 hmm
              go_wp2
              go_quiet (fail)
              have had : a + 1 ≤ 4194304 := by omega
              have had2 : (a : Int) + (1 : Int) ≤ 4194304 := by omega
              have hkk : (k : Int) + 1 ≤ 4194304 := by omega
              clear z0 z1 z2 z3 z4 z5 hes hcv hnx hsz
              go_wp2
              go_roundw
              case rel => exact ⟨a + 1, k + 1, a + 1, false, by go_num, by go_num, rfl, HIT8.out, below_drewN HB8.out _, by omega, by omega, by omega, HI.out, (fun e => by cases e), fun _ => rfl⟩
              case measure =>
                rw [HMM.out]
                simp only [World.iterPos, hit]
                omega
            · have g3 : ¬ (a : Int) + 1 < n := by omega
              clear I6 hpk h13 hcr hwh v1 v2 v3 p0 I7 c1 c2 h10
              go_wp2_with fail
              refine cAt.mono ?_
              rintro e w7 ⟨rfl, hb7⟩
              have hB7 := HB6.out.trans (hb7.mono HB6.out.size)
              have hB8 : Below w4.heap.size w4 (w7.alloc (.cells #[.int .i64 a, .int .i64 P.1, .int .i64 P.2.1, .int .i64 P.2.2] 34)) := hB7.alloc hB7.size _
              obtain ⟨z0, z1, z2, z3, z4, z5⟩ := fc_six (HO4.out.kept_below hB8) k hkl
              rw [HI6.out] at z0 z1 z2 z3 z4 z5
              dsimp only at z0 z1 z2 z3 z4 z5
              have hit8 : (w7.alloc (.cells #[.int .i64 a, .int .i64 P.1, .int .i64 P.2.1, .int .i64 P.2.2] 34)).heap[w4.heap.size]? = some (.stringIter (Rn.arr f n) (a + 1)) := by
                rw [((Below.refl _ w7).alloc (Nat.le_refl _) _).block w4.heap.size (by have := hb7.size; have := HB6.out.size; omega), hb7.block w4.heap.size (by omega)]
                exact HIT6.out
              have hmm : ∀ nq, ((w7.alloc (.cells #[.int .i64 a, .int .i64 P.1, .int .i64 P.2.1, .int .i64 P.2.2] 34)).drewN nq).iterPos w4.heap.size = a + 1 := fun nq => by
                have e9 : ((w7.alloc (.cells #[.int .i64 a, .int .i64 P.1, .int .i64 P.2.1, .int .i64 P.2.2] 34)).drewN nq).heap[w4.heap.size]? = some (.stringIter (Rn.arr f n) (a + 1)) := hit8
                simp only [World.iterPos, e9]
              have HMM := hide' hmm
              have gk : decide (L.length ≤ k) = false := by simp; omega
              have gk2 : ¬ L.length ≤ k := by omega
              have HB8 := hide' hB8
              have HIT8 := hide' hit8
              clear cAt hb7 hB7 hB8 hit8 hmm
              go_wp2
              go_quiet (fail)
              have had : a + 1 ≤ 4194304 := by omega
              have had2 : (a : Int) + (1 : Int) ≤ 4194304 := by omega
              have hkk : (k : Int) + 1 ≤ 4194304 := by omega
              clear z0 z1 z2 z3 z4 z5 hes hcv hnx hsz
              go_wp2
              go_roundw
              case rel => exact ⟨a + 1, k + 1, a + 1, false, by go_num, by go_num, rfl, HIT8.out, below_drewN HB8.out _, by omega, by omega, by omega, HI.out, (fun e => by cases e), fun _ => rfl⟩
              case measure =>
                rw [HMM.out]
                simp only [World.iterPos, hit]
                omega
        · have hpk : Fd.pk f n a true = (Rn.fv (Rn.off f a), 0, Rn.fs (Rn.off f a) (n - a), 0) := by unfold Fd.pk; rw [if_pos hwh, if_neg h13]
          rw [hpk] at I6 HI
          dsimp only at I6 HI
          have e13 : ((Rn.fv (Rn.off f a) : Int) == 13) = false := by simp; omega
          generalize Rn.fv (Rn.off f a) = r at *
          generalize Rn.fs (Rn.off f a) (n - a) = d at *
          have HI6 := hide' I6
          clear I6 hpk h13 hcr hwh v3 p0 I7
          go_wp2_with fail
          refine cAt.mono ?_
          rintro e w7 ⟨rfl, hb7⟩
          have hB7 := HB6.out.trans (hb7.mono HB6.out.size)
          have hB8 : Below w4.heap.size w4 (w7.alloc (.cells #[.int .i64 a, .int .i64 P.1, .int .i64 P.2.1, .int .i64 P.2.2] 34)) := hB7.alloc hB7.size _
          obtain ⟨z0, z1, z2, z3, z4, z5⟩ := fc_six (HO4.out.kept_below hB8) k hkl
          rw [HI6.out] at z0 z1 z2 z3 z4 z5
          dsimp only at z0 z1 z2 z3 z4 z5
          have hit8 : (w7.alloc (.cells #[.int .i64 a, .int .i64 P.1, .int .i64 P.2.1, .int .i64 P.2.2] 34)).heap[w4.heap.size]? = some (.stringIter (Rn.arr f n) (a + d)) := by
            rw [((Below.refl _ w7).alloc (Nat.le_refl _) _).block w4.heap.size (by have := hb7.size; have := HB6.out.size; omega), hb7.block w4.heap.size (by omega)]
            exact HIT6.out
          have hmm : ∀ nq, ((w7.alloc (.cells #[.int .i64 a, .int .i64 P.1, .int .i64 P.2.1, .int .i64 P.2.2] 34)).drewN nq).iterPos w4.heap.size = a + d := fun nq => by
            have e9 : ((w7.alloc (.cells #[.int .i64 a, .int .i64 P.1, .int .i64 P.2.1, .int .i64 P.2.2] 34)).drewN nq).heap[w4.heap.size]? = some (.stringIter (Rn.arr f n) (a + d)) := hit8
            simp only [World.iterPos, e9]
          have HMM := hide' hmm
          have gk : decide (L.length ≤ k) = false := by simp; omega
          have gk2 : ¬ L.length ≤ k := by omega
          have HB8 := hide' hB8
          have HIT8 := hide' hit8
          clear cAt hb7 hB7 hB8 hit8 hmm
          go_wp2
          go_quiet (fail)
          have had : a + d ≤ 4194304 := by omega
          have had2 : (a : Int) + (d : Int) ≤ 4194304 := by omega
          have hkk : (k : Int) + 1 ≤ 4194304 := by omega
          clear z0 z1 z2 z3 z4 z5 hes hcv hnx hsz
          go_wp2
          go_roundw
          case rel => exact ⟨a + d, k + 1, a + d, false, by go_num, by go_num, rfl, HIT8.out, below_drewN HB8.out _, by omega, by omega, by omega, HI.out, (fun e => by cases e), fun _ => rfl⟩
          case measure =>
            rw [HMM.out]
            simp only [World.iterPos, hit]
            omega
    · obtain rfl : pos = n := by omega
      have hnx : ∀ ty, (Instr.next (.pointer (some ⟨w4.heap.size, 0, none⟩)) true ty).run Tryd.prog wr = _ := fun ty => Lib.run_next_end_at wr w4.heap.size (Rn.arr f pos) pos ty hit (by rw [hsz]; exact hlt)
      have hbf : b = false := by
        cases b with
        | false => rfl
        | true => have := (hb1 rfl).1; omega
      obtain rfl : a = pos := hb0 hbf
      have hkL2 : k = L.length := by
        have := hI.out.2.2.2.2
        rw [Nat.sub_self] at this
        have h2 := congrArg List.length this
        rw [List.length_drop] at h2
        have h3 : (Fd.tk f a true 0 a (Rn.plc f a a)).length = 0 := rfl
        omega
      subst hkL2
      have hBw : Below w.heap.size w wr := HB4.out.trans (hB.mono HB4.out.size)
      clear hI hb1 hb0
      go_wp2
      go_ret
      exact ⟨rfl, hBw⟩
end Go.Proofs.YtbfabpjhdhhpfaaDoor
