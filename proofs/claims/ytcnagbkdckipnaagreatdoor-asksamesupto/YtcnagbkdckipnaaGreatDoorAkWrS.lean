/-
  THE WALK over ask.writeStep (gen_akwr.py writes this text).
-/
import Derived.Test.YtcnagbkdckipnaaGreatDoorAkWrP
namespace Go.Proofs.YtcnagbkdckipnaaGreatDoor
open Go.RowKit Go.Lib Go.Sort
set_option maxRecDepth 100000 in
set_option maxHeartbeats 16000000 in
theorem wrStep {w0 : World} {B b : Nat} (hta : Ak.Tb w0) (htt : Ak.TbT w0) (ax te : Int) (nm : ByteArray) (pw : Option Addr) (cw : Nat) (l : List Ak.Xv) (ih : ∀ a ∈ l, Ak.WrXX w0 B b a) : Ak.WrSS w0 B b (.mk ax te nm pw cw l) := by
  intro hok hG W out hP hL
  obtain ⟨h1, h2, h3⟩ := hok.row
  obtain ⟨n, hn⟩ : ∃ n, l.length = n := ⟨_, rfl⟩
  change Calls Tryz.prog 88 #[.pointer (some ⟨b, 0, none⟩), .agg #[.int .i64 ax, .int .i64 te, .string nm, .slice pw l.length cw]] W (Ak.WrE w0 B b W (out ++ Ak.wS (Ak.cS (.mk ax te nm pw cw l))))
  rw [show Ak.cS (.mk ax te nm pw cw l) = .mk ax te nm (Ak.cXs l) by simp [Ak.cS]] at hG hL ⊢
  unfold Ak.gS at hG
  obtain ⟨⟨⟨a0, a3⟩, b0, b3⟩, hgx⟩ := hG
  obtain ⟨ja, rfl⟩ := Int.eq_ofNat_of_zero_le a0
  obtain ⟨jt, rfl⟩ := Int.eq_ofNat_of_zero_le b0
  have ha3 : ja ≤ 3 := by omega
  have hb3 : jt ≤ 3 := by omega
  clear a0 a3 b0 b3
  rw [hn] at h1 h3 ⊢
  obtain ⟨ans, hans⟩ : ∃ a, out ++ Ak.wS (.mk (ja : Nat) (jt : Nat) nm (Ak.cXs l)) = a := ⟨_, rfl⟩
  rw [hans]
  unfold Ak.wS at hans hL
  rw [show (Ak.cXs l).length = n by rw [Ak.cXs_map, List.length_map, hn]] at hans hL
  obtain ⟨sa, hsa⟩ : ∃ s, Ak.axs[ja]? = some s := ⟨_, List.getElem?_eq_getElem (by simp [Ak.axs]; omega)⟩
  obtain ⟨st, hst⟩ : ∃ s, Ak.tss[jt]? = some s := ⟨_, List.getElem?_eq_getElem (by simp [Ak.tss]; omega)⟩
  rw [show Ak.nth Ak.axs (ja : Nat) = sa by unfold Ak.nth; rw [Int.toNat_natCast, hsa]; rfl, show Ak.nth Ak.tss (jt : Nat) = st by unfold Ak.nth; rw [Int.toNat_natCast, hst]; rfl] at hans hL
  have hcc : Ak.by_ ⟨#[58, 58]⟩ = [58, 58] := rfl
  have HTA := hide' (hta.ax ja sa hsa)
  have HTT := hide' (htt jt st hst)
  have hbox : Below W.heap.size W (W.alloc (.cells #[.int .i64 (ja : Nat), .int .i64 (jt : Nat), .string nm, .slice pw n cw] 61)) := (Below.refl _ _).alloc (Nat.le_refl _) _
  have HP1 := hide' (hP.below hbox)
  have HK1 : Hid (Ak.Kp b W (W.alloc (.cells #[.int .i64 (ja : Nat), .int .i64 (jt : Nat), .string nm, .slice pw n cw] 61))) := hide' (Ak.Kp.of_below hbox)
  have HX1 := hide' (Ak.heap_new W (.cells #[.int .i64 (ja : Nat), .int .i64 (jt : Nat), .string nm, .slice pw n cw] 61))
  have CH := wrHere (W.alloc (.cells #[.int .i64 (ja : Nat), .int .i64 (jt : Nat), .string nm, .slice pw n cw] 61)) (ja : Nat) (jt : Nat) nm pw n cw
  have hbl := (Ak.IsB.lt hP.ib).2
  have s1 : (W.alloc (.cells #[.int .i64 (ja : Nat), .int .i64 (jt : Nat), .string nm, .slice pw n cw] 61)).heap.size = W.heap.size + 1 := World.size_alloc W _
  have HN := hide' hn
  have HNC : Hid (n ≤ 9223372036854775807) := hide' (by omega)
  have H3 := hide' h3
  have HG := hide' hgx
  have IH := hide' ih
  have ta : (0 : Int) ≤ (ja : Int) := by omega
  have ta4 : (ja : Int) < 4 := by omega
  have tt : (0 : Int) ≤ (jt : Int) := by omega
  have tt4 : (jt : Int) < 4 := by omega
  clear hok h1 h2 h3 hgx ih hn hta htt hP hbox hsa hst
  obtain ⟨th, hth⟩ : ∃ t, Ak.hereB (ja : Nat) (jt : Nat) n = t := ⟨_, rfl⟩
  rw [hth] at CH hans hL
  clear hth
  cases th with
  | true =>
    rw [if_pos rfl] at hans hL
    have HLt := hide' hL
    have HAn := hide' hans
    clear hans hL
    go_enter Tryz.func88, Tryz.ntmps88
    go_wp2_with fail
    refine CH.mono ?_
    rintro e w2 ⟨rfl, hb2⟩
    have HP2 := hide' (HP1.out.below hb2)
    have HK2 := hide' (HK1.out.trans (Ak.Kp.of_below (b := b) hb2))
    have HX2 := hide' ((hb2.block W.heap.size (by omega)).trans HX1.out)
    have x2_0 : w2.cell? ⟨W.heap.size, 0, none⟩ = some (.int .i64 (ja : Nat)) := by rw [Lib.cell_of_heap HX2.out]; rfl
    have x2_1 : w2.cell? ⟨W.heap.size, 1, none⟩ = some (.int .i64 (jt : Nat)) := by rw [Lib.cell_of_heap HX2.out]; rfl
    have x2_2 : w2.cell? ⟨W.heap.size, 2, none⟩ = some (.string nm) := by rw [Lib.cell_of_heap HX2.out]; rfl
    have x2_3 : w2.cell? ⟨W.heap.size, 3, none⟩ = some (.slice pw n cw) := by rw [Lib.cell_of_heap HX2.out]; rfl
    clear hb2 CH
    go_wp2_with fail
    refine (wrByte (w0 := w0) (B := B) (b := b) HP2.out (by have := HLt.out; simp at this ⊢; omega) 46).mono ?_
    rintro e w3 ⟨rfl, hp, hk⟩
    have HP3 := hide' (HAn.out ▸ hp)
    have HK3 := hide' (HK2.out.trans hk)
    clear hp hk
    go_wp2_with fail
    first | go_end0 | refine bodyPost_ret (results_none rfl _ _ _) rfl ?_
    exact ⟨rfl, HP3.out, HK3.out⟩
  | false =>
    rw [if_neg (by decide)] at hans hL
    by_cases ha : ja = 0
    · rw [if_pos (by omega), List.nil_append] at hans hL
      have ga : ((ja : Int) != 0) = false := by simp; omega
      have ga2 : ((ja : Int) == 0) = true := by simp; omega
      by_cases ht : jt = 0
      · rw [if_pos (by omega)] at hans hL
        have gt : ((jt : Int) == 0) = true := by simp; omega
        have HLt := hide' hL
        have HAn := hide' hans
        clear hans hL ha ht
        go_enter Tryz.func88, Tryz.ntmps88
        go_wp2_with fail
        refine CH.mono ?_
        rintro e w2 ⟨rfl, hb2⟩
        have HP2 := hide' (HP1.out.below hb2)
        have HK2 := hide' (HK1.out.trans (Ak.Kp.of_below (b := b) hb2))
        have HX2 := hide' ((hb2.block W.heap.size (by omega)).trans HX1.out)
        have x2_0 : w2.cell? ⟨W.heap.size, 0, none⟩ = some (.int .i64 (ja : Nat)) := by rw [Lib.cell_of_heap HX2.out]; rfl
        have x2_1 : w2.cell? ⟨W.heap.size, 1, none⟩ = some (.int .i64 (jt : Nat)) := by rw [Lib.cell_of_heap HX2.out]; rfl
        have x2_2 : w2.cell? ⟨W.heap.size, 2, none⟩ = some (.string nm) := by rw [Lib.cell_of_heap HX2.out]; rfl
        have x2_3 : w2.cell? ⟨W.heap.size, 3, none⟩ = some (.slice pw n cw) := by rw [Lib.cell_of_heap HX2.out]; rfl
        clear hb2 CH
        go_wp2_with fail
        refine (wrStr (w0 := w0) (B := B) (b := b) HP2.out nm (by have := HLt.out; simp at this ⊢; omega)).mono ?_
        rintro e w3 ⟨rfl, hp, hk⟩
        have HP3 := hide' hp
        have HK3 := hide' (HK2.out.trans hk)
        have HX3 := hide' (hk.keep HX2.out (by omega) (by decide))
        have x3_0 : w3.cell? ⟨W.heap.size, 0, none⟩ = some (.int .i64 (ja : Nat)) := by rw [Lib.cell_of_heap HX3.out]; rfl
        have x3_1 : w3.cell? ⟨W.heap.size, 1, none⟩ = some (.int .i64 (jt : Nat)) := by rw [Lib.cell_of_heap HX3.out]; rfl
        have x3_2 : w3.cell? ⟨W.heap.size, 2, none⟩ = some (.string nm) := by rw [Lib.cell_of_heap HX3.out]; rfl
        have x3_3 : w3.cell? ⟨W.heap.size, 3, none⟩ = some (.slice pw n cw) := by rw [Lib.cell_of_heap HX3.out]; rfl
        clear hp hk
        clear x2_0 x2_1 x2_2 x2_3
        go_wp2_with fail
        have HA0 : Hid ((out ++ Ak.by_ nm) ++ Ak.wL (Ak.cXs (l.drop 0)) = ans) := hide' (by rw [List.drop_zero, ← HAn.out]; simp)
        have HL0 : Hid (((out ++ Ak.by_ nm)).length + (Ak.wL (Ak.cXs (l.drop 0))).length ≤ 70368744177664) := hide' (by rw [List.drop_zero]; have := HLt.out; simp at this ⊢; omega)
        go_loopw [37] (fun v wr => ∃ (i : Nat) (o2 : List UInt8), v = .int .i64 i ∧ i ≤ n ∧ Hid (o2 ++ Ak.wL (Ak.cXs (l.drop i)) = ans) ∧ Hid (o2.length + (Ak.wL (Ak.cXs (l.drop i))).length ≤ 70368744177664) ∧ Hid (Ak.PrS w0 B b o2 wr) ∧ Hid (Ak.Kp b W wr)) (fun v _ => n - (RowKit.intOf v).toNat)
        case atStart => exact ⟨0, _, rfl, Nat.zero_le _, HA0, HL0, HP3, HK3⟩
        case round =>
          obtain ⟨i, o2, rfl, hi, HA, HL, HP, HK⟩ := hrel
          clear HA0 HL0 HLt HAn HP3 HK3 HX3 x3_0 x3_1 x3_2 x3_3
          by_cases hlt : i < n
          · have t1 : (i : Int) < (n : Int) := by omega
            have t0 : (0 : Int) ≤ i := by omega
            obtain ⟨g, o, rfl, hel⟩ := H3.out (by omega)
            obtain ⟨x, hx⟩ : ∃ x, l[i]? = some x := ⟨_, List.getElem?_eq_getElem (by rw [HN.out]; exact hlt)⟩
            obtain ⟨hrg, hok⟩ := hel i x hx
            have hcl := IH.out x (List.mem_of_getElem? hx) hok (Ak.gXs_at l i x HG.out hx)
            have hst := Ak.wL_at l i x hx
            have ha := HA.out
            have hl := HL.out
            rw [hst] at ha hl
            obtain ⟨ws, hws⟩ : ∃ u, Ak.wX (Ak.cX x) = u := ⟨_, rfl⟩
            rw [hws] at ha hl hcl
            obtain ⟨rr, hrr⟩ : ∃ u, Ak.wL (Ak.cXs (l.drop (i + 1))) = u := ⟨_, rfl⟩
            rw [hrr] at ha hl
            have HRR := hide' hrr
            obtain ⟨op, pa, ca, ar, ps, cc, st', aa, cm, tx, nu⟩ := x
            obtain ⟨la, hla⟩ : ∃ k, ar.length = k := ⟨_, rfl⟩
            obtain ⟨ls, hls⟩ : ∃ k, st'.length = k := ⟨_, rfl⟩
            have hrg2 : w0.rangeAt g (o + i * 7) [.int .i64 op, .slice pa la ca, .slice ps ls cc, .string aa, .int .i64 cm, .string tx, .int .i64 nu] := by rw [← hla, ← hls]; exact hrg
            have HC : Hid (∀ (w : World) (o3 : List UInt8), Ak.PrS w0 B b o3 w → o3.length + ws.length ≤ 70368744177664 → Calls Tryz.prog 117 #[.pointer (some ⟨b, 0, none⟩), .agg #[.int .i64 op, .slice pa la ca, .slice ps ls cc, .string aa, .int .i64 cm, .string tx, .int .i64 nu]] w (Ak.WrE w0 B b w (o3 ++ ws))) := hide' (fun w o3 h1 h2 => by rw [← hla, ← hls]; exact hcl w o3 h1 h2)
            have hEl : Below wr.heap.size wr (wr.alloc (.cells #[.int .i64 op, .slice pa la ca, .slice ps ls cc, .string aa, .int .i64 cm, .string tx, .int .i64 nu] 121)) := (Below.refl _ _).alloc (Nat.le_refl _) _
            have HPa := hide' (HP.out.below hEl)
            have HKa := hide' (HK.out.trans (Ak.Kp.of_below (b := b) hEl))
            have HEa := hide' (Ak.heap_new wr (.cells #[.int .i64 op, .slice pa la ca, .slice ps ls cc, .string aa, .int .i64 cm, .string tx, .int .i64 nu] 121))
            have hbr := (Ak.IsB.lt HP.out.ib).2
            have q0 := HP.out.cell (hrg2 0 _ rfl)
            have q1 := HP.out.cell (hrg2 1 _ rfl)
            have q2 := HP.out.cell (hrg2 2 _ rfl)
            have q3 := HP.out.cell (hrg2 3 _ rfl)
            have q4 := HP.out.cell (hrg2 4 _ rfl)
            have q5 := HP.out.cell (hrg2 5 _ rfl)
            have q6 := HP.out.cell (hrg2 6 _ rfl)
            rw [Nat.add_zero] at q0
            have tw : IntKind.i64.wrap ((i : Int) + 1) = (i : Int) + 1 := by have := HNC.out; rw [IntKind.wrap_i64]; omega
            have HAx := hide' ha
            have HLx := hide' hl
            have CB := hide' (wrByte (w0 := w0) (B := B) (b := b) HPa.out (by have := HLx.out; simp at this; omega) 91)
            clear hel hrg hrg2 hok hcl hst hx hla hls hws hrr HA HL HP HK H3 IH HG ha hl hEl
            go_wp2_with fail
            refine CB.out.mono ?_
            rintro e wa ⟨rfl, hp, hk⟩
            have HPb := hide' hp
            have HKb := hide' (HKa.out.trans hk)
            have he := hk.keep HEa.out (by omega) (by decide)
            have e0 : wa.cell? ⟨wr.heap.size, 0, none⟩ = some (.int .i64 op) := by rw [Lib.cell_of_heap he]; rfl
            have e1 : wa.cell? ⟨wr.heap.size, 1, none⟩ = some (.slice pa la ca) := by rw [Lib.cell_of_heap he]; rfl
            have e2 : wa.cell? ⟨wr.heap.size, 2, none⟩ = some (.slice ps ls cc) := by rw [Lib.cell_of_heap he]; rfl
            have e3 : wa.cell? ⟨wr.heap.size, 3, none⟩ = some (.string aa) := by rw [Lib.cell_of_heap he]; rfl
            have e4 : wa.cell? ⟨wr.heap.size, 4, none⟩ = some (.int .i64 cm) := by rw [Lib.cell_of_heap he]; rfl
            have e5 : wa.cell? ⟨wr.heap.size, 5, none⟩ = some (.string tx) := by rw [Lib.cell_of_heap he]; rfl
            have e6 : wa.cell? ⟨wr.heap.size, 6, none⟩ = some (.int .i64 nu) := by rw [Lib.cell_of_heap he]; rfl
            clear hp hk he CB
            go_wp2_with fail
            refine (HC.out _ _ HPb.out (by have := HLx.out; simp at this ⊢; omega)).mono ?_
            rintro e wb ⟨rfl, hp, hk⟩
            have HPc := hide' hp
            have HKc := hide' (HKb.out.trans hk)
            clear hp hk
            go_wp2_with fail
            refine (wrByte (w0 := w0) (B := B) (b := b) HPc.out (by have := HLx.out; simp at this ⊢; omega) 93).mono ?_
            rintro e wc ⟨rfl, hp, hk⟩
            have HPd := hide' hp
            have HKd := hide' (HKc.out.trans hk)
            have HA5 : Hid ((((o2 ++ [91]) ++ ws) ++ [93]) ++ Ak.wL (Ak.cXs (l.drop (i + 1))) = ans) := hide' (by rw [HRR.out]; have := HAx.out; simpa [List.append_assoc] using this)
            have HL5 : Hid ((((o2 ++ [91]) ++ ws) ++ [93]).length + (Ak.wL (Ak.cXs (l.drop (i + 1)))).length ≤ 70368744177664) := hide' (by rw [HRR.out]; have := HLx.out; simp at this ⊢; omega)
            have HLT := hide' hlt
            clear hp hk hlt
            go_wp2_with fail
            exact ⟨⟨i + 1, _, rfl, HLT.out, HA5, HL5, HPd, HKd⟩, by have := HLT.out; simp [RowKit.intOf]; omega⟩
          · have t1 : ¬ (i : Int) < (n : Int) := by omega
            have ha := HA.out
            rw [Ak.wL_end l i (by have := HN.out; omega), List.append_nil] at ha
            subst ha
            go_wp2_with fail
            first | go_end0 | refine bodyPost_ret (results_none rfl _ _ _) rfl ?_
            exact ⟨rfl, HP.out, HK.out⟩
      · rw [if_neg (by omega)] at hans hL
        have gt : ((jt : Int) == 0) = false := by simp; omega
        have HLt := hide' hL
        have HAn := hide' hans
        clear hans hL ha ht
        go_enter Tryz.func88, Tryz.ntmps88
        go_wp2_with fail
        refine CH.mono ?_
        rintro e w2 ⟨rfl, hb2⟩
        have HP2 := hide' (HP1.out.below hb2)
        have HK2 := hide' (HK1.out.trans (Ak.Kp.of_below (b := b) hb2))
        have HX2 := hide' ((hb2.block W.heap.size (by omega)).trans HX1.out)
        have x2_0 : w2.cell? ⟨W.heap.size, 0, none⟩ = some (.int .i64 (ja : Nat)) := by rw [Lib.cell_of_heap HX2.out]; rfl
        have x2_1 : w2.cell? ⟨W.heap.size, 1, none⟩ = some (.int .i64 (jt : Nat)) := by rw [Lib.cell_of_heap HX2.out]; rfl
        have x2_2 : w2.cell? ⟨W.heap.size, 2, none⟩ = some (.string nm) := by rw [Lib.cell_of_heap HX2.out]; rfl
        have x2_3 : w2.cell? ⟨W.heap.size, 3, none⟩ = some (.slice pw n cw) := by rw [Lib.cell_of_heap HX2.out]; rfl
        clear hb2 CH
        have y2 := HP2.out.cell HTT.out
        go_wp2_with fail
        refine (wrStr (w0 := w0) (B := B) (b := b) HP2.out st (by have := HLt.out; simp at this ⊢; omega)).mono ?_
        rintro e w3 ⟨rfl, hp, hk⟩
        have HP3 := hide' hp
        have HK3 := hide' (HK2.out.trans hk)
        have HX3 := hide' (hk.keep HX2.out (by omega) (by decide))
        have x3_0 : w3.cell? ⟨W.heap.size, 0, none⟩ = some (.int .i64 (ja : Nat)) := by rw [Lib.cell_of_heap HX3.out]; rfl
        have x3_1 : w3.cell? ⟨W.heap.size, 1, none⟩ = some (.int .i64 (jt : Nat)) := by rw [Lib.cell_of_heap HX3.out]; rfl
        have x3_2 : w3.cell? ⟨W.heap.size, 2, none⟩ = some (.string nm) := by rw [Lib.cell_of_heap HX3.out]; rfl
        have x3_3 : w3.cell? ⟨W.heap.size, 3, none⟩ = some (.slice pw n cw) := by rw [Lib.cell_of_heap HX3.out]; rfl
        clear hp hk
        clear x2_0 x2_1 x2_2 x2_3
        go_wp2_with fail
        have HA0 : Hid ((out ++ Ak.by_ st) ++ Ak.wL (Ak.cXs (l.drop 0)) = ans) := hide' (by rw [List.drop_zero, ← HAn.out]; simp)
        have HL0 : Hid (((out ++ Ak.by_ st)).length + (Ak.wL (Ak.cXs (l.drop 0))).length ≤ 70368744177664) := hide' (by rw [List.drop_zero]; have := HLt.out; simp at this ⊢; omega)
        go_loopw [37] (fun v wr => ∃ (i : Nat) (o2 : List UInt8), v = .int .i64 i ∧ i ≤ n ∧ Hid (o2 ++ Ak.wL (Ak.cXs (l.drop i)) = ans) ∧ Hid (o2.length + (Ak.wL (Ak.cXs (l.drop i))).length ≤ 70368744177664) ∧ Hid (Ak.PrS w0 B b o2 wr) ∧ Hid (Ak.Kp b W wr)) (fun v _ => n - (RowKit.intOf v).toNat)
        case atStart => exact ⟨0, _, rfl, Nat.zero_le _, HA0, HL0, HP3, HK3⟩
        case round =>
          obtain ⟨i, o2, rfl, hi, HA, HL, HP, HK⟩ := hrel
          clear HA0 HL0 HLt HAn HP3 HK3 HX3 x3_0 x3_1 x3_2 x3_3
          by_cases hlt : i < n
          · have t1 : (i : Int) < (n : Int) := by omega
            have t0 : (0 : Int) ≤ i := by omega
            obtain ⟨g, o, rfl, hel⟩ := H3.out (by omega)
            obtain ⟨x, hx⟩ : ∃ x, l[i]? = some x := ⟨_, List.getElem?_eq_getElem (by rw [HN.out]; exact hlt)⟩
            obtain ⟨hrg, hok⟩ := hel i x hx
            have hcl := IH.out x (List.mem_of_getElem? hx) hok (Ak.gXs_at l i x HG.out hx)
            have hst := Ak.wL_at l i x hx
            have ha := HA.out
            have hl := HL.out
            rw [hst] at ha hl
            obtain ⟨ws, hws⟩ : ∃ u, Ak.wX (Ak.cX x) = u := ⟨_, rfl⟩
            rw [hws] at ha hl hcl
            obtain ⟨rr, hrr⟩ : ∃ u, Ak.wL (Ak.cXs (l.drop (i + 1))) = u := ⟨_, rfl⟩
            rw [hrr] at ha hl
            have HRR := hide' hrr
            obtain ⟨op, pa, ca, ar, ps, cc, st', aa, cm, tx, nu⟩ := x
            obtain ⟨la, hla⟩ : ∃ k, ar.length = k := ⟨_, rfl⟩
            obtain ⟨ls, hls⟩ : ∃ k, st'.length = k := ⟨_, rfl⟩
            have hrg2 : w0.rangeAt g (o + i * 7) [.int .i64 op, .slice pa la ca, .slice ps ls cc, .string aa, .int .i64 cm, .string tx, .int .i64 nu] := by rw [← hla, ← hls]; exact hrg
            have HC : Hid (∀ (w : World) (o3 : List UInt8), Ak.PrS w0 B b o3 w → o3.length + ws.length ≤ 70368744177664 → Calls Tryz.prog 117 #[.pointer (some ⟨b, 0, none⟩), .agg #[.int .i64 op, .slice pa la ca, .slice ps ls cc, .string aa, .int .i64 cm, .string tx, .int .i64 nu]] w (Ak.WrE w0 B b w (o3 ++ ws))) := hide' (fun w o3 h1 h2 => by rw [← hla, ← hls]; exact hcl w o3 h1 h2)
            have hEl : Below wr.heap.size wr (wr.alloc (.cells #[.int .i64 op, .slice pa la ca, .slice ps ls cc, .string aa, .int .i64 cm, .string tx, .int .i64 nu] 121)) := (Below.refl _ _).alloc (Nat.le_refl _) _
            have HPa := hide' (HP.out.below hEl)
            have HKa := hide' (HK.out.trans (Ak.Kp.of_below (b := b) hEl))
            have HEa := hide' (Ak.heap_new wr (.cells #[.int .i64 op, .slice pa la ca, .slice ps ls cc, .string aa, .int .i64 cm, .string tx, .int .i64 nu] 121))
            have hbr := (Ak.IsB.lt HP.out.ib).2
            have q0 := HP.out.cell (hrg2 0 _ rfl)
            have q1 := HP.out.cell (hrg2 1 _ rfl)
            have q2 := HP.out.cell (hrg2 2 _ rfl)
            have q3 := HP.out.cell (hrg2 3 _ rfl)
            have q4 := HP.out.cell (hrg2 4 _ rfl)
            have q5 := HP.out.cell (hrg2 5 _ rfl)
            have q6 := HP.out.cell (hrg2 6 _ rfl)
            rw [Nat.add_zero] at q0
            have tw : IntKind.i64.wrap ((i : Int) + 1) = (i : Int) + 1 := by have := HNC.out; rw [IntKind.wrap_i64]; omega
            have HAx := hide' ha
            have HLx := hide' hl
            have CB := hide' (wrByte (w0 := w0) (B := B) (b := b) HPa.out (by have := HLx.out; simp at this; omega) 91)
            clear hel hrg hrg2 hok hcl hst hx hla hls hws hrr HA HL HP HK H3 IH HG ha hl hEl
            go_wp2_with fail
            refine CB.out.mono ?_
            rintro e wa ⟨rfl, hp, hk⟩
            have HPb := hide' hp
            have HKb := hide' (HKa.out.trans hk)
            have he := hk.keep HEa.out (by omega) (by decide)
            have e0 : wa.cell? ⟨wr.heap.size, 0, none⟩ = some (.int .i64 op) := by rw [Lib.cell_of_heap he]; rfl
            have e1 : wa.cell? ⟨wr.heap.size, 1, none⟩ = some (.slice pa la ca) := by rw [Lib.cell_of_heap he]; rfl
            have e2 : wa.cell? ⟨wr.heap.size, 2, none⟩ = some (.slice ps ls cc) := by rw [Lib.cell_of_heap he]; rfl
            have e3 : wa.cell? ⟨wr.heap.size, 3, none⟩ = some (.string aa) := by rw [Lib.cell_of_heap he]; rfl
            have e4 : wa.cell? ⟨wr.heap.size, 4, none⟩ = some (.int .i64 cm) := by rw [Lib.cell_of_heap he]; rfl
            have e5 : wa.cell? ⟨wr.heap.size, 5, none⟩ = some (.string tx) := by rw [Lib.cell_of_heap he]; rfl
            have e6 : wa.cell? ⟨wr.heap.size, 6, none⟩ = some (.int .i64 nu) := by rw [Lib.cell_of_heap he]; rfl
            clear hp hk he CB
            go_wp2_with fail
            refine (HC.out _ _ HPb.out (by have := HLx.out; simp at this ⊢; omega)).mono ?_
            rintro e wb ⟨rfl, hp, hk⟩
            have HPc := hide' hp
            have HKc := hide' (HKb.out.trans hk)
            clear hp hk
            go_wp2_with fail
            refine (wrByte (w0 := w0) (B := B) (b := b) HPc.out (by have := HLx.out; simp at this ⊢; omega) 93).mono ?_
            rintro e wc ⟨rfl, hp, hk⟩
            have HPd := hide' hp
            have HKd := hide' (HKc.out.trans hk)
            have HA5 : Hid ((((o2 ++ [91]) ++ ws) ++ [93]) ++ Ak.wL (Ak.cXs (l.drop (i + 1))) = ans) := hide' (by rw [HRR.out]; have := HAx.out; simpa [List.append_assoc] using this)
            have HL5 : Hid ((((o2 ++ [91]) ++ ws) ++ [93]).length + (Ak.wL (Ak.cXs (l.drop (i + 1)))).length ≤ 70368744177664) := hide' (by rw [HRR.out]; have := HLx.out; simp at this ⊢; omega)
            have HLT := hide' hlt
            clear hp hk hlt
            go_wp2_with fail
            exact ⟨⟨i + 1, _, rfl, HLT.out, HA5, HL5, HPd, HKd⟩, by have := HLT.out; simp [RowKit.intOf]; omega⟩
          · have t1 : ¬ (i : Int) < (n : Int) := by omega
            have ha := HA.out
            rw [Ak.wL_end l i (by have := HN.out; omega), List.append_nil] at ha
            subst ha
            go_wp2_with fail
            first | go_end0 | refine bodyPost_ret (results_none rfl _ _ _) rfl ?_
            exact ⟨rfl, HP.out, HK.out⟩
    · rw [if_neg (by omega)] at hans hL
      have ga : ((ja : Int) != 0) = true := by simp; omega
      have ga2 : ((ja : Int) == 0) = false := by simp; omega
      by_cases ht : jt = 0
      · rw [if_pos (by omega)] at hans hL
        have gt : ((jt : Int) == 0) = true := by simp; omega
        have HLt := hide' hL
        have HAn := hide' hans
        clear hans hL ha ht
        go_enter Tryz.func88, Tryz.ntmps88
        go_wp2_with fail
        refine CH.mono ?_
        rintro e w2 ⟨rfl, hb2⟩
        have HP2 := hide' (HP1.out.below hb2)
        have HK2 := hide' (HK1.out.trans (Ak.Kp.of_below (b := b) hb2))
        have HX2 := hide' ((hb2.block W.heap.size (by omega)).trans HX1.out)
        have x2_0 : w2.cell? ⟨W.heap.size, 0, none⟩ = some (.int .i64 (ja : Nat)) := by rw [Lib.cell_of_heap HX2.out]; rfl
        have x2_1 : w2.cell? ⟨W.heap.size, 1, none⟩ = some (.int .i64 (jt : Nat)) := by rw [Lib.cell_of_heap HX2.out]; rfl
        have x2_2 : w2.cell? ⟨W.heap.size, 2, none⟩ = some (.string nm) := by rw [Lib.cell_of_heap HX2.out]; rfl
        have x2_3 : w2.cell? ⟨W.heap.size, 3, none⟩ = some (.slice pw n cw) := by rw [Lib.cell_of_heap HX2.out]; rfl
        clear hb2 CH
        have y2 := HP2.out.cell HTA.out
        go_wp2_with fail
        refine (wrStr (w0 := w0) (B := B) (b := b) HP2.out sa (by have := HLt.out; simp at this ⊢; omega)).mono ?_
        rintro e w3 ⟨rfl, hp, hk⟩
        have HP3 := hide' hp
        have HK3 := hide' (HK2.out.trans hk)
        have HX3 := hide' (hk.keep HX2.out (by omega) (by decide))
        have x3_0 : w3.cell? ⟨W.heap.size, 0, none⟩ = some (.int .i64 (ja : Nat)) := by rw [Lib.cell_of_heap HX3.out]; rfl
        have x3_1 : w3.cell? ⟨W.heap.size, 1, none⟩ = some (.int .i64 (jt : Nat)) := by rw [Lib.cell_of_heap HX3.out]; rfl
        have x3_2 : w3.cell? ⟨W.heap.size, 2, none⟩ = some (.string nm) := by rw [Lib.cell_of_heap HX3.out]; rfl
        have x3_3 : w3.cell? ⟨W.heap.size, 3, none⟩ = some (.slice pw n cw) := by rw [Lib.cell_of_heap HX3.out]; rfl
        clear hp hk
        clear x2_0 x2_1 x2_2 x2_3
        go_wp2_with fail
        refine (wrStr (w0 := w0) (B := B) (b := b) HP3.out ⟨#[58, 58]⟩ (by have := HLt.out; simp [hcc] at this ⊢; omega)).mono ?_
        rintro e w4 ⟨rfl, hp, hk⟩
        have HP4 := hide' hp
        have HK4 := hide' (HK3.out.trans hk)
        have HX4 := hide' (hk.keep HX3.out (by omega) (by decide))
        have x4_0 : w4.cell? ⟨W.heap.size, 0, none⟩ = some (.int .i64 (ja : Nat)) := by rw [Lib.cell_of_heap HX4.out]; rfl
        have x4_1 : w4.cell? ⟨W.heap.size, 1, none⟩ = some (.int .i64 (jt : Nat)) := by rw [Lib.cell_of_heap HX4.out]; rfl
        have x4_2 : w4.cell? ⟨W.heap.size, 2, none⟩ = some (.string nm) := by rw [Lib.cell_of_heap HX4.out]; rfl
        have x4_3 : w4.cell? ⟨W.heap.size, 3, none⟩ = some (.slice pw n cw) := by rw [Lib.cell_of_heap HX4.out]; rfl
        clear hp hk
        clear x3_0 x3_1 x3_2 x3_3
        go_wp2_with fail
        refine (wrStr (w0 := w0) (B := B) (b := b) HP4.out nm (by have := HLt.out; simp [hcc] at this ⊢; omega)).mono ?_
        rintro e w5 ⟨rfl, hp, hk⟩
        have HP5 := hide' hp
        have HK5 := hide' (HK4.out.trans hk)
        have HX5 := hide' (hk.keep HX4.out (by omega) (by decide))
        have x5_0 : w5.cell? ⟨W.heap.size, 0, none⟩ = some (.int .i64 (ja : Nat)) := by rw [Lib.cell_of_heap HX5.out]; rfl
        have x5_1 : w5.cell? ⟨W.heap.size, 1, none⟩ = some (.int .i64 (jt : Nat)) := by rw [Lib.cell_of_heap HX5.out]; rfl
        have x5_2 : w5.cell? ⟨W.heap.size, 2, none⟩ = some (.string nm) := by rw [Lib.cell_of_heap HX5.out]; rfl
        have x5_3 : w5.cell? ⟨W.heap.size, 3, none⟩ = some (.slice pw n cw) := by rw [Lib.cell_of_heap HX5.out]; rfl
        clear hp hk
        clear x4_0 x4_1 x4_2 x4_3
        go_wp2_with fail
        have HA0 : Hid ((((out ++ Ak.by_ sa) ++ Ak.by_ ⟨#[58, 58]⟩) ++ Ak.by_ nm) ++ Ak.wL (Ak.cXs (l.drop 0)) = ans) := hide' (by rw [List.drop_zero, ← HAn.out]; simp [hcc])
        have HL0 : Hid (((((out ++ Ak.by_ sa) ++ Ak.by_ ⟨#[58, 58]⟩) ++ Ak.by_ nm)).length + (Ak.wL (Ak.cXs (l.drop 0))).length ≤ 70368744177664) := hide' (by rw [List.drop_zero]; have := HLt.out; simp [hcc] at this ⊢; omega)
        go_loopw [37] (fun v wr => ∃ (i : Nat) (o2 : List UInt8), v = .int .i64 i ∧ i ≤ n ∧ Hid (o2 ++ Ak.wL (Ak.cXs (l.drop i)) = ans) ∧ Hid (o2.length + (Ak.wL (Ak.cXs (l.drop i))).length ≤ 70368744177664) ∧ Hid (Ak.PrS w0 B b o2 wr) ∧ Hid (Ak.Kp b W wr)) (fun v _ => n - (RowKit.intOf v).toNat)
        case atStart => exact ⟨0, _, rfl, Nat.zero_le _, HA0, HL0, HP5, HK5⟩
        case round =>
          obtain ⟨i, o2, rfl, hi, HA, HL, HP, HK⟩ := hrel
          clear HA0 HL0 HLt HAn HP5 HK5 HX5 x5_0 x5_1 x5_2 x5_3
          by_cases hlt : i < n
          · have t1 : (i : Int) < (n : Int) := by omega
            have t0 : (0 : Int) ≤ i := by omega
            obtain ⟨g, o, rfl, hel⟩ := H3.out (by omega)
            obtain ⟨x, hx⟩ : ∃ x, l[i]? = some x := ⟨_, List.getElem?_eq_getElem (by rw [HN.out]; exact hlt)⟩
            obtain ⟨hrg, hok⟩ := hel i x hx
            have hcl := IH.out x (List.mem_of_getElem? hx) hok (Ak.gXs_at l i x HG.out hx)
            have hst := Ak.wL_at l i x hx
            have ha := HA.out
            have hl := HL.out
            rw [hst] at ha hl
            obtain ⟨ws, hws⟩ : ∃ u, Ak.wX (Ak.cX x) = u := ⟨_, rfl⟩
            rw [hws] at ha hl hcl
            obtain ⟨rr, hrr⟩ : ∃ u, Ak.wL (Ak.cXs (l.drop (i + 1))) = u := ⟨_, rfl⟩
            rw [hrr] at ha hl
            have HRR := hide' hrr
            obtain ⟨op, pa, ca, ar, ps, cc, st', aa, cm, tx, nu⟩ := x
            obtain ⟨la, hla⟩ : ∃ k, ar.length = k := ⟨_, rfl⟩
            obtain ⟨ls, hls⟩ : ∃ k, st'.length = k := ⟨_, rfl⟩
            have hrg2 : w0.rangeAt g (o + i * 7) [.int .i64 op, .slice pa la ca, .slice ps ls cc, .string aa, .int .i64 cm, .string tx, .int .i64 nu] := by rw [← hla, ← hls]; exact hrg
            have HC : Hid (∀ (w : World) (o3 : List UInt8), Ak.PrS w0 B b o3 w → o3.length + ws.length ≤ 70368744177664 → Calls Tryz.prog 117 #[.pointer (some ⟨b, 0, none⟩), .agg #[.int .i64 op, .slice pa la ca, .slice ps ls cc, .string aa, .int .i64 cm, .string tx, .int .i64 nu]] w (Ak.WrE w0 B b w (o3 ++ ws))) := hide' (fun w o3 h1 h2 => by rw [← hla, ← hls]; exact hcl w o3 h1 h2)
            have hEl : Below wr.heap.size wr (wr.alloc (.cells #[.int .i64 op, .slice pa la ca, .slice ps ls cc, .string aa, .int .i64 cm, .string tx, .int .i64 nu] 121)) := (Below.refl _ _).alloc (Nat.le_refl _) _
            have HPa := hide' (HP.out.below hEl)
            have HKa := hide' (HK.out.trans (Ak.Kp.of_below (b := b) hEl))
            have HEa := hide' (Ak.heap_new wr (.cells #[.int .i64 op, .slice pa la ca, .slice ps ls cc, .string aa, .int .i64 cm, .string tx, .int .i64 nu] 121))
            have hbr := (Ak.IsB.lt HP.out.ib).2
            have q0 := HP.out.cell (hrg2 0 _ rfl)
            have q1 := HP.out.cell (hrg2 1 _ rfl)
            have q2 := HP.out.cell (hrg2 2 _ rfl)
            have q3 := HP.out.cell (hrg2 3 _ rfl)
            have q4 := HP.out.cell (hrg2 4 _ rfl)
            have q5 := HP.out.cell (hrg2 5 _ rfl)
            have q6 := HP.out.cell (hrg2 6 _ rfl)
            rw [Nat.add_zero] at q0
            have tw : IntKind.i64.wrap ((i : Int) + 1) = (i : Int) + 1 := by have := HNC.out; rw [IntKind.wrap_i64]; omega
            have HAx := hide' ha
            have HLx := hide' hl
            have CB := hide' (wrByte (w0 := w0) (B := B) (b := b) HPa.out (by have := HLx.out; simp at this; omega) 91)
            clear hel hrg hrg2 hok hcl hst hx hla hls hws hrr HA HL HP HK H3 IH HG ha hl hEl
            go_wp2_with fail
            refine CB.out.mono ?_
            rintro e wa ⟨rfl, hp, hk⟩
            have HPb := hide' hp
            have HKb := hide' (HKa.out.trans hk)
            have he := hk.keep HEa.out (by omega) (by decide)
            have e0 : wa.cell? ⟨wr.heap.size, 0, none⟩ = some (.int .i64 op) := by rw [Lib.cell_of_heap he]; rfl
            have e1 : wa.cell? ⟨wr.heap.size, 1, none⟩ = some (.slice pa la ca) := by rw [Lib.cell_of_heap he]; rfl
            have e2 : wa.cell? ⟨wr.heap.size, 2, none⟩ = some (.slice ps ls cc) := by rw [Lib.cell_of_heap he]; rfl
            have e3 : wa.cell? ⟨wr.heap.size, 3, none⟩ = some (.string aa) := by rw [Lib.cell_of_heap he]; rfl
            have e4 : wa.cell? ⟨wr.heap.size, 4, none⟩ = some (.int .i64 cm) := by rw [Lib.cell_of_heap he]; rfl
            have e5 : wa.cell? ⟨wr.heap.size, 5, none⟩ = some (.string tx) := by rw [Lib.cell_of_heap he]; rfl
            have e6 : wa.cell? ⟨wr.heap.size, 6, none⟩ = some (.int .i64 nu) := by rw [Lib.cell_of_heap he]; rfl
            clear hp hk he CB
            go_wp2_with fail
            refine (HC.out _ _ HPb.out (by have := HLx.out; simp at this ⊢; omega)).mono ?_
            rintro e wb ⟨rfl, hp, hk⟩
            have HPc := hide' hp
            have HKc := hide' (HKb.out.trans hk)
            clear hp hk
            go_wp2_with fail
            refine (wrByte (w0 := w0) (B := B) (b := b) HPc.out (by have := HLx.out; simp at this ⊢; omega) 93).mono ?_
            rintro e wc ⟨rfl, hp, hk⟩
            have HPd := hide' hp
            have HKd := hide' (HKc.out.trans hk)
            have HA5 : Hid ((((o2 ++ [91]) ++ ws) ++ [93]) ++ Ak.wL (Ak.cXs (l.drop (i + 1))) = ans) := hide' (by rw [HRR.out]; have := HAx.out; simpa [List.append_assoc] using this)
            have HL5 : Hid ((((o2 ++ [91]) ++ ws) ++ [93]).length + (Ak.wL (Ak.cXs (l.drop (i + 1)))).length ≤ 70368744177664) := hide' (by rw [HRR.out]; have := HLx.out; simp at this ⊢; omega)
            have HLT := hide' hlt
            clear hp hk hlt
            go_wp2_with fail
            exact ⟨⟨i + 1, _, rfl, HLT.out, HA5, HL5, HPd, HKd⟩, by have := HLT.out; simp [RowKit.intOf]; omega⟩
          · have t1 : ¬ (i : Int) < (n : Int) := by omega
            have ha := HA.out
            rw [Ak.wL_end l i (by have := HN.out; omega), List.append_nil] at ha
            subst ha
            go_wp2_with fail
            first | go_end0 | refine bodyPost_ret (results_none rfl _ _ _) rfl ?_
            exact ⟨rfl, HP.out, HK.out⟩
      · rw [if_neg (by omega)] at hans hL
        have gt : ((jt : Int) == 0) = false := by simp; omega
        have HLt := hide' hL
        have HAn := hide' hans
        clear hans hL ha ht
        go_enter Tryz.func88, Tryz.ntmps88
        go_wp2_with fail
        refine CH.mono ?_
        rintro e w2 ⟨rfl, hb2⟩
        have HP2 := hide' (HP1.out.below hb2)
        have HK2 := hide' (HK1.out.trans (Ak.Kp.of_below (b := b) hb2))
        have HX2 := hide' ((hb2.block W.heap.size (by omega)).trans HX1.out)
        have x2_0 : w2.cell? ⟨W.heap.size, 0, none⟩ = some (.int .i64 (ja : Nat)) := by rw [Lib.cell_of_heap HX2.out]; rfl
        have x2_1 : w2.cell? ⟨W.heap.size, 1, none⟩ = some (.int .i64 (jt : Nat)) := by rw [Lib.cell_of_heap HX2.out]; rfl
        have x2_2 : w2.cell? ⟨W.heap.size, 2, none⟩ = some (.string nm) := by rw [Lib.cell_of_heap HX2.out]; rfl
        have x2_3 : w2.cell? ⟨W.heap.size, 3, none⟩ = some (.slice pw n cw) := by rw [Lib.cell_of_heap HX2.out]; rfl
        clear hb2 CH
        have y2 := HP2.out.cell HTA.out
        go_wp2_with fail
        refine (wrStr (w0 := w0) (B := B) (b := b) HP2.out sa (by have := HLt.out; simp at this ⊢; omega)).mono ?_
        rintro e w3 ⟨rfl, hp, hk⟩
        have HP3 := hide' hp
        have HK3 := hide' (HK2.out.trans hk)
        have HX3 := hide' (hk.keep HX2.out (by omega) (by decide))
        have x3_0 : w3.cell? ⟨W.heap.size, 0, none⟩ = some (.int .i64 (ja : Nat)) := by rw [Lib.cell_of_heap HX3.out]; rfl
        have x3_1 : w3.cell? ⟨W.heap.size, 1, none⟩ = some (.int .i64 (jt : Nat)) := by rw [Lib.cell_of_heap HX3.out]; rfl
        have x3_2 : w3.cell? ⟨W.heap.size, 2, none⟩ = some (.string nm) := by rw [Lib.cell_of_heap HX3.out]; rfl
        have x3_3 : w3.cell? ⟨W.heap.size, 3, none⟩ = some (.slice pw n cw) := by rw [Lib.cell_of_heap HX3.out]; rfl
        clear hp hk
        clear x2_0 x2_1 x2_2 x2_3
        go_wp2_with fail
        refine (wrStr (w0 := w0) (B := B) (b := b) HP3.out ⟨#[58, 58]⟩ (by have := HLt.out; simp [hcc] at this ⊢; omega)).mono ?_
        rintro e w4 ⟨rfl, hp, hk⟩
        have HP4 := hide' hp
        have HK4 := hide' (HK3.out.trans hk)
        have HX4 := hide' (hk.keep HX3.out (by omega) (by decide))
        have x4_0 : w4.cell? ⟨W.heap.size, 0, none⟩ = some (.int .i64 (ja : Nat)) := by rw [Lib.cell_of_heap HX4.out]; rfl
        have x4_1 : w4.cell? ⟨W.heap.size, 1, none⟩ = some (.int .i64 (jt : Nat)) := by rw [Lib.cell_of_heap HX4.out]; rfl
        have x4_2 : w4.cell? ⟨W.heap.size, 2, none⟩ = some (.string nm) := by rw [Lib.cell_of_heap HX4.out]; rfl
        have x4_3 : w4.cell? ⟨W.heap.size, 3, none⟩ = some (.slice pw n cw) := by rw [Lib.cell_of_heap HX4.out]; rfl
        clear hp hk
        have y5 := HP4.out.cell HTT.out
        clear x3_0 x3_1 x3_2 x3_3
        go_wp2_with fail
        refine (wrStr (w0 := w0) (B := B) (b := b) HP4.out st (by have := HLt.out; simp [hcc] at this ⊢; omega)).mono ?_
        rintro e w5 ⟨rfl, hp, hk⟩
        have HP5 := hide' hp
        have HK5 := hide' (HK4.out.trans hk)
        have HX5 := hide' (hk.keep HX4.out (by omega) (by decide))
        have x5_0 : w5.cell? ⟨W.heap.size, 0, none⟩ = some (.int .i64 (ja : Nat)) := by rw [Lib.cell_of_heap HX5.out]; rfl
        have x5_1 : w5.cell? ⟨W.heap.size, 1, none⟩ = some (.int .i64 (jt : Nat)) := by rw [Lib.cell_of_heap HX5.out]; rfl
        have x5_2 : w5.cell? ⟨W.heap.size, 2, none⟩ = some (.string nm) := by rw [Lib.cell_of_heap HX5.out]; rfl
        have x5_3 : w5.cell? ⟨W.heap.size, 3, none⟩ = some (.slice pw n cw) := by rw [Lib.cell_of_heap HX5.out]; rfl
        clear hp hk
        clear x4_0 x4_1 x4_2 x4_3
        go_wp2_with fail
        have HA0 : Hid ((((out ++ Ak.by_ sa) ++ Ak.by_ ⟨#[58, 58]⟩) ++ Ak.by_ st) ++ Ak.wL (Ak.cXs (l.drop 0)) = ans) := hide' (by rw [List.drop_zero, ← HAn.out]; simp [hcc])
        have HL0 : Hid (((((out ++ Ak.by_ sa) ++ Ak.by_ ⟨#[58, 58]⟩) ++ Ak.by_ st)).length + (Ak.wL (Ak.cXs (l.drop 0))).length ≤ 70368744177664) := hide' (by rw [List.drop_zero]; have := HLt.out; simp [hcc] at this ⊢; omega)
        go_loopw [37] (fun v wr => ∃ (i : Nat) (o2 : List UInt8), v = .int .i64 i ∧ i ≤ n ∧ Hid (o2 ++ Ak.wL (Ak.cXs (l.drop i)) = ans) ∧ Hid (o2.length + (Ak.wL (Ak.cXs (l.drop i))).length ≤ 70368744177664) ∧ Hid (Ak.PrS w0 B b o2 wr) ∧ Hid (Ak.Kp b W wr)) (fun v _ => n - (RowKit.intOf v).toNat)
        case atStart => exact ⟨0, _, rfl, Nat.zero_le _, HA0, HL0, HP5, HK5⟩
        case round =>
          obtain ⟨i, o2, rfl, hi, HA, HL, HP, HK⟩ := hrel
          clear HA0 HL0 HLt HAn HP5 HK5 HX5 x5_0 x5_1 x5_2 x5_3
          by_cases hlt : i < n
          · have t1 : (i : Int) < (n : Int) := by omega
            have t0 : (0 : Int) ≤ i := by omega
            obtain ⟨g, o, rfl, hel⟩ := H3.out (by omega)
            obtain ⟨x, hx⟩ : ∃ x, l[i]? = some x := ⟨_, List.getElem?_eq_getElem (by rw [HN.out]; exact hlt)⟩
            obtain ⟨hrg, hok⟩ := hel i x hx
            have hcl := IH.out x (List.mem_of_getElem? hx) hok (Ak.gXs_at l i x HG.out hx)
            have hst := Ak.wL_at l i x hx
            have ha := HA.out
            have hl := HL.out
            rw [hst] at ha hl
            obtain ⟨ws, hws⟩ : ∃ u, Ak.wX (Ak.cX x) = u := ⟨_, rfl⟩
            rw [hws] at ha hl hcl
            obtain ⟨rr, hrr⟩ : ∃ u, Ak.wL (Ak.cXs (l.drop (i + 1))) = u := ⟨_, rfl⟩
            rw [hrr] at ha hl
            have HRR := hide' hrr
            obtain ⟨op, pa, ca, ar, ps, cc, st', aa, cm, tx, nu⟩ := x
            obtain ⟨la, hla⟩ : ∃ k, ar.length = k := ⟨_, rfl⟩
            obtain ⟨ls, hls⟩ : ∃ k, st'.length = k := ⟨_, rfl⟩
            have hrg2 : w0.rangeAt g (o + i * 7) [.int .i64 op, .slice pa la ca, .slice ps ls cc, .string aa, .int .i64 cm, .string tx, .int .i64 nu] := by rw [← hla, ← hls]; exact hrg
            have HC : Hid (∀ (w : World) (o3 : List UInt8), Ak.PrS w0 B b o3 w → o3.length + ws.length ≤ 70368744177664 → Calls Tryz.prog 117 #[.pointer (some ⟨b, 0, none⟩), .agg #[.int .i64 op, .slice pa la ca, .slice ps ls cc, .string aa, .int .i64 cm, .string tx, .int .i64 nu]] w (Ak.WrE w0 B b w (o3 ++ ws))) := hide' (fun w o3 h1 h2 => by rw [← hla, ← hls]; exact hcl w o3 h1 h2)
            have hEl : Below wr.heap.size wr (wr.alloc (.cells #[.int .i64 op, .slice pa la ca, .slice ps ls cc, .string aa, .int .i64 cm, .string tx, .int .i64 nu] 121)) := (Below.refl _ _).alloc (Nat.le_refl _) _
            have HPa := hide' (HP.out.below hEl)
            have HKa := hide' (HK.out.trans (Ak.Kp.of_below (b := b) hEl))
            have HEa := hide' (Ak.heap_new wr (.cells #[.int .i64 op, .slice pa la ca, .slice ps ls cc, .string aa, .int .i64 cm, .string tx, .int .i64 nu] 121))
            have hbr := (Ak.IsB.lt HP.out.ib).2
            have q0 := HP.out.cell (hrg2 0 _ rfl)
            have q1 := HP.out.cell (hrg2 1 _ rfl)
            have q2 := HP.out.cell (hrg2 2 _ rfl)
            have q3 := HP.out.cell (hrg2 3 _ rfl)
            have q4 := HP.out.cell (hrg2 4 _ rfl)
            have q5 := HP.out.cell (hrg2 5 _ rfl)
            have q6 := HP.out.cell (hrg2 6 _ rfl)
            rw [Nat.add_zero] at q0
            have tw : IntKind.i64.wrap ((i : Int) + 1) = (i : Int) + 1 := by have := HNC.out; rw [IntKind.wrap_i64]; omega
            have HAx := hide' ha
            have HLx := hide' hl
            have CB := hide' (wrByte (w0 := w0) (B := B) (b := b) HPa.out (by have := HLx.out; simp at this; omega) 91)
            clear hel hrg hrg2 hok hcl hst hx hla hls hws hrr HA HL HP HK H3 IH HG ha hl hEl
            go_wp2_with fail
            refine CB.out.mono ?_
            rintro e wa ⟨rfl, hp, hk⟩
            have HPb := hide' hp
            have HKb := hide' (HKa.out.trans hk)
            have he := hk.keep HEa.out (by omega) (by decide)
            have e0 : wa.cell? ⟨wr.heap.size, 0, none⟩ = some (.int .i64 op) := by rw [Lib.cell_of_heap he]; rfl
            have e1 : wa.cell? ⟨wr.heap.size, 1, none⟩ = some (.slice pa la ca) := by rw [Lib.cell_of_heap he]; rfl
            have e2 : wa.cell? ⟨wr.heap.size, 2, none⟩ = some (.slice ps ls cc) := by rw [Lib.cell_of_heap he]; rfl
            have e3 : wa.cell? ⟨wr.heap.size, 3, none⟩ = some (.string aa) := by rw [Lib.cell_of_heap he]; rfl
            have e4 : wa.cell? ⟨wr.heap.size, 4, none⟩ = some (.int .i64 cm) := by rw [Lib.cell_of_heap he]; rfl
            have e5 : wa.cell? ⟨wr.heap.size, 5, none⟩ = some (.string tx) := by rw [Lib.cell_of_heap he]; rfl
            have e6 : wa.cell? ⟨wr.heap.size, 6, none⟩ = some (.int .i64 nu) := by rw [Lib.cell_of_heap he]; rfl
            clear hp hk he CB
            go_wp2_with fail
            refine (HC.out _ _ HPb.out (by have := HLx.out; simp at this ⊢; omega)).mono ?_
            rintro e wb ⟨rfl, hp, hk⟩
            have HPc := hide' hp
            have HKc := hide' (HKb.out.trans hk)
            clear hp hk
            go_wp2_with fail
            refine (wrByte (w0 := w0) (B := B) (b := b) HPc.out (by have := HLx.out; simp at this ⊢; omega) 93).mono ?_
            rintro e wc ⟨rfl, hp, hk⟩
            have HPd := hide' hp
            have HKd := hide' (HKc.out.trans hk)
            have HA5 : Hid ((((o2 ++ [91]) ++ ws) ++ [93]) ++ Ak.wL (Ak.cXs (l.drop (i + 1))) = ans) := hide' (by rw [HRR.out]; have := HAx.out; simpa [List.append_assoc] using this)
            have HL5 : Hid ((((o2 ++ [91]) ++ ws) ++ [93]).length + (Ak.wL (Ak.cXs (l.drop (i + 1)))).length ≤ 70368744177664) := hide' (by rw [HRR.out]; have := HLx.out; simp at this ⊢; omega)
            have HLT := hide' hlt
            clear hp hk hlt
            go_wp2_with fail
            exact ⟨⟨i + 1, _, rfl, HLT.out, HA5, HL5, HPd, HKd⟩, by have := HLT.out; simp [RowKit.intOf]; omega⟩
          · have t1 : ¬ (i : Int) < (n : Int) := by omega
            have ha := HA.out
            rw [Ak.wL_end l i (by have := HN.out; omega), List.append_nil] at ha
            subst ha
            go_wp2_with fail
            first | go_end0 | refine bodyPost_ret (results_none rfl _ _ _) rfl ?_
            exact ⟨rfl, HP.out, HK.out⟩
end Go.Proofs.YtcnagbkdckipnaaGreatDoor
