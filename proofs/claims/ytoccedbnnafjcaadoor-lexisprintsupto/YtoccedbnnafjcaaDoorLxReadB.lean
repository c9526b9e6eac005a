/-
  WALKS over lexis.readNumber and readSign.
-/
import Derived.Test.YtoccedbnnafjcaaDoorLxRead
namespace Go.Proofs.YtoccedbnnafjcaaDoor
open Go.RowKit Go.Lib

set_option maxRecDepth 100000 in
set_option maxHeartbeats 2000000 in
theorem readNumber_any (f : Nat → Nat) (n : Nat) (w : World) (hf : ∀ j, f j < 256) (hn : n ≤ 4611686018427387904) (hS : Spans w) :
    Calls Tryd.prog 45 #[.string (Rn.arr f n)] w fun e w' => e = .returned (Lx.rdNum f n).ans ∧ Below w.heap.size w w' := by
  have hsz := Rn.arr_size f n
  have cL : ∀ w1, Below w.heap.size w w1 → _ := fun w1 hb => leading_any f n 4 w1 hf (by omega) (hS.below hb (Nat.le_refl _))
  have hwn : Lx.lead f n 4 ≤ n := Lx.lead_le hf
  have hdg : ∀ j, j < Lx.lead f n 4 → 48 ≤ f j ∧ f j ≤ 57 := fun j hj => Lx.lead_digit hf hj
  have cM : ∀ w1, Below w.heap.size w w1 → _ := fun w1 hb => leading_any (Rn.off f (Lx.lead f n 4)) (n - Lx.lead f n 4) 2 w1 (fun _ => hf _) (by omega) (hS.below hb (Nat.le_refl _))
  obtain ⟨ANS, hANS⟩ : ∃ ANS, Lx.rdNum f n = ANS := ⟨_, rfl⟩
  rw [hANS]
  unfold Lx.rdNum at hANS
  generalize Lx.lead f n 4 = m at *
  have HA := hide' hANS
  clear hANS
  have e1 := arr_front f n m hwn
  have e2 := arr_rest f n m
  have i1 : (m : Int) ≤ n := by omega
  have i2 : (0 : Int) ≤ m := by omega
  have hszm := Rn.arr_size f m
  clear hS
  have HN := Lx.Emp.new w
  go_enter Tryd.func45, Tryd.ntmps45
  go_wp2_with fail
  refine (cL _ HN.2).mono ?_
  rintro e w1 ⟨rfl, hb⟩
  have HE := HN.below hb
  have hl1 := HE.lt
  have HEh := hide' HE
  clear hb HN cL HE
  go_wp2_with fail
  go_loopw [3, 5] (fun v3 v wr => ∃ (pos a : Nat), v3 = .int .i64 m ∧ v = .int .i64 a ∧ a ≤ 1000000 ∧ pos ≤ m ∧ wr.heap[w1.heap.size]? = some (.stringIter (Rn.arr f m) pos) ∧ Lx.numF f (m - pos) pos a = Lx.num f m ∧ Lx.Emp w wr) (fun _ _ wr => m - wr.iterPos w1.heap.size)
  case atStart => exact ⟨0, 0, rfl, rfl, by omega, by omega, World.iter_heap w1 _ 0, rfl, HEh.out.below ((Below.refl _ _).alloc (Nat.le_refl _) _)⟩
  case round =>
    obtain ⟨pos, a, rfl, rfl, ha, hpm, hit, hpre, HE⟩ := hrel
    by_cases hlt : pos < m
    · have hnx : ∀ ty, (Instr.next (.pointer (some ⟨w1.heap.size, 0, none⟩)) true ty).run Tryd.prog wr = _ := fun ty => Lib.run_next_any_at wr w1.heap.size (Rn.arr f m) pos ty hit (by rw [hszm]; exact hlt)
      obtain ⟨d1, d2⟩ := hdg pos hlt
      rw [Rn.arr_decode f m pos hf hlt, Lx.dec_low (f := Rn.off f pos) (by simp [Rn.off]; omega)] at hnx
      have hit2 := Lib.iterAt_heap wr w1.heap.size (Rn.arr f m) pos (pos + 1) hit
      have HE2 : Lx.Emp w (wr.iterAt w1.heap.size (Rn.arr f m) (pos + 1)) := ⟨(Lib.below_iterAt (Below.refl w1.heap.size wr) (Nat.le_refl _) (Rn.arr f m) (pos + 1)).block _ hl1 |>.trans HE.1, Lib.below_iterAt HE.2 (by omega) _ _⟩
      obtain ⟨d, hd⟩ : ∃ d, f pos = d + 48 := ⟨f pos - 48, by omega⟩
      have hd9 : d ≤ 9 := by omega
      have hst : Lx.numF f (m - pos) pos a = if 1000000 < a * 10 + d then a * 10 + d else Lx.numF f (m - (pos + 1)) (pos + 1) (a * 10 + d) := by
        obtain ⟨q, hq⟩ : ∃ q, m - pos = q + 1 := ⟨m - pos - 1, by omega⟩
        rw [hq, show m - (pos + 1) = q by omega]
        show (if _ then _ else _) = _
        rw [show f pos - 48 = d by omega]
      rw [hst] at hpre
      simp only [Rn.off, Nat.add_zero, hd] at hnx
      have HI := hide' hit2
      have HE2h := hide' HE2
      clear hst HE HE2 hit2 d1 d2 hd hdg cM
      by_cases hbig : 1000000 < a * 10 + d
      · rw [if_pos hbig] at hpre
        have HP := hide' hpre
        have g1 : (1000000 : Int) < (a : Int) * 10 + d := by omega
        clear hpre hit
        go_wp2_with (refine wpList_store_mid rfl 43 (.tmp 2) (.tmp 25) rfl w.heap.size 0 (Lx.wdC 0 ⟨#[]⟩ 0 (0, 0, 0, 0)) rfl rfl HE2h.out.there Lx.wdInfo (Lx.wdOne _ _ _ _) ?_)
        exact bodyPost_ret (v := (Lx.Wd.mk 0 ⟨#[]⟩ 0 0 false).ans) (Lx.results_word Tryd.results45 _ ⟨w.heap.size, 0, none⟩ rfl _ _ _ _ (HE2h.out.load _ _ _ _) rfl rfl) rfl ⟨by rw [← HA.out, if_pos (by rw [← HP.out]; exact hbig)], HE2h.out.fin _⟩
      · rw [if_neg hbig] at hpre
        have g1 : ¬ (1000000 : Int) < (a : Int) * 10 + d := by omega
        have HP := hide' hpre
        have HJ := hide' hit
        clear hpre hit
        go_wp2_with fail
        go_roundw
        case rel => exact ⟨pos + 1, a * 10 + d, rfl, by go_num, by omega, by omega, HI.out, HP.out, HE2h.out⟩
        case measure => simp only [World.iterPos, HI.out, HJ.out]; omega
    · obtain rfl : pos = m := by omega
      have hnx : ∀ ty, (Instr.next (.pointer (some ⟨w1.heap.size, 0, none⟩)) true ty).run Tryd.prog wr = _ := fun ty => Lib.run_next_end_at wr w1.heap.size (Rn.arr f pos) pos ty hit (by rw [hszm]; exact hlt)
      rw [Nat.sub_self] at hpre
      have hpre' : a = Lx.num f pos := hpre
      have HP := hide' hpre'
      have cM' := cM wr HE.2
      have HEw := hide' HE
      clear hpre hpre' hit HE cM hdg
      by_cases hns : 0 < Lx.lead (Rn.off f pos) (n - pos) 2
      · have HA2 := hide' (show ANS = Lx.Wd.mk 0 ⟨#[]⟩ 0 pos false by rw [← HA.out, if_neg (by rw [← HP.out]; omega), if_pos hns])
        clear HA
        generalize Lx.lead (Rn.off f pos) (n - pos) 2 = z at *
        have g1 : (0 : Int) < z := by omega
        go_wp2_with fail
        refine cM'.mono ?_
        rintro e w2 ⟨rfl, hb2⟩
        have HE3 := hide' (HEw.out.below hb2)
        clear hb2 HEw cM'
        go_wp2_with (refine wpList_store_mid rfl 43 (.tmp 2) (.tmp 31) rfl w.heap.size 0 (Lx.wdC 0 ⟨#[]⟩ 0 (0, 0, 0, 0)) rfl rfl HE3.out.there Lx.wdInfo (Lx.wdOne _ _ _ _) ?_)
        exact bodyPost_ret (v := (Lx.Wd.mk 0 ⟨#[]⟩ 0 pos false).ans) (Lx.results_word Tryd.results45 _ ⟨w.heap.size, 0, none⟩ rfl _ _ _ _ (HE3.out.load _ _ _ _) rfl rfl) rfl ⟨by rw [HA2.out], HE3.out.fin _⟩
      · have HA2 := hide' (show ANS = Lx.Wd.mk 2 ⟨#[]⟩ a pos true by rw [← HA.out, if_neg (by rw [← HP.out]; omega), if_neg hns, ← HP.out])
        clear HA
        generalize Lx.lead (Rn.off f pos) (n - pos) 2 = z at *
        have g1 : ¬ (0 : Int) < z := by omega
        go_wp2_with fail
        refine cM'.mono ?_
        rintro e w2 ⟨rfl, hb2⟩
        have HE3 := hide' (HEw.out.below hb2)
        clear hb2 HEw cM'
        go_wp2_with (refine wpList_store_mid rfl 43 (.tmp 2) (.tmp 34) rfl w.heap.size 0 (Lx.wdC 2 ⟨#[]⟩ a (0, 0, 0, 0)) rfl rfl HE3.out.there Lx.wdInfo (Lx.wdOne _ _ _ _) ?_)
        exact bodyPost_ret (v := (Lx.Wd.mk 2 ⟨#[]⟩ a pos true).ans) (Lx.results_word Tryd.results45 _ ⟨w.heap.size, 0, none⟩ rfl _ _ _ _ (HE3.out.load _ _ _ _) rfl rfl) rfl ⟨by rw [HA2.out], HE3.out.fin _⟩
end Go.Proofs.YtoccedbnnafjcaaDoor
