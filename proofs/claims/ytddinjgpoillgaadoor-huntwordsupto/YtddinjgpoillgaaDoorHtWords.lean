/-
  THE WALK over gimletlaw16.HuntWords (gen_words.py).
-/
import Derived.Test.YtddinjgpoillgaaDoorHtWordsM
import Derived.Test.YtddinjgpoillgaaDoorHtAwake
import Derived.Test.YtddinjgpoillgaaDoorWdLawFound
namespace Go.Proofs.YtddinjgpoillgaaDoor
open Go.RowKit Go.Lib
set_option maxRecDepth 100000 in
set_option maxHeartbeats 8000000 in
theorem lawWords16 (C N : Int) (f : Nat → Nat) (n : Nat) (g : Nat → Nat) (m : Nat) (w : World) (hf : ∀ j, f j < 256) (hg : ∀ j, g j < 256) (hn : n ≤ 1099511627776) (hm : m ≤ 274877906944) (hN2 : N ≤ 9223372036854775807) (hT0 : Lib.Utf8Tabs 0 1 w) :
    Calls Tryd.prog 3 #[.agg #[.int .i64 C, .string (Rn.arr f n), .int .i64 N], .string (Rn.arr g m)] w fun r w' => r = .returned (.bool true) ∧ Below w.heap.size w w' := by
  have CA := hide' (fun w1 => htAsked C N f n w1 hf hn hN2)
  unfold Ht.AskE at CA
  have HTB := hide' (fun w1 (h : Below w.heap.size w w1) => tabs_below hT0 h (Nat.le_refl _))
  have C1 := hide' (fun w1 (h : Below w.heap.size w w1) => compare_any g m f n w1 hg hf (HTB.out w1 h))
  have C3 := hide' (fun w1 (h : Below w.heap.size w w1) => wBegins_any g m f n w1 hg hf (HTB.out w1 h))
  have C4 := hide' (fun w1 (h : Below w.heap.size w w1) => ends_any g m f n w1 hg hf (by omega) hn (HTB.out w1 h))
  have C5 := hide' (fun w1 => find_any g m f n w1 hg hf (by omega) (by omega))
  have CL := hide' (fun w1 => length_any g m w1 hg (by omega))
  have hxl := Wd.R_length g m 0 hg
  obtain ⟨T, hT⟩ : ∃ T, Wd.R f n 0 = T := ⟨_, rfl⟩
  rw [hT] at CA C1 C3 C4 C5
  have hlt := Ht.inz_lt C (m := 9) (by omega)
  have CI := hide' (fun w1 => htInto C 9 w1 (by omega) (by omega))
  obtain ⟨c, hc⟩ : ∃ c, Ht.inz C 9 = c := ⟨_, rfl⟩
  obtain ⟨K, hK⟩ : ∃ K : Int, max N 0 = K := ⟨_, rfl⟩
  have hK2 := hK
  rw [hc] at hlt CI
  rw [hc, hK] at CA
  have CG := hide' (fun (w1 : World) b (h : Ht.Hu w1 b (Ht.cc c) (Ht.tdc c) (Ht.cn c K) T [] false) => htAdd h g m hg (by simp; omega))
  simp only [List.nil_append] at CG
  obtain ⟨X, hX⟩ : ∃ X, Wd.R g m 0 = X := ⟨_, rfl⟩
  rw [hX] at CG C1 C3 C4 C5 CL hxl
  obtain ⟨x, hx⟩ : ∃ x, X.length = x := ⟨_, rfl⟩
  have HXL := hide' hx
  rw [hx] at hxl CL
  have HW := hide' (fun P h => Ht.tru_want hlt T X K P h)
  obtain ⟨W, hWd⟩ : ∃ W, w.alloc (.cells #[.int .i64 C, .string (Rn.arr f n), .int .i64 N] 23) = W := ⟨_, rfl⟩
  have HBW : Hid (Below w.heap.size w W) := by rw [← hWd]; exact (Below.refl _ _).alloc (Nat.le_refl _) _
  have HUP : Hid (∀ w', Below W.heap.size W w' → Below w.heap.size w w') := fun w' h => HBW.out.trans (h.mono HBW.out.size)
  have HBX : Hid (∀ w', Below W.heap.size W w' → w'.cell? ⟨w.heap.size, 0, none⟩ = some (.int .i64 C) ∧ w'.cell? ⟨w.heap.size, 1, none⟩ = some (.string (Rn.arr f n)) ∧ w'.cell? ⟨w.heap.size, 2, none⟩ = some (.int .i64 N)) := fun w' h => by
    have hw0 : w.heap.size < W.heap.size := by rw [← hWd]; simp
    have e : ∀ o, w'.cell? ⟨w.heap.size, o, none⟩ = W.cell? ⟨w.heap.size, o, none⟩ := fun o => h.cell (p := ⟨w.heap.size, o, none⟩) hw0
    rw [e, e, e, ← hWd]
    refine ⟨?_, ?_, ?_⟩ <;> simp
  have HWd := hide' hWd
  clear hx hX hT hc hK hWd hf hg hT0
  go_enter Tryd.func3, Tryd.ntmps3
  go_wp2_with fail
  rw [HWd.out]
  refine (htAwake W).mono ?_
  rintro r w1 ⟨rfl, hb⟩
  have HB1 := hide' hb
  obtain ⟨q0, q1, q2⟩ := HBX.out w1 hb
  clear hb
  go_wp2_with fail
  refine (CA.out w1).mono ?_
  rintro r w2 ⟨b1, rfl, h1, hu, hb⟩
  have HB2 := hide' (HB1.out.trans (hb.mono HB1.out.size))
  have hb1 : W.heap.size ≤ b1 := Nat.le_trans HB1.out.size h1
  have HU := hide' hu
  clear q0 q1 q2 hu hb HB1 h1 CA
  go_wp2_with fail
  refine (CG.out w2 b1 HU.out).mono ?_
  rintro r w3 ⟨rfl, hu, hb⟩
  have HU3 := hide' hu
  have HB3 := hide' (HB2.out.trans (hb.below hb1 HB2.out.size))
  clear hu hb HB2 HU CG
  have CC := hide' (htClose HU3.out)
  go_wp2_with fail
  refine (CC.out).mono ?_
  rintro r w4 ⟨rfl, hu, hb⟩
  have HU4 := hide' hu
  have HB4 := hide' (HB3.out.trans (hb.below hb1 HB3.out.size))
  clear hu hb HB3 HU3 CC
  go_wp2_with fail
  refine (CL.out w4).mono ?_
  rintro r w5 ⟨rfl, hb⟩
  have HU5 := hide' (HU4.out.below hb)
  have HB5 := hide' (HB4.out.trans (hb.mono HB4.out.size))
  clear hb HU4 HB4 CL
  obtain ⟨q0, q1, q2⟩ := HBX.out w5 HB5.out
  go_wp2_with fail
  refine (CI.out w5).mono ?_
  rintro r w5' ⟨rfl, rfl⟩
  clear q0 q2 CI HBX
  have hb1z := hb1
  rcases (show c = 0 ∨ c = 1 ∨ c = 2 ∨ c = 3 ∨ c = 4 ∨ c = 5 ∨ c = 6 ∨ c = 7 ∨ c = 8 by omega) with rfl | rfl | rfl | rfl | rfl | rfl | rfl | rfl | rfl
  · have CT := hide' (htTruth HU5.out)
    rw [HW.out true (by simp [Ht.wantP])] at CT
    simp only [if_true] at CT
    go_wp2_with fail
    refine (CT.out).mono ?_
    rintro r w7 ⟨rfl, rfl⟩
    go_wp2_with fail
    go_ret
    exact ⟨rfl, HUP.out _ HB5.out⟩
  · go_wp2_with fail
    refine (C1.out w5' (HUP.out _ HB5.out)).mono ?_
    rintro r w6 ⟨rfl, hb⟩
    have HU6 := hide' (HU5.out.below hb)
    have HB6 := hide' (HB5.out.trans (hb.mono HB5.out.size))
    clear hb HU5 HB5
    obtain ⟨z, hz⟩ : ∃ z, Wd.cmp X T = z := ⟨_, rfl⟩
    obtain ⟨P, hP⟩ : ∃ P, (z == 0) = P := ⟨_, rfl⟩
    have HP : Hid (P = true ↔ Ht.wantP 1 T X K) := by
      show P = true ↔ _
      rw [← hP, ← hz]
      simp [Ht.wantP, Ht.cmp_same]
    rw [hz]
    clear hz
    have CT := hide' (htTruth HU6.out)
    rw [HW.out P HP.out] at CT
    cases P
    · simp only [Bool.false_eq_true, if_false] at CT
      go_wp2_with fail
      refine (CT.out).mono ?_
      rintro r w7 ⟨rfl, rfl⟩
      go_wp2_with fail
      go_ret
      exact ⟨rfl, HUP.out _ HB6.out⟩
    · simp only [if_true] at CT
      go_wp2_with fail
      refine (CT.out).mono ?_
      rintro r w7 ⟨rfl, rfl⟩
      go_wp2_with fail
      go_ret
      exact ⟨rfl, HUP.out _ HB6.out⟩
  · go_wp2_with fail
    refine (C1.out w5' (HUP.out _ HB5.out)).mono ?_
    rintro r w6 ⟨rfl, hb⟩
    have HU6 := hide' (HU5.out.below hb)
    have HB6 := hide' (HB5.out.trans (hb.mono HB5.out.size))
    clear hb HU5 HB5
    obtain ⟨z, hz⟩ : ∃ z, Wd.cmp X T = z := ⟨_, rfl⟩
    obtain ⟨P, hP⟩ : ∃ P, (z != 0) = P := ⟨_, rfl⟩
    have HP : Hid (P = true ↔ Ht.wantP 2 T X K) := by
      show P = true ↔ _
      rw [← hP, ← hz]
      simp [Ht.wantP, Ht.cmp_same]
    rw [hz]
    clear hz
    have CT := hide' (htTruth HU6.out)
    rw [HW.out P HP.out] at CT
    cases P
    · simp only [Bool.false_eq_true, if_false] at CT
      go_wp2_with fail
      refine (CT.out).mono ?_
      rintro r w7 ⟨rfl, rfl⟩
      go_wp2_with fail
      go_ret
      exact ⟨rfl, HUP.out _ HB6.out⟩
    · simp only [if_true] at CT
      go_wp2_with fail
      refine (CT.out).mono ?_
      rintro r w7 ⟨rfl, rfl⟩
      go_wp2_with fail
      go_ret
      exact ⟨rfl, HUP.out _ HB6.out⟩
  · go_wp2_with fail
    refine (C3.out w5' (HUP.out _ HB5.out)).mono ?_
    rintro r w6 ⟨rfl, hb⟩
    have HU6 := hide' (HU5.out.below hb)
    have HB6 := hide' (HB5.out.trans (hb.mono HB5.out.size))
    clear hb HU5 HB5
    obtain ⟨P, hP⟩ : ∃ P, decide ((Wd.fu X T).2 = -1) = P := ⟨_, rfl⟩
    have HP : Hid (P = true ↔ Ht.wantP 3 T X K) := by
      show P = true ↔ _
      rw [← hP]
      simp [Ht.wantP, Ht.fu_pre]
    rw [hP]
    clear hP
    have CT := hide' (htTruth HU6.out)
    rw [HW.out P HP.out] at CT
    cases P
    · simp only [Bool.false_eq_true, if_false] at CT
      go_wp2_with fail
      refine (CT.out).mono ?_
      rintro r w7 ⟨rfl, rfl⟩
      go_wp2_with fail
      go_ret
      exact ⟨rfl, HUP.out _ HB6.out⟩
    · simp only [if_true] at CT
      go_wp2_with fail
      refine (CT.out).mono ?_
      rintro r w7 ⟨rfl, rfl⟩
      go_wp2_with fail
      go_ret
      exact ⟨rfl, HUP.out _ HB6.out⟩
  · go_wp2_with fail
    refine (C4.out w5' (HUP.out _ HB5.out)).mono ?_
    rintro r w6 ⟨⟨P, rfl, hP⟩, hb⟩
    have HU6 := hide' (HU5.out.below hb)
    have HB6 := hide' (HB5.out.trans (hb.mono HB5.out.size))
    have HP : Hid (P = true ↔ Ht.wantP 4 T X K) := by
      show P = true ↔ _
      rw [hP]
      have := Ht.st_suffix (X := X) (T := T)
      rw [Ht.lg_eq, Ht.lg_eq, this]
      simp [Ht.wantP]
    clear hb HU5 HB5 hP
    have CT := hide' (htTruth HU6.out)
    rw [HW.out P HP.out] at CT
    cases P
    · simp only [Bool.false_eq_true, if_false] at CT
      go_wp2_with fail
      refine (CT.out).mono ?_
      rintro r w7 ⟨rfl, rfl⟩
      go_wp2_with fail
      go_ret
      exact ⟨rfl, HUP.out _ HB6.out⟩
    · simp only [if_true] at CT
      go_wp2_with fail
      refine (CT.out).mono ?_
      rintro r w7 ⟨rfl, rfl⟩
      go_wp2_with fail
      go_ret
      exact ⟨rfl, HUP.out _ HB6.out⟩
  · go_wp2_with fail
    refine (C5.out w5').mono ?_
    rintro r w6 ⟨⟨z, rfl, hz⟩, hb⟩
    have HU6 := hide' (HU5.out.below hb)
    have HB6 := hide' (HB5.out.trans (hb.mono HB5.out.size))
    obtain ⟨P, hP⟩ : ∃ P, decide (0 ≤ z) = P := ⟨_, rfl⟩
    have HP : Hid (P = true ↔ Ht.wantP 5 T X K) := by
      show P = true ↔ _
      rw [← hP]
      rw [Ht.lg_eq, Ht.lg_eq] at hz
      simp [Ht.wantP, Ht.fis_infix hz]
    clear hb HU5 HB5 hz
    have CT := hide' (htTruth HU6.out)
    rw [HW.out P HP.out] at CT
    cases P
    · simp only [Bool.false_eq_true, if_false] at CT
      go_wp2_with fail
      refine (CT.out).mono ?_
      rintro r w7 ⟨rfl, rfl⟩
      go_wp2_with fail
      go_ret
      exact ⟨rfl, HUP.out _ HB6.out⟩
    · simp only [if_true] at CT
      go_wp2_with fail
      refine (CT.out).mono ?_
      rintro r w7 ⟨rfl, rfl⟩
      go_wp2_with fail
      go_ret
      exact ⟨rfl, HUP.out _ HB6.out⟩
  · obtain ⟨P, hP⟩ : ∃ P, ((x : Int) == K) = P := ⟨_, rfl⟩
    have HP : Hid (P = true ↔ Ht.wantP 6 T X K) := by
      show P = true ↔ _
      rw [← hP, ← HXL.out]
      simp [Ht.wantP]
    have CT := hide' (htTruth HU5.out)
    rw [HW.out P HP.out] at CT
    cases P
    · simp only [Bool.false_eq_true, if_false] at CT
      go_wp2_with fail
      refine (CT.out).mono ?_
      rintro r w7 ⟨rfl, rfl⟩
      go_wp2_with fail
      go_ret
      exact ⟨rfl, HUP.out _ HB5.out⟩
    · simp only [if_true] at CT
      go_wp2_with fail
      refine (CT.out).mono ?_
      rintro r w7 ⟨rfl, rfl⟩
      go_wp2_with fail
      go_ret
      exact ⟨rfl, HUP.out _ HB5.out⟩
  · obtain ⟨P, hP⟩ : ∃ P, decide (K < (x : Int)) = P := ⟨_, rfl⟩
    have HP : Hid (P = true ↔ Ht.wantP 7 T X K) := by
      show P = true ↔ _
      rw [← hP, ← HXL.out]
      simp [Ht.wantP]
    have CT := hide' (htTruth HU5.out)
    rw [HW.out P HP.out] at CT
    cases P
    · simp only [Bool.false_eq_true, if_false] at CT
      go_wp2_with fail
      refine (CT.out).mono ?_
      rintro r w7 ⟨rfl, rfl⟩
      go_wp2_with fail
      go_ret
      exact ⟨rfl, HUP.out _ HB5.out⟩
    · simp only [if_true] at CT
      go_wp2_with fail
      refine (CT.out).mono ?_
      rintro r w7 ⟨rfl, rfl⟩
      go_wp2_with fail
      go_ret
      exact ⟨rfl, HUP.out _ HB5.out⟩
  · obtain ⟨P, hP⟩ : ∃ P, decide ((x : Int) < K) = P := ⟨_, rfl⟩
    have HP : Hid (P = true ↔ Ht.wantP 8 T X K) := by
      show P = true ↔ _
      rw [← hP, ← HXL.out]
      simp [Ht.wantP]
    have CT := hide' (htTruth HU5.out)
    rw [HW.out P HP.out] at CT
    cases P
    · simp only [Bool.false_eq_true, if_false] at CT
      go_wp2_with fail
      refine (CT.out).mono ?_
      rintro r w7 ⟨rfl, rfl⟩
      go_wp2_with fail
      go_ret
      exact ⟨rfl, HUP.out _ HB5.out⟩
    · simp only [if_true] at CT
      go_wp2_with fail
      refine (CT.out).mono ?_
      rintro r w7 ⟨rfl, rfl⟩
      go_wp2_with fail
      go_ret
      exact ⟨rfl, HUP.out _ HB5.out⟩
end Go.Proofs.YtddinjgpoillgaaDoor
