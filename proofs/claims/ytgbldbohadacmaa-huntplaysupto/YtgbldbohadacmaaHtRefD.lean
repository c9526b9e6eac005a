/-
  WALKS over the document's hunt: Open (gen_refc.py).
-/
import Derived.Test.YtgbldbohadacmaaHtRefB
namespace Go.Proofs.Ytgbldbohadacmaa
open Go.RowKit Go.Lib
set_option maxRecDepth 100000 in
set_option maxHeartbeats 4000000 in
theorem htRefOpen (c : Nat) (hc : c < 9) (L T : List Nat) (vs vt : Value) (N : Int) (w : World) (hs : Ht.Ni w vs L) (ht : Ht.Ni w vt T) (hL : L.length ≤ 1099511627776) (hT : T.length ≤ 1099511627776) :
    Calls Try.prog 21 #[vs, vt, .int .i64 (c : Int), .int .i64 N] w fun e w' => e = .returned (.int .i64 (Ht.tru (Ht.cc c) (Ht.tdc c) (Ht.cn c N) T L false)) ∧ ∃ k, w' = w.drewN k := by
  have HS := hide' hs
  have HT := hide' ht
  obtain ⟨ps, cs, rfl, s1, s2, -⟩ := hs
  obtain ⟨pt, ct, rfl, t1, t2, -⟩ := ht
  have CA := hide' (htRefAt L T _ _ 0 w HS.out HT.out hL hT (by omega))
  have CB := hide' (htRefAt T L _ _ 0 w HT.out HS.out hT hL (by omega))
  have CB2 := hide' (fun q => htRefAt T L _ _ 0 (w.drewN q) (HT.out.drewN q) (HS.out.drewN q) hT hL (by omega))
  have CS := hide' (htRefAt L T _ _ ((L.length : Int) - (T.length : Int)) w HS.out HT.out hL hT (by omega))
  have CW := hide' (htRefWithin L T _ _ w HS.out HT.out hL hT)
  rw [Ht.at_pre] at CA CB CB2
  rw [Ht.at_suf] at CS
  obtain ⟨l, hl⟩ : ∃ l, L.length = l := ⟨_, rfl⟩
  obtain ⟨m, hm⟩ : ∃ m, T.length = m := ⟨_, rfl⟩
  have HL := hide' hl
  rw [hl] at CA CB CB2 CS CW hL s1
  rw [hm] at CA CB CB2 CS CW hT t1
  rw [hl, hm]
  clear HS HT hl hm
  have CN := hide' htRefNever
  have CL := hide' htRefLate
  rcases (show c = 0 ∨ c = 1 ∨ c = 2 ∨ c = 3 ∨ c = 4 ∨ c = 5 ∨ c = 6 ∨ c = 7 ∨ c = 8 by omega) with rfl | rfl | rfl | rfl | rfl | rfl | rfl | rfl | rfl
  · clear CA CB CB2 CS CW CN CL
    go_enter Try.func21, Try.ntmps21
    go_wp2_with fail
    go_ret
    refine ⟨?_, 0, rfl⟩
    unfold Ht.tru Ht.cc Ht.tdc Ht.cn Ht.opn Ht.no
    simp
  · clear CA CB2 CS CW CL
    go_enter Try.func21, Try.ntmps21
    go_wp2_with fail
    refine (CB.out).mono ?_
    rintro r w1 ⟨⟨P, rfl, hP⟩, q, rfl⟩
    have HP := hide' hP
    clear hP
    go_wp2_with fail
    refine (CN.out _ _).mono ?_
    rintro r w2 ⟨v, rfl, hv, rfl⟩
    have HV := hide' hv
    clear hv
    go_wp2_with fail
    go_ret
    have hP := HP.out
    refine ⟨?_, q, rfl⟩
    rw [HV.out]
    by_cases hx : L <+: T
    · obtain rfl := hP.2 hx
      unfold Ht.tru Ht.cc Ht.tdc Ht.cn Ht.opn Ht.no
      simp [hx]
    · obtain rfl : P = false := by
        cases P
        · rfl
        · exact absurd (hP.1 rfl) hx
      unfold Ht.tru Ht.cc Ht.tdc Ht.cn Ht.opn Ht.no
      simp [hx]
  · clear CA CB2 CS CW CN
    go_enter Try.func21, Try.ntmps21
    go_wp2_with fail
    refine (CB.out).mono ?_
    rintro r w1 ⟨⟨P, rfl, hP⟩, q, rfl⟩
    have HP := hide' hP
    clear hP
    go_wp2_with fail
    refine (CL.out _ _).mono ?_
    rintro r w2 ⟨v, rfl, hv, rfl⟩
    have HV := hide' hv
    clear hv
    go_wp2_with fail
    go_ret
    have hP := HP.out
    refine ⟨?_, q, rfl⟩
    rw [HV.out]
    by_cases hx : L <+: T
    · obtain rfl := hP.2 hx
      unfold Ht.tru Ht.cc Ht.tdc Ht.cn Ht.opn Ht.no
      simp [hx]
    · obtain rfl : P = false := by
        cases P
        · rfl
        · exact absurd (hP.1 rfl) hx
      unfold Ht.tru Ht.cc Ht.tdc Ht.cn Ht.opn Ht.no
      simp [hx]
  · clear CB CS CW CL
    go_enter Try.func21, Try.ntmps21
    go_wp2_with fail
    refine (CA.out).mono ?_
    rintro r w1 ⟨⟨P, rfl, hP⟩, q, rfl⟩
    have HP := hide' hP
    clear hP
    cases P
    · have HQ : Hid (¬ T <+: L) := fun h => by
        have := HP.out.2 h
        cases this
      clear HP
      go_wp2_with fail
      refine (CB2.out q).mono ?_
      rintro r w2 ⟨⟨P, rfl, hP⟩, q2, rfl⟩
      have HP := hide' hP
      clear hP
      go_wp2_with fail
      refine (CN.out _ _).mono ?_
      rintro r w2 ⟨v, rfl, hv, rfl⟩
      have HV := hide' hv
      clear hv
      go_wp2_with fail
      go_ret
      have hy := HQ.out
      have hP := HP.out
      refine ⟨?_, _, rfl⟩
      rw [HV.out]
      by_cases hx : L <+: T
      · obtain rfl := hP.2 hx
        unfold Ht.tru Ht.cc Ht.tdc Ht.cn Ht.opn Ht.no
        simp [hx, hy]
      · obtain rfl : P = false := by
          cases P
          · rfl
          · exact absurd (hP.1 rfl) hx
        unfold Ht.tru Ht.cc Ht.tdc Ht.cn Ht.opn Ht.no
        simp [hx, hy]
    · have HQ : Hid (T <+: L) := HP.out.1 rfl
      clear HP
      go_wp2_with fail
      go_ret
      have hy := HQ.out
      refine ⟨?_, q, rfl⟩
      unfold Ht.tru Ht.cc Ht.tdc Ht.cn Ht.opn Ht.no
      simp [hy]
  · clear CA CB CB2 CS CW CN CL
    go_enter Try.func21, Try.ntmps21
    go_wp2_with fail
    go_ret
    refine ⟨?_, 0, rfl⟩
    unfold Ht.tru Ht.cc Ht.tdc Ht.cn Ht.opn Ht.no
    simp
  · clear CA CB CB2 CS CN
    go_enter Try.func21, Try.ntmps21
    go_wp2_with fail
    refine (CW.out).mono ?_
    rintro r w1 ⟨⟨P, rfl, hP⟩, q, rfl⟩
    have HP := hide' hP
    clear hP
    go_wp2_with fail
    refine (CL.out _ _).mono ?_
    rintro r w2 ⟨v, rfl, hv, rfl⟩
    have HV := hide' hv
    clear hv
    go_wp2_with fail
    go_ret
    have hP := HP.out
    refine ⟨?_, q, rfl⟩
    rw [HV.out]
    by_cases hx : T <:+: L
    · obtain rfl := hP.2 hx
      unfold Ht.tru Ht.cc Ht.tdc Ht.cn Ht.opn Ht.no
      simp [hx]
    · obtain rfl : P = false := by
        cases P
        · rfl
        · exact absurd (hP.1 rfl) hx
      unfold Ht.tru Ht.cc Ht.tdc Ht.cn Ht.opn Ht.no
      simp [hx]
  · clear CA CB CB2 CS CW CL
    go_enter Try.func21, Try.ntmps21
    go_wp2_with fail
    refine (CN.out _ _).mono ?_
    rintro r w2 ⟨v, rfl, hv, rfl⟩
    have HV := hide' hv
    clear hv
    go_wp2_with fail
    go_ret
    refine ⟨?_, 0, rfl⟩
    rw [HV.out]
    unfold Ht.tru Ht.cc Ht.tdc Ht.cn Ht.opn Ht.no
    rw [HL.out]
    simp
  · clear CA CB CB2 CS CW CN
    go_enter Try.func21, Try.ntmps21
    go_wp2_with fail
    refine (CL.out _ _).mono ?_
    rintro r w2 ⟨v, rfl, hv, rfl⟩
    have HV := hide' hv
    clear hv
    go_wp2_with fail
    go_ret
    refine ⟨?_, 0, rfl⟩
    rw [HV.out]
    unfold Ht.tru Ht.cc Ht.tdc Ht.cn Ht.opn Ht.no
    rw [HL.out]
    simp
  · clear CA CB CB2 CS CW CL
    go_enter Try.func21, Try.ntmps21
    go_wp2_with fail
    refine (CN.out _ _).mono ?_
    rintro r w2 ⟨v, rfl, hv, rfl⟩
    have HV := hide' hv
    clear hv
    go_wp2_with fail
    go_ret
    refine ⟨?_, 0, rfl⟩
    rw [HV.out]
    unfold Ht.tru Ht.cc Ht.tdc Ht.cn Ht.opn Ht.no
    rw [HL.out]
    by_cases hx : N ≤ (l : Int)
    · have hy : N - 1 < (l : Int) := by omega
      simp [hx, hy]
    · have hy : ¬ N - 1 < (l : Int) := by omega
      simp [hx, hy]
end Go.Proofs.Ytgbldbohadacmaa
