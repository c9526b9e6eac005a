/-
  WALKS over (*Hunt).Close, .Truth.
-/
import Derived.Test.YtgbldbohadacmaaHtAdd
namespace Go.Proofs.Ytgbldbohadacmaa
open Go.RowKit Go.Lib
set_option maxHeartbeats 2000000 in
theorem htCloseX {w : World} {b : Nat} {c : Int} {td : Bool} {N : Int} {xt xb : Value} {T L : List Nat} (hc : Ht.cok c) (h : Ht.Hq w b c td N xt xb T L false) (h2 : Ht.Rws w c T xt xb) :
    Calls Try.prog 11 #[.pointer (some ⟨b, 0, none⟩)] w fun e w' => e = .returned (.int .i64 0) ∧ Ht.Hq w' b c td N xt xb T L true ∧ Ht.Hb b w w' := by
  obtain ⟨q, t, h1, rfl, h4, h5⟩ := h
  simp only [Bool.false_eq_true, if_false] at h1
  obtain ⟨⟨p, m, cap, rfl, hm1, hm2⟩, hR⟩ := h2
  have hs := h1.set5 true
  obtain ⟨_, _, _, _, _, c5, _, _, fz⟩ := h1.cells
  obtain ⟨_, _, _, _, _, _, _, d7, fd⟩ := hs.cells
  have HS := hide' hs
  by_cases ho : Ht.opn c T N L = 1
  · have h0 : c ≠ 0 := by rintro rfl; simp [Ht.opn] at ho
    have hfe := hide' (Ht.fin_en hc ho (h4 ho))
    have hmT : Hid (Ht.en c N m q = Ht.en c N T.length q) := by
      show _ = _
      by_cases k : c = 1 ∨ c = 3 ∨ c = 4 ∨ c = 5
      · obtain ⟨g, cap', cur, e, _⟩ := hR.1 k
        cases e
        rfl
      · have : c = 6 ∨ c = 7 := by rcases hc with rfl | rfl | rfl | rfl | rfl | rfl | rfl <;> simp at k h0 ⊢
        rcases this with rfl | rfl <;> simp [Ht.en]
    have o1 : (Ht.opn c T N L == 1) = true := by simp [ho]
    have CE := hide' (htEnded hs hc h0)
    rw [hmT.out, ← hfe.out] at CE
    obtain ⟨o, hop⟩ : ∃ o, Ht.opn c T N L = o := ⟨_, rfl⟩
    obtain ⟨F, hF⟩ : ∃ F, Ht.fin c T N L = F := ⟨_, rfl⟩
    rw [hop] at o1 d7 HS
    rw [hF] at CE
    have HF := hide' hF
    have HQ := hide' h4
    clear ho h4 hfe hmT hs h1 hR hop hF hc
    go_enter Try.func11, Try.ntmps11
    go_wp2_with fail
    refine CE.out.mono ?_
    rintro e w1 ⟨rfl, rfl⟩
    clear CE
    go_wp2_with fail
    go_ret
    have hb := ((Ht.Hb.refl b w).setCell 5 (.bool true)).setCell 7 (.int .i64 F)
    exact ⟨rfl, ⟨q, F, HS.out.set7 F, by rw [← HF.out]; rfl, HQ.out, h5⟩, hb⟩
  · have o1 : (Ht.opn c T N L == 1) = false := by simp [ho]
    have hfe := hide' (Ht.opn_fin hc ho)
    obtain ⟨o, hop⟩ : ∃ o, Ht.opn c T N L = o := ⟨_, rfl⟩
    have HQ := hide' h4
    rw [hop] at o1 d7 HS hfe
    clear ho h4 hs h1 hR hop hc
    go_enter Try.func11, Try.ntmps11
    go_wp2_with fail
    go_ret
    have hb := (Ht.Hb.refl b w).setCell 5 (.bool true)
    exact ⟨rfl, ⟨q, o, HS.out, by rw [← hfe.out]; rfl, HQ.out, h5⟩, hb⟩
theorem htClose {w : World} {b : Nat} {c : Int} {td : Bool} {N : Int} {T L : List Nat} (h : Ht.Hu w b c td N T L false) :
    Calls Try.prog 11 #[.pointer (some ⟨b, 0, none⟩)] w fun e w' => e = .returned (.int .i64 0) ∧ Ht.Hu w' b c td N T L true ∧ Ht.Hb b w w' := by
  obtain ⟨hc, xt, xb, hq, hR⟩ := h.hq
  exact (htCloseX hc hq hR).mono fun e w' ⟨h1, h2, h3⟩ => ⟨h1, hq.up hc hR h2 h3, h3⟩
set_option maxHeartbeats 2000000 in
/-- behind its end -/
theorem htAddEnd {w : World} {b : Nat} {c : Int} {td : Bool} {N : Int} {T L : List Nat} (h : Ht.Hu w b c td N T L true) (s : ByteArray) :
    Calls Try.prog 10 #[.pointer (some ⟨b, 0, none⟩), .string s] w fun e w' => e = .returned (.int .i64 5) ∧ w' = w := by
  obtain ⟨hc, xt, xb, q, t, h1, _⟩ := h
  obtain ⟨_, _, _, _, _, c5, _, _, _⟩ := h1.cells
  clear h1
  go_enter Try.func10, Try.ntmps10
  go_wp2_with fail
  go_ret
  exact ⟨rfl, rfl⟩
set_option maxHeartbeats 2000000 in
theorem htCloseEnd {w : World} {b : Nat} {c : Int} {td : Bool} {N : Int} {T L : List Nat} (h : Ht.Hu w b c td N T L true) :
    Calls Try.prog 11 #[.pointer (some ⟨b, 0, none⟩)] w fun e w' => e = .returned (.int .i64 5) ∧ w' = w := by
  obtain ⟨hc, xt, xb, q, t, h1, _⟩ := h
  obtain ⟨_, _, _, _, _, c5, _, _, _⟩ := h1.cells
  clear h1
  go_enter Try.func11, Try.ntmps11
  go_wp2_with fail
  go_ret
  exact ⟨rfl, rfl⟩
set_option maxHeartbeats 2000000 in
theorem htTruth {w : World} {b : Nat} {c : Int} {td : Bool} {N : Int} {T L : List Nat} {wh : Bool} (h : Ht.Hu w b c td N T L wh) :
    Calls Try.prog 8 #[.pointer (some ⟨b, 0, none⟩)] w fun e w' => e = .returned (.int .i64 (Ht.tru c td N T L wh)) ∧ w' = w := by
  obtain ⟨hc, xt, xb, q, t, h1, _, ht, _⟩ := h
  have hr : t = 0 ∨ t = 1 ∨ t = 2 := by
    rw [ht]
    cases wh
    · exact Ht.opn_rng _ _ _ _
    · rcases Ht.fin_rng c T N L with k | k <;> simp [k]
  unfold Ht.tru
  rw [← ht]
  obtain ⟨_, c1, _, _, _, _, _, c7, _⟩ := h1.cells
  have CN := hide' (htNot t w hr)
  clear h1 ht hr
  cases td
  · go_enter Try.func8, Try.ntmps8
    go_wp2_with fail
    go_ret
    exact ⟨rfl, rfl⟩
  · go_enter Try.func8, Try.ntmps8
    go_wp2_with fail
    refine CN.out.mono ?_
    rintro e w1 ⟨rfl, rfl⟩
    go_wp2_with fail
    go_ret
    exact ⟨rfl, rfl⟩
end Go.Proofs.Ytgbldbohadacmaa
