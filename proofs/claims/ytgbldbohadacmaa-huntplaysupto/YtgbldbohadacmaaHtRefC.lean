/-
  WALKS over the document's hunt: Whole, Open (gen_refc.py).
-/
import Derived.Test.YtgbldbohadacmaaHtRefB
namespace Go.Proofs.Ytgbldbohadacmaa
open Go.RowKit Go.Lib
set_option maxRecDepth 100000 in
set_option maxHeartbeats 4000000 in
theorem htRefWhole (c : Nat) (hc : c < 9) (L T : List Nat) (vs vt : Value) (N : Int) (w : World) (hs : Ht.Ni w vs L) (ht : Ht.Ni w vt T) (hL : L.length ≤ 1099511627776) (hT : T.length ≤ 1099511627776) :
    Calls Try.prog 20 #[vs, vt, .int .i64 (c : Int), .int .i64 N] w fun e w' => SaysB e (Ht.wantP c T L N) ∧ ∃ k, w' = w.drewN k := by
  have HS := hide' hs
  have HT := hide' ht
  obtain ⟨ps, cs, rfl, s1, s2, -⟩ := hs
  obtain ⟨pt, ct, rfl, t1, t2, -⟩ := ht
  have CA := hide' (htRefAt L T _ _ 0 w HS.out HT.out hL hT (by omega))
  have CB := hide' (htRefAt T L _ _ 0 w HT.out HS.out hT hL (by omega))
  have CS := hide' (htRefAt L T _ _ ((L.length : Int) - (T.length : Int)) w HS.out HT.out hL hT (by omega))
  have CW := hide' (htRefWithin L T _ _ w HS.out HT.out hL hT)
  rw [Ht.at_pre] at CA CB
  rw [Ht.at_suf] at CS
  have HEQ : Hid (L.length = T.length → (T <+: L ↔ L = T)) := fun e => ⟨fun h => (h.eq_of_length e.symm).symm, fun h => h ▸ List.prefix_refl _⟩
  have HNE : Hid (L.length ≠ T.length → L ≠ T) := fun e h => e (by rw [h])
  obtain ⟨l, hl⟩ : ∃ l, L.length = l := ⟨_, rfl⟩
  obtain ⟨m, hm⟩ : ∃ m, T.length = m := ⟨_, rfl⟩
  have HL := hide' hl
  rw [hl] at CA CB CS CW HEQ HNE hL s1
  rw [hm] at CA CB CS CW HEQ HNE hT t1
  rw [hl, hm]
  clear HS HT hl hm
  rcases (show c = 0 ∨ c = 1 ∨ c = 2 ∨ c = 3 ∨ c = 4 ∨ c = 5 ∨ c = 6 ∨ c = 7 ∨ c = 8 by omega) with rfl | rfl | rfl | rfl | rfl | rfl | rfl | rfl | rfl
  · clear CA CB CS CW
    go_enter Try.func20, Try.ntmps20
    go_wp2_with fail
    go_ret
    exact ⟨⟨true, rfl, by simp [Ht.wantP]⟩, 0, rfl⟩
  · clear CB CS CW
    by_cases hlm : l = m
    · subst hlm
      have e0 : ((l : Int) == (l : Int)) = true := by simp
      have HQ := hide' (HEQ.out rfl)
      clear HEQ HNE
      go_enter Try.func20, Try.ntmps20
      go_wp2_with (first | (go_at_call 27; refine (CA.out).mono ?_; rintro r w1 ⟨⟨P, rfl, hP⟩, q, rfl⟩))
      go_ret
      exact ⟨⟨P, rfl, by rw [hP, HQ.out]; simp [Ht.wantP]⟩, q, rfl⟩
    · have e0 : ((l : Int) == (m : Int)) = false := by simp; omega
      have HQ := hide' (HNE.out hlm)
      clear HEQ HNE CA hlm
      go_enter Try.func20, Try.ntmps20
      go_wp2_with fail
      go_ret
      exact ⟨⟨false, rfl, by simp [Ht.wantP, HQ.out]⟩, 0, rfl⟩
  · clear CB CS CW
    by_cases hlm : l = m
    · subst hlm
      have e0 : ((l : Int) != (l : Int)) = false := by simp
      have HQ := hide' (HEQ.out rfl)
      clear HEQ HNE
      go_enter Try.func20, Try.ntmps20
      go_wp2_with (first | (go_at_call 27; refine (CA.out).mono ?_; rintro r w1 ⟨⟨P, rfl, hP⟩, q, rfl⟩))
      go_ret
      exact ⟨⟨!P, rfl, by have := hP.trans HQ.out; cases P <;> simp_all [Ht.wantP]⟩, q, rfl⟩
    · have e0 : ((l : Int) != (m : Int)) = true := by simp; omega
      have HQ := hide' (HNE.out hlm)
      clear HEQ HNE CA hlm
      go_enter Try.func20, Try.ntmps20
      go_wp2_with fail
      go_ret
      exact ⟨⟨true, rfl, by simp [Ht.wantP, HQ.out]⟩, 0, rfl⟩
  · clear CB CS CW
    go_enter Try.func20, Try.ntmps20
    go_wp2_with fail
    refine (CA.out).mono ?_
    rintro r w1 ⟨⟨P, rfl, hP⟩, q, rfl⟩
    have HP := hide' hP
    clear hP
    go_wp2_with fail
    go_ret
    exact ⟨⟨P, rfl, by rw [HP.out]; simp [Ht.wantP]⟩, q, rfl⟩
  · clear CA CB CW
    go_enter Try.func20, Try.ntmps20
    go_wp2_with fail
    refine (CS.out).mono ?_
    rintro r w1 ⟨⟨P, rfl, hP⟩, q, rfl⟩
    have HP := hide' hP
    clear hP
    go_wp2_with fail
    go_ret
    exact ⟨⟨P, rfl, by rw [HP.out]; simp [Ht.wantP]⟩, q, rfl⟩
  · clear CA CB CS
    go_enter Try.func20, Try.ntmps20
    go_wp2_with fail
    refine (CW.out).mono ?_
    rintro r w1 ⟨⟨P, rfl, hP⟩, q, rfl⟩
    have HP := hide' hP
    clear hP
    go_wp2_with fail
    go_ret
    exact ⟨⟨P, rfl, by rw [HP.out]; simp [Ht.wantP]⟩, q, rfl⟩
  · clear CA CB CS CW
    go_enter Try.func20, Try.ntmps20
    go_wp2_with fail
    go_ret
    exact ⟨⟨_, rfl, by rw [← HL.out]; simp [Ht.wantP]⟩, 0, rfl⟩
  · clear CA CB CS CW
    go_enter Try.func20, Try.ntmps20
    go_wp2_with fail
    go_ret
    exact ⟨⟨_, rfl, by rw [← HL.out]; simp [Ht.wantP]⟩, 0, rfl⟩
  · clear CA CB CS CW
    go_enter Try.func20, Try.ntmps20
    go_wp2_with fail
    go_ret
    exact ⟨⟨_, rfl, by rw [← HL.out]; simp [Ht.wantP]⟩, 0, rfl⟩
end Go.Proofs.Ytgbldbohadacmaa
