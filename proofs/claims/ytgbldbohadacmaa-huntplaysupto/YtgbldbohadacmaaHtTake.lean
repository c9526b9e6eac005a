/-
  THE WALK over (*Hunt).take: one more character, while nothing is known.
-/
import Derived.Test.YtgbldbohadacmaaHtSrch
namespace Go.Proofs.Ytgbldbohadacmaa
open Go.RowKit Go.Lib
namespace Ht
/-- what take comes to -/
def TakeE (w : World) (b : Nat) (c : Int) (td : Bool) (N : Int) (xt xb : Value) (wh : Bool) (T L : List Nat) (r : Nat) (w' : World) : Prop :=
  ∃ q' : Nat, HC w' b c td N xt xb wh q' (opn c T N (L ++ [r])) ∧ (opn c T N (L ++ [r]) = 1 → qat c T (L ++ [r]) q') ∧ q' ≤ L.length + 1 ∧ Hb b w w'
end Ht
set_option maxRecDepth 100000 in
set_option maxHeartbeats 4000000 in
theorem htTake {w : World} {b : Nat} {c : Int} {td : Bool} {N : Int} {xt xb : Value} {wh : Bool} {q : Nat} {T L : List Nat} {r : Nat} (hc : Ht.cok c) (h : Ht.HC w b c td N xt xb wh q 1) (hR : Ht.Rws w c T xt xb)
    (ho : Ht.opn c T N L = 1) (hq : Ht.qat c T L q) (hL : L.length ≤ 4611686018427387904) :
    Calls Try.prog 22 #[.pointer (some ⟨b, 0, none⟩), .int .i32 (r : Int)] w fun e w' => (∃ u, e = .returned u) ∧ Ht.TakeE w b c td N xt xb wh T L r w' := by
  obtain ⟨c0, _, _, c3, _, _, c6, c7, fz⟩ := h.cells
  have H0 := hide' h
  have HO := hide' ho
  rcases (show c ≠ 0 ∧ ((c = 1 ∨ c = 3) ∨ (c = 4 ∨ c = 5) ∨ (c = 6 ∨ c = 7)) by
    rcases hc with rfl | rfl | rfl | rfl | rfl | rfl | rfl
    · simp [Ht.opn] at ho
    all_goals simp) with ⟨_, h1 | h4 | h6⟩
  · have hq' : q = L.length := by rcases h1 with rfl | rfl <;> simpa [Ht.qat] using hq
    obtain ⟨g, cap, cur, rfl, hc1, hc2, hlie, htb⟩ := hR.2.1 (by rcases h1 with rfl | rfl <;> simp)
    have hrow := hlie.row
    rw [Ht.lg_eq] at hrow
    have hle : L.length ≤ T.length := by
      rcases h1 with rfl | rfl
      · simp only [Ht.opn] at ho
        by_cases e : L <+: T
        · exact e.length_le
        · simp [e] at ho
      · simp only [Ht.opn] at ho
        by_cases e : T <+: L
        · simp [e] at ho
        · by_cases k : L <+: T
          · exact k.length_le
          · simp [e, k] at ho
    have HMISS := hide' (fun hr => Ht.step_miss (r := r) h1 ho hr)
    have HHIT := hide' (fun hl hr => Ht.step_hit (r := r) h1 ho hl hr)
    have HQAT : Hid (Ht.qat c T (L ++ [r]) (q + 1)) := by show Ht.qat _ _ _ _; rcases h1 with rfl | rfl <;> simp [Ht.qat, hq']
    obtain ⟨o, hop⟩ : ∃ o, Ht.opn c T N (L ++ [r]) = o := ⟨_, rfl⟩
    unfold Ht.TakeE
    rw [hop] at HMISS HHIT
    rw [hop]
    rw [← hq'] at HMISS HHIT hle hL ⊢
    obtain ⟨m, hm⟩ : ∃ m, T.length = m := ⟨_, rfl⟩
    rw [hm] at c3 H0 hrow HMISS HHIT hc1 hle
    have hm2 : cap ≤ 9223372036854775807 := by unfold maxLen at hc2; omega
    have HCK := hide' hc
    have H1 := hide' h1
    rw [hm] at h ⊢
    clear hq hq' hlie htb hR ho hop hc hc2 HO hm
    by_cases e : q = m
    · have e1 : ((q : Int) == (m : Int)) = true := by simp [e]
      have ho0 := HMISS.out (.inl e)
      subst ho0
      clear e HHIT
      rcases h1 with rfl | rfl
      all_goals
        go_enter Try.func22, Try.ntmps22
        go_wp2
        go_quiet (fail)
        go_wp2
        refine bodyPost_ret (v := .tuple #[]) (by simp [results, Try.results22, go_sem]) rfl ?_
        exact ⟨⟨_, rfl⟩, q, (H0.out.drewN _).set7 0, (fun k => by cases k), Nat.le_succ _, ((Ht.Hb.refl _ _).drewN _).setCell _ _⟩
    · have e1 : ((q : Int) == (m : Int)) = false := by simp; omega
      have hkm : q < m := by omega
      have ck := hrow q hkm
      rw [Nat.zero_add] at ck
      clear e hrow
      by_cases hr : Ht.lg T q = r
      · have r1 : (((Ht.lg T q : Nat) : Int) != (r : Int)) = false := by simp [hr]
        have ho1 := hide' (HHIT.out hkm hr)
        obtain ⟨x, hx⟩ : ∃ x, Ht.lg T q = x := ⟨_, rfl⟩
        rw [hx] at r1 ck
        clear hr HMISS HHIT hx
        have CM := hide' (fun (W : World) n => htComing (w := (W.drewN n).setCell ⟨b, 6, none⟩ (.int .i64 ((q + 1 : Nat) : Int))) (b := b) (c := c) (td := td) (N := N) (p := some ⟨g, 0, none⟩) (m := m) (cap := cap) (xb := xb) (wh := wh) (q := q + 1) (t := 1))
        rcases h1 with rfl | rfl
        all_goals
          go_enter Try.func22, Try.ntmps22
          go_wp2
          go_quiet (fail)
          go_wp2_with fail
          refine (CM.out _ _ ((H0.out.drewN _).set6 _) HCK.out).mono ?_
          rintro e w1 ⟨rfl, k, rfl⟩
          rw [← ho1.out]
          go_wp2
          go_end0
          exact ⟨⟨_, rfl⟩, q + 1, (((H0.out.drewN _).set6 _).drewN _).set7 o, (fun _ => HQAT.out), Nat.le_refl _, ((((Ht.Hb.refl _ _).drewN _).setCell _ _).drewN _).setCell _ _⟩
      · have r1 : (((Ht.lg T q : Nat) : Int) != (r : Int)) = true := by simp; omega
        have ho0 := HMISS.out (.inr hr)
        subst ho0
        obtain ⟨x, hx⟩ : ∃ x, Ht.lg T q = x := ⟨_, rfl⟩
        rw [hx] at r1 ck
        clear hr hx HHIT HMISS
        rcases h1 with rfl | rfl
        all_goals
          go_enter Try.func22, Try.ntmps22
          go_wp2
          go_quiet (fail)
          go_wp2
          refine bodyPost_ret (v := .tuple #[]) (by simp [results, Try.results22, go_sem]) rfl ?_
          exact ⟨⟨_, rfl⟩, q, (H0.out.drewN _).set7 0, (fun k => by cases k), Nat.le_succ _, ((Ht.Hb.refl _ _).drewN _).setCell _ _⟩
  · have hq' : Wd.Lps (Ht.lg T) T.length (Ht.lg L) L.length q := by rcases h4 with rfl | rfl <;> simpa [Ht.qat] using hq
    have hT := hR.2.1 (by rcases h4 with rfl | rfl <;> simp)
    have hB := hR.2.2 h4
    have CS := hide' (htSearch (r := r) h hT hB hq')
    obtain ⟨g, cap, cur, rfl, hc1, hc2, hlie, htb⟩ := hT
    obtain ⟨gb, bf, bcur, rfl, hib, hbd⟩ := hB
    have CM := hide' (fun W k (x : Ht.HC W b c td N (.slice (some ⟨g, 0, none⟩) T.length cap) (.slice (some ⟨gb, 0, none⟩) T.length T.length) wh k 1) => htComing x hc)
    have HST : Hid (∀ k, Wd.Lps (Ht.lg T) T.length (Ht.lg (L ++ [r])) (L.length + 1) k → Ht.opn c T N (L ++ [r]) = Ht.cmg c N T.length k ∧ Ht.qat c T (L ++ [r]) k ∧ k ≤ L.length + 1) := fun k hk => by
      have hk2 : Wd.Lps (Ht.lg T) T.length (Ht.lg (L ++ [r])) (L ++ [r]).length k := by rw [List.length_append]; exact hk
      refine ⟨?_, by rcases h4 with rfl | rfl <;> simpa [Ht.qat] using hk, hk.2.1.1⟩
      rcases h4 with rfl | rfl
      · rfl
      · exact Ht.step_find ho hk2
    clear hq hlie htb hR ho hc hc2 HO hib hbd hq' c3 hL c6 c7 fz h H0
    rcases h4 with rfl | rfl
    all_goals
      go_enter Try.func22, Try.ntmps22
      go_wp2_with fail
      refine CS.out.mono ?_
      rintro e w1 ⟨⟨u, rfl⟩, k, hk1, hk2, hk3⟩
      obtain ⟨_, _, _, _, _, _, _, d7, fz⟩ := hk1.cells
      have K := hide' (HST.out k hk2)
      have HK1 := hide' hk1
      have HK3 := hide' hk3
      clear hk1 hk2 hk3 c0
      go_wp2_with fail
      refine (CM.out _ _ HK1.out).mono ?_
      rintro e w2 ⟨rfl, n, rfl⟩
      rw [← K.out.1]
      go_wp2
      go_end0
      exact ⟨⟨_, rfl⟩, k, (HK1.out.drewN _).set7 _, (fun _ => K.out.2.1), K.out.2.2, (HK3.out.drewN _).setCell _ _⟩
  · have hq' : q = L.length := by rcases h6 with rfl | rfl <;> simpa [Ht.qat] using hq
    obtain ⟨⟨p, m, cap, rfl, hc1, hc2⟩, _⟩ := hR
    have ho1 : Hid (Ht.opn c T N (L ++ [r]) = Ht.cmg c N m (q + 1)) := by
      show _ = _
      rw [Ht.step_len h6, ← hq']
      rcases h6 with rfl | rfl <;> simp [Ht.cmg]
    have HQAT : Hid (Ht.qat c T (L ++ [r]) (q + 1)) := by show Ht.qat _ _ _ _; rcases h6 with rfl | rfl <;> simp [Ht.qat, hq']
    obtain ⟨o, hop⟩ : ∃ o, Ht.opn c T N (L ++ [r]) = o := ⟨_, rfl⟩
    unfold Ht.TakeE
    rw [hop] at ho1
    rw [hop]
    rw [← hq'] at hL ⊢
    have CM := hide' (fun W (x : Ht.HC W b c td N (.slice p m cap) xb wh (q + 1) 1) => htComing x hc)
    clear hq hq' ho hc hc2 HO hop h
    rcases h6 with rfl | rfl
    all_goals
      go_enter Try.func22, Try.ntmps22
      go_wp2_with fail
      refine (CM.out _ (H0.out.set6 _)).mono ?_
      rintro e w1 ⟨rfl, k, rfl⟩
      rw [← ho1.out]
      go_wp2
      go_end0
      exact ⟨⟨_, rfl⟩, q + 1, ((H0.out.set6 _).drewN _).set7 o, (fun _ => HQAT.out), Nat.le_refl _, (((Ht.Hb.refl _ _).setCell _ _).drewN _).setCell _ _⟩
end Go.Proofs.Ytgbldbohadacmaa
