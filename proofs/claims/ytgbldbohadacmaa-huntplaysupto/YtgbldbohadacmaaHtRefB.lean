/-
  WALKS over the document's hunt: Within, Whole, Open (gen_refb.py).
-/
import Derived.Test.YtgbldbohadacmaaHtRefA
namespace Go.Proofs.Ytgbldbohadacmaa
open Go.RowKit Go.Lib
namespace Ht
theorem Ni.drewN {w : World} {v : Value} {L : List Nat} (h : Ni w v L) (k : Nat) : Ni (w.drewN k) v L := h.below ⟨rfl, rfl, rfl, Nat.le_refl _, fun _ _ => rfl⟩
theorem st_pre {X T : List Nat} : (T.length ≤ X.length ∧ Wd.St (lg X) (lg T) T.length 0) ↔ T <+: X := by
  rw [List.prefix_iff_getElem?]
  constructor
  · rintro ⟨h1, h2⟩ i h
    have := h2 i h
    rw [Nat.zero_add] at this
    rw [lg_some (by omega), this]
    simp [lg, h]
  · intro h
    have h0 : T.length ≤ X.length := (List.prefix_iff_getElem?.2 h).length_le
    refine ⟨h0, fun i hi => ?_⟩
    rw [Nat.zero_add]
    have := h i hi
    simp [lg, this, hi]
theorem at_pre (L T : List Nat) : AtP L T 0 ↔ T <+: L := by
  rw [← st_pre]
  constructor
  · rintro ⟨n, e, h1, h2⟩
    obtain rfl : n = 0 := by omega
    exact ⟨by omega, h2⟩
  · rintro ⟨h1, h2⟩
    exact ⟨0, rfl, by omega, h2⟩
theorem at_suf (L T : List Nat) : AtP L T ((L.length : Int) - (T.length : Int)) ↔ T <:+ L := by
  rw [← st_suffix]
  constructor
  · rintro ⟨n, e, h1, h2⟩
    have : n = L.length - T.length := by omega
    subst this
    exact ⟨by omega, h2⟩
  · rintro ⟨h1, h2⟩
    exact ⟨L.length - T.length, by omega, by omega, h2⟩
end Ht
set_option maxRecDepth 100000 in
set_option maxHeartbeats 2000000 in
theorem htRefWithin (L T : List Nat) (vs vt : Value) (w : World) (hs : Ht.Ni w vs L) (ht : Ht.Ni w vt T) (hL : L.length ≤ 1099511627776) (hT : T.length ≤ 1099511627776) :
    Calls Try.prog 28 #[vs, vt] w fun e w' => SaysB e (T <:+: L) ∧ ∃ k, w' = w.drewN k := by
  have HS := hide' hs
  have HT := hide' ht
  obtain ⟨ps, cs, rfl, s1, s2, -⟩ := hs
  obtain ⟨pt, ct, rfl, t1, t2, -⟩ := ht
  have CA := hide' (fun (a : Int) (q : Nat) (ha : -1099511627776 ≤ a ∧ a ≤ 1099511627776) => htRefAt L T _ _ a (w.drewN q) (HS.out.drewN q) (HT.out.drewN q) hL hT ha)
  have HW : Hid ((∃ n, n + T.length ≤ L.length ∧ Wd.St (Ht.lg L) (Ht.lg T) T.length n) ↔ T <:+: L) := Ht.st_infix
  unfold Ht.AtP at CA
  obtain ⟨l, hl⟩ : ∃ l, L.length = l := ⟨_, rfl⟩
  obtain ⟨m, hm⟩ : ∃ m, T.length = m := ⟨_, rfl⟩
  rw [hl] at CA HW hL s1
  rw [hm] at CA HW hT t1
  rw [hl, hm]
  clear HS HT hl hm
  go_enter Try.func28, Try.ntmps28
  go_wp2
  go_loopw [5] (fun u wr => ∃ k : Nat, u = .int .i64 k ∧ k ≤ l + 1 ∧ Hid (∀ j, j < k → ¬ Wd.St (Ht.lg L) (Ht.lg T) m j) ∧ ∃ q, wr = w.drewN q) (fun u _ => l + 1 - (RowKit.intOf u).toNat)
  case atStart => exact ⟨0, rfl, Nat.zero_le _, fun j hj => absurd hj (Nat.not_lt_zero _), 0, rfl⟩
  case round =>
    obtain ⟨k, rfl, hkm, hk, q, rfl⟩ := hrel
    by_cases hle : k + m ≤ l
    · have hlei : (k : Int) + (m : Int) ≤ (l : Int) := by omega
      have HLE := hide' hle
      clear hle
      go_wp2_with fail
      refine (CA.out k q (by omega)).mono ?_
      rintro r w1 ⟨⟨P, rfl, hP⟩, q2, rfl⟩
      have HP := hide' hP
      clear hP
      cases P
      · go_wp2_with fail
        go_roundw
        case rel =>
          refine ⟨k + 1, by go_num, by omega, fun j hj hst => ?_, _, rfl⟩
          by_cases e : j = k
          · subst e
            have := HP.out.2 ⟨j, rfl, HLE.out, hst⟩
            cases this
          · exact hk.out j (by omega) hst
        case measure => simp [RowKit.intOf]; omega
      · go_wp2_with fail
        go_ret
        refine ⟨⟨true, rfl, ?_⟩, _, rfl⟩
        obtain ⟨n, _, h1, h2⟩ := HP.out.1 (by trivial)
        simp only [true_iff]
        exact HW.out.1 ⟨n, h1, h2⟩
    · have hlei : ¬ ((k : Int) + (m : Int) ≤ (l : Int)) := by omega
      have HLE := hide' hle
      clear hle
      go_wp2_with fail
      go_ret
      refine ⟨⟨false, rfl, ?_⟩, _, rfl⟩
      simp only [Bool.false_eq_true, false_iff]
      intro h
      obtain ⟨n, h1, h2⟩ := HW.out.2 h
      have := HLE.out
      exact hk.out n (by omega) h2
end Go.Proofs.Ytgbldbohadacmaa
