/-
  WALKS over the document's hunt: At, Within, truth, late, never.
-/
import Derived.Test.YtgbldbohadacmaaHtOnceM
import Derived.Test.YtgbldbohadacmaaHtWordsM
import Derived.BigQuiet
import Derived.BigGuard
namespace Go.Proofs.Ytgbldbohadacmaa
open Go.RowKit Go.Lib
namespace Ht
/-- characters as numbers, in a row -/
def Ni (w : World) (v : Value) (L : List Nat) : Prop := ∃ p cap, v = .slice p L.length cap ∧ L.length ≤ cap ∧ cap ≤ 9223372036854775807 ∧ (L.length = 0 ∨ ∃ g o, p = some ⟨g, o, none⟩ ∧ Row .i64 w g o L.length (lg L))
theorem Ni.below {w w' : World} {v : Value} {L : List Nat} (h : Ni w v L) (hb : Below w.heap.size w w') : Ni w' v L := by
  obtain ⟨p, cap, h1, h2, h3, h4⟩ := h
  refine ⟨p, cap, h1, h2, h3, ?_⟩
  rcases h4 with h4 | ⟨g, o, h4, h5⟩
  · exact .inl h4
  · exact .inr ⟨g, o, h4, h5.below hb (Nat.le_refl _)⟩
/-- it stands there, at any place -/
def AtP (L T : List Nat) (a : Int) : Prop := ∃ n : Nat, a = n ∧ n + T.length ≤ L.length ∧ Wd.St (lg L) (lg T) T.length n
end Ht
set_option maxRecDepth 100000 in
set_option maxHeartbeats 2000000 in
theorem htRefAt (L T : List Nat) (vs vt : Value) (a : Int) (w : World) (hs : Ht.Ni w vs L) (ht : Ht.Ni w vt T) (hL : L.length ≤ 1099511627776) (hT : T.length ≤ 1099511627776) (ha : -1099511627776 ≤ a ∧ a ≤ 1099511627776) :
    Calls Try.prog 27 #[vs, vt, .int .i64 a] w fun e w' => SaysB e (Ht.AtP L T a) ∧ ∃ k, w' = w.drewN k := by
  obtain ⟨ps, cs, rfl, s1, s2, s3⟩ := hs
  obtain ⟨pt, ct, rfl, t1, t2, t3⟩ := ht
  obtain ⟨l, hl⟩ : ∃ l, L.length = l := ⟨_, rfl⟩
  obtain ⟨m, hm⟩ : ∃ m, T.length = m := ⟨_, rfl⟩
  unfold Ht.AtP
  rw [hl] at hL s1
  rw [hm] at hT t1
  simp only [hl] at s3
  simp only [hm] at t3
  simp only [hl, hm]
  clear hl hm
  by_cases h0 : a < 0
  · clear s3 t3
    go_enter Try.func27, Try.ntmps27
    go_wp2
    go_ret
    refine ⟨⟨false, rfl, ?_⟩, 0, rfl⟩
    simp only [Bool.false_eq_true, false_iff]
    rintro ⟨n, e, _⟩
    omega
  obtain ⟨n, rfl⟩ : ∃ n : Nat, a = n := ⟨a.toNat, by omega⟩
  have h0' : decide ((n : Int) < 0) = false := by simp
  have hn : n ≤ 1099511627776 := by omega
  clear h0 ha
  by_cases hle : n + m ≤ l
  · have hlei2 : decide ((l : Int) < (n : Int) + (m : Int)) = false := decide_eq_false (by omega)
    have HLE := hide' hle
    clear hle
    go_enter Try.func27, Try.ntmps27
    go_wp2
    go_loopw [7] (fun u wr => ∃ k : Nat, u = .int .i64 k ∧ k ≤ m ∧ Hid (∀ j, j < k → Ht.lg L (n + j) = Ht.lg T j) ∧ ∃ q, wr = w.drewN q) (fun u _ => m - (RowKit.intOf u).toNat)
    case atStart => exact ⟨0, rfl, Nat.zero_le _, fun j hj => absurd hj (Nat.not_lt_zero _), 0, rfl⟩
    case round =>
      obtain ⟨k, rfl, hkm, hk, q, hq⟩ := hrel
      by_cases hlt : k < m
      · have hlti : (k : Int) < (m : Int) := by omega
        rcases s3 with z | ⟨g, o, rfl, hs⟩
        · have := HLE.out; omega
        rcases t3 with z | ⟨g2, o2, rfl, ht⟩
        · omega
        have c1 : wr.cell? ⟨g, o + (n + k), none⟩ = some (.int .i64 (Ht.lg L (n + k) : Nat)) := by rw [hq]; exact hs (n + k) (by have := HLE.out; omega)
        have c2 : wr.cell? ⟨g2, o2 + k, none⟩ = some (.int .i64 (Ht.lg T k : Nat)) := by rw [hq]; exact ht k hlt
        have hnk : n + k < l := by have := HLE.out; omega
        have HQ := hide' hq
        clear hs ht hq
        by_cases he : Ht.lg L (n + k) = Ht.lg T k
        · rw [he] at c1
          have hx : ((Ht.lg T k : Int) == (Ht.lg T k : Int)) = true := by simp
          have HE := hide' he
          clear he
          go_wp2
          go_quiet (fail)
          go_wp2
          go_roundw
          case rel =>
            refine ⟨k + 1, by go_num, by omega, fun j hj => ?_, _, by rw [HQ.out, World.drewN_drewN]⟩
            by_cases e : j = k
            · subst e; exact HE.out
            · exact hk.out j (by omega)
          case measure => simp [RowKit.intOf]; omega
        · have hei : ¬ ((Ht.lg L (n + k) : Int) = (Ht.lg T k : Int)) := by omega
          have HE := hide' he
          clear he
          go_wp2
          go_quiet (fail)
          go_wp2
          go_ret
          refine ⟨⟨false, rfl, ?_⟩, _, by rw [HQ.out, World.drewN_drewN]⟩
          simp only [Bool.false_eq_true, false_iff]
          rintro ⟨n', e, _, hs⟩
          have : n' = n := by omega
          subst this
          exact HE.out (hs k hlt)
      · have hlti : ¬ (k : Int) < (m : Int) := by omega
        have HQ := hide' hq
        clear s3 t3 hq
        go_wp2
        go_ret
        refine ⟨⟨true, rfl, ?_⟩, _, HQ.out⟩
        simp only [true_iff]
        exact ⟨n, rfl, HLE.out, fun j hj => hk.out j (by omega)⟩
  · have HLE := hide' hle
    have hlei2 : decide ((l : Int) < (n : Int) + (m : Int)) = true := decide_eq_true (by omega)
    clear hle
    clear s3 t3
    go_enter Try.func27, Try.ntmps27
    go_wp2
    go_ret
    refine ⟨⟨false, rfl, ?_⟩, 0, rfl⟩
    simp only [Bool.false_eq_true, false_iff]
    rintro ⟨n', e, h, _⟩
    have := HLE.out
    omega
set_option maxHeartbeats 400000 in
theorem htRefTruth (b : Bool) (w : World) : Calls Try.prog 19 #[.bool b] w fun e w' => e = .returned (.int .i64 (if b then 2 else 0)) ∧ w' = w := by
  cases b
  all_goals
    go_enter Try.func19, Try.ntmps19
    go_wp2
    go_ret
    exact ⟨rfl, rfl⟩
set_option maxHeartbeats 400000 in
theorem htRefLate (b : Bool) (w : World) : Calls Try.prog 30 #[.bool b] w fun e w' => ∃ v : Int, e = .returned (.int .i64 v) ∧ v = (if b then 2 else 1) ∧ w' = w := by
  cases b
  all_goals
    go_enter Try.func30, Try.ntmps30
    go_wp2
    go_ret
    exact ⟨_, rfl, rfl, rfl⟩
set_option maxHeartbeats 400000 in
theorem htRefNever (b : Bool) (w : World) : Calls Try.prog 29 #[.bool b] w fun e w' => ∃ v : Int, e = .returned (.int .i64 v) ∧ v = (if b then 0 else 1) ∧ w' = w := by
  cases b
  all_goals
    go_enter Try.func29, Try.ntmps29
    go_wp2
    go_ret
    exact ⟨_, rfl, rfl, rfl⟩
end Go.Proofs.Ytgbldbohadacmaa
