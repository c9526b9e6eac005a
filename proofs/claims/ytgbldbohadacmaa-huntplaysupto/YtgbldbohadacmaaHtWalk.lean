/-
  WALKS over kleene.Not, (*Hunt).Kept, .coming, .ended.
-/
import Derived.Test.YtgbldbohadacmaaHtMem
namespace Go.Proofs.Ytgbldbohadacmaa
open Go.RowKit Go.Lib
namespace Ht
/-- turned round -/
def no (t : Int) : Int := if t = 0 then 2 else if t = 2 then 0 else 1
end Ht
set_option maxHeartbeats 1000000 in
theorem htNot (t : Int) (w : World) (ht : t = 0 ∨ t = 1 ∨ t = 2) : Calls Try.prog 18 #[.int .i64 t] w fun e w' => e = .returned (.int .i64 (Ht.no t)) ∧ w' = w := by
  rcases ht with rfl | rfl | rfl
  all_goals
    go_enter Try.func18, Try.ntmps18
    go_wp2
    go_ret
    exact ⟨rfl, rfl⟩
set_option maxHeartbeats 1000000 in
theorem htComing {w : World} {b : Nat} {c : Int} {td : Bool} {N : Int} {p : Option Addr} {m cap : Nat} {xb : Value} {wh : Bool} {q : Nat} {t : Int} (h : Ht.HC w b c td N (.slice p m cap) xb wh q t) (hc : Ht.cok c) :
    Calls Try.prog 14 #[.pointer (some ⟨b, 0, none⟩)] w fun e w' => e = .returned (.int .i64 (Ht.cmg c N m q)) ∧ ∃ k, w' = w.drewN k := by
  obtain ⟨c0, _, c2, c3, _, _, c6, _, _⟩ := h.cells
  clear h
  rcases hc with rfl | rfl | rfl | rfl | rfl | rfl | rfl
  · go_enter Try.func14, Try.ntmps14
    go_wp2
    go_ret
    exact ⟨rfl, 0, rfl⟩
  · go_enter Try.func14, Try.ntmps14
    go_wp2
    go_ret
    exact ⟨rfl, 0, rfl⟩
  · by_cases e : q = m
    · have e1 : ((q : Int) == (m : Int)) = true := by simp [e]
      have e2 := hide' e
      clear e
      go_enter Try.func14, Try.ntmps14
      go_wp2
      go_quiet (fail)
      go_wp2
      go_ret
      exact ⟨by simp [Ht.cmg, e2.out], _, rfl⟩
    · have e1 : ((q : Int) == (m : Int)) = false := by simp; omega
      have e2 := hide' e
      clear e
      go_enter Try.func14, Try.ntmps14
      go_wp2
      go_quiet (fail)
      go_wp2
      go_ret
      exact ⟨by simp [Ht.cmg, e2.out], _, rfl⟩
  · go_enter Try.func14, Try.ntmps14
    go_wp2
    go_ret
    exact ⟨rfl, 0, rfl⟩
  · by_cases e : q = m
    · have e1 : ((q : Int) == (m : Int)) = true := by simp [e]
      have e2 := hide' e
      clear e
      go_enter Try.func14, Try.ntmps14
      go_wp2
      go_quiet (fail)
      go_wp2
      go_ret
      exact ⟨by simp [Ht.cmg, e2.out], _, rfl⟩
    · have e1 : ((q : Int) == (m : Int)) = false := by simp; omega
      have e2 := hide' e
      clear e
      go_enter Try.func14, Try.ntmps14
      go_wp2
      go_quiet (fail)
      go_wp2
      go_ret
      exact ⟨by simp [Ht.cmg, e2.out], _, rfl⟩
  · by_cases e : N < (q : Int)
    · have e2 := hide' e
      go_enter Try.func14, Try.ntmps14
      go_wp2
      go_quiet (fail)
      go_wp2
      go_ret
      exact ⟨by simp [Ht.cmg, e2.out], _, rfl⟩
    · have e2 := hide' e
      go_enter Try.func14, Try.ntmps14
      go_wp2
      go_quiet (fail)
      go_wp2
      go_ret
      exact ⟨by simp [Ht.cmg, e2.out], _, rfl⟩
  · by_cases e : N < (q : Int)
    · have e2 := hide' e
      go_enter Try.func14, Try.ntmps14
      go_wp2
      go_quiet (fail)
      go_wp2
      go_ret
      exact ⟨by simp [Ht.cmg, e2.out], _, rfl⟩
    · have e2 := hide' e
      go_enter Try.func14, Try.ntmps14
      go_wp2
      go_quiet (fail)
      go_wp2
      go_ret
      exact ⟨by simp [Ht.cmg, e2.out], _, rfl⟩
set_option maxHeartbeats 1000000 in
theorem htEnded {w : World} {b : Nat} {c : Int} {td : Bool} {N : Int} {p : Option Addr} {m cap : Nat} {xb : Value} {wh : Bool} {q : Nat} {t : Int} (h : Ht.HC w b c td N (.slice p m cap) xb wh q t) (hc : Ht.cok c) (h0 : c ≠ 0) :
    Calls Try.prog 23 #[.pointer (some ⟨b, 0, none⟩)] w fun e w' => e = .returned (.int .i64 (Ht.en c N m q)) ∧ w' = w := by
  obtain ⟨c0, _, c2, c3, _, _, c6, _, _⟩ := h.cells
  clear h
  obtain ⟨X, hX⟩ : ∃ X : Int, (if c = 6 then N else (m : Int)) = X := ⟨_, rfl⟩
  obtain ⟨E, hE⟩ : ∃ E : Bool, ((q : Int) == X) = E := ⟨_, rfl⟩
  have key : ¬ (c = 3 ∨ c = 5 ∨ c = 7) → Ht.en c N m q = if E then 2 else 0 := fun k => by
    unfold Ht.en
    rw [if_neg k, hX, ← hE]
    by_cases e : (q : Int) = X <;> simp [e]
  have KEY := hide' key
  clear key
  rcases hc with rfl | rfl | rfl | rfl | rfl | rfl | rfl
  · exact absurd rfl h0
  · simp at hX
    subst hX
    cases E
    all_goals
      go_enter Try.func23, Try.ntmps23
      go_wp2
      go_ret
      exact ⟨by rw [KEY.out (by decide)]; rfl, rfl⟩
  · go_enter Try.func23, Try.ntmps23
    go_wp2
    go_ret
    exact ⟨rfl, rfl⟩
  · simp at hX
    subst hX
    cases E
    all_goals
      go_enter Try.func23, Try.ntmps23
      go_wp2
      go_ret
      exact ⟨by rw [KEY.out (by decide)]; rfl, rfl⟩
  · go_enter Try.func23, Try.ntmps23
    go_wp2
    go_ret
    exact ⟨rfl, rfl⟩
  · simp at hX
    subst hX
    cases E
    all_goals
      go_enter Try.func23, Try.ntmps23
      go_wp2
      go_ret
      exact ⟨by rw [KEY.out (by decide)]; rfl, rfl⟩
  · go_enter Try.func23, Try.ntmps23
    go_wp2
    go_ret
    exact ⟨rfl, rfl⟩
end Go.Proofs.Ytgbldbohadacmaa
