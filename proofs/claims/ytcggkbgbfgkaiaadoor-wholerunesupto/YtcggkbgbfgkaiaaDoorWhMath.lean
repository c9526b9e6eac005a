/-
  Plain mathematics of WholeRunes: what runes.Next says at a place of Go's range, and where the next one stands.
-/
import Derived.Test.YtcggkbgbfgkaiaaDoorWhIt
namespace Go.Proofs.YtcggkbgbfgkaiaaDoor
namespace Wh
/-- a character of Go's range, and where the next one stands -/
theorem chFrom_at (f : Nat → Nat) (n : Nat) (hf : ∀ j, f j < 256) : ∀ (fuel q a : Nat) (_ : n ≤ q + fuel) (ha : a < (Rn.chFrom f n hf fuel q).length),
    ((Rn.chFrom f n hf fuel q)[a]).1.2 = (Rn.dec (Rn.off f ((Rn.chFrom f n hf fuel q)[a]).1.1) (n - ((Rn.chFrom f n hf fuel q)[a]).1.1)).1 ∧
    (∀ h : a + 1 < (Rn.chFrom f n hf fuel q).length, ((Rn.chFrom f n hf fuel q)[a + 1]).1.1 = ((Rn.chFrom f n hf fuel q)[a]).1.1 + (Rn.dec (Rn.off f ((Rn.chFrom f n hf fuel q)[a]).1.1) (n - ((Rn.chFrom f n hf fuel q)[a]).1.1)).2) ∧
    (¬ a + 1 < (Rn.chFrom f n hf fuel q).length → n = ((Rn.chFrom f n hf fuel q)[a]).1.1 + (Rn.dec (Rn.off f ((Rn.chFrom f n hf fuel q)[a]).1.1) (n - ((Rn.chFrom f n hf fuel q)[a]).1.1)).2)
  | 0, q, a, _, ha => by simp [Rn.chFrom] at ha
  | fuel + 1, q, a, hq, ha => by
    by_cases h : q < n
    · have e : Rn.chFrom f n hf (fuel + 1) q = ⟨(q, (Rn.dec (Rn.off f q) (n - q)).1), h, Rn.dec_lt _ _ (fun _ => hf _) (by omega)⟩ :: Rn.chFrom f n hf fuel (q + (Rn.dec (Rn.off f q) (n - q)).2) := by
        conv => lhs; unfold Rn.chFrom
        rw [dif_pos h]
      obtain ⟨d1, d2, _⟩ := Rn.dec_pos (Rn.off f q) (n - q) (fun _ => hf _) (by omega)
      cases a with
      | zero =>
        simp only [e, List.getElem_cons_zero, List.getElem_cons_succ, List.length_cons]
        refine ⟨trivial, fun h2 => ?_, fun h2 => ?_⟩
        · cases fuel with
          | zero => simp [Rn.chFrom] at h2
          | succ m =>
            by_cases h3 : q + (Rn.dec (Rn.off f q) (n - q)).2 < n
            · conv => lhs; unfold Rn.chFrom
              simp only [dif_pos h3, List.getElem_cons_zero]
            · rw [Rn.chFrom_end _ _ _ _ _ h3] at h2
              simp at h2
        · by_cases h3 : q + (Rn.dec (Rn.off f q) (n - q)).2 < n
          · exfalso
            apply h2
            cases fuel with
            | zero => omega
            | succ m =>
              unfold Rn.chFrom
              rw [dif_pos h3]
              simp
          · omega
      | succ b =>
        have hb : b < (Rn.chFrom f n hf fuel (q + (Rn.dec (Rn.off f q) (n - q)).2)).length := by rw [e] at ha; simpa using ha
        have ih := chFrom_at f n hf fuel (q + (Rn.dec (Rn.off f q) (n - q)).2) b (by omega) hb
        simp only [e, List.getElem_cons_succ, List.length_cons, Nat.add_lt_add_iff_right]
        exact ih
    · rw [Rn.chFrom_end _ _ _ _ _ h] at ha
      simp at ha
theorem chs_at (f : Nat → Nat) (n : Nat) (hf : ∀ j, f j < 256) (a : Nat) (ha : a < (Rn.chs f n hf).length) :
    ((Rn.chs f n hf)[a]).1.2 = (Rn.dec (Rn.off f ((Rn.chs f n hf)[a]).1.1) (n - ((Rn.chs f n hf)[a]).1.1)).1 ∧
    (∀ h : a + 1 < (Rn.chs f n hf).length, ((Rn.chs f n hf)[a + 1]).1.1 = ((Rn.chs f n hf)[a]).1.1 + (Rn.dec (Rn.off f ((Rn.chs f n hf)[a]).1.1) (n - ((Rn.chs f n hf)[a]).1.1)).2) ∧
    (¬ a + 1 < (Rn.chs f n hf).length → n = ((Rn.chs f n hf)[a]).1.1 + (Rn.dec (Rn.off f ((Rn.chs f n hf)[a]).1.1) (n - ((Rn.chs f n hf)[a]).1.1)).2) := chFrom_at f n hf n 0 a (by omega) ha
/-- .. and what Next says of it -/
theorem chs_next (f : Nat → Nat) (n : Nat) (hf : ∀ j, f j < 256) (a : Nat) (ha : a < (Rn.chs f n hf).length) : ∃ d r1 w1 how : Nat, 0 < d ∧ ((Rn.chs f n hf)[a]).1.1 + d ≤ n ∧ Rn.nx (Rn.off f ((Rn.chs f n hf)[a]).1.1) (n - ((Rn.chs f n hf)[a]).1.1) = (r1, w1, how) ∧
    (∀ h : a + 1 < (Rn.chs f n hf).length, ((Rn.chs f n hf)[a + 1]).1.1 = ((Rn.chs f n hf)[a]).1.1 + d) ∧ (¬ a + 1 < (Rn.chs f n hf).length → n = ((Rn.chs f n hf)[a]).1.1 + d) ∧
    ((how = 0 ∧ r1 = ((Rn.chs f n hf)[a]).1.2 ∧ w1 = d) ∨ (((Rn.chs f n hf)[a]).1.2 = 65533 ∧ d = 1 ∧ ((how = 2 ∧ r1 = 65533 ∧ w1 = 1) ∨ (how = 1 ∧ r1 = 0 ∧ w1 = n - ((Rn.chs f n hf)[a]).1.1)))) := by
  obtain ⟨h1, h2, h3⟩ := chs_at f n hf a ha
  have hp := ((Rn.chs f n hf)[a]).2.1
  generalize ((Rn.chs f n hf)[a]).1.1 = p at *
  obtain ⟨d1, d2, _⟩ := Rn.dec_pos (Rn.off f p) (n - p) (fun _ => hf _) (by omega)
  have hd := Rn.dec_whole (Rn.off f p) (n - p) (fun _ => hf _) (by omega)
  refine ⟨(Rn.dec (Rn.off f p) (n - p)).2, (Rn.nx (Rn.off f p) (n - p)).1, (Rn.nx (Rn.off f p) (n - p)).2.1, (Rn.nx (Rn.off f p) (n - p)).2.2, d1, by omega, rfl, h2, h3, ?_⟩
  rw [h1]
  cases hw : Rn.whole (Rn.off f p) (n - p)
  · right
    rw [hw, if_neg Bool.false_ne_true] at hd
    rw [hd]
    refine ⟨rfl, rfl, ?_⟩
    cases hx : Rn.waits (Rn.off f p) (n - p)
    · rw [Rn.nx_bad (by omega) hx hw]
      exact .inl ⟨rfl, rfl, rfl⟩
    · rw [(Rn.nx_waits hx).1]
      exact .inr ⟨rfl, rfl, rfl⟩
  · left
    rw [hw, if_pos rfl] at hd
    rw [hd, Rn.nx_whole hw]
    exact ⟨rfl, rfl, rfl⟩
end Wh
end Go.Proofs.YtcggkbgbfgkaiaaDoor
