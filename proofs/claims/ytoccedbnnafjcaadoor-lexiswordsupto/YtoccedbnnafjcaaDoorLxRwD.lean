/-
  The document's Decoder over the bytes that are good: mathematics and the walk's step.
-/
import Derived.Test.YtoccedbnnafjcaaDoorLxRwP
import Derived.Test.YtoccedbnnafjcaaDoorRnPut
namespace Go.Proofs.YtoccedbnnafjcaaDoor
open Go.RowKit Go.Lib
namespace Lx
open Rn
open _root_.Go.Proofs.YtoccedbnnafjcaaDoor.Fd
/-- the first bytes of a character wait -/
theorem waits_first {f : Nat → Nat} {n m : Nat} (h : whole f n = true) (h0 : 0 < m) (hm : m < fs f n) : waits f m = true := by
  have hl := whole_lt h
  simp only [whole, decide_eq_true_eq] at h
  have e : fk f m = min m (fk f n) := fk_min f (by omega) (by omega)
  have e2 : fs f m = fs f n := by unfold fs; rw [if_neg (by omega), if_neg (by omega)]
  simp only [waits, decide_eq_true_eq]
  rw [e2, e]
  omega
/-- where Good ends: whole characters up to s, and the beginning of one -/
theorem good_spec (f : Nat → Nat) (n : Nat) : ∀ (fuel a : Nat), a ≤ n → n ≤ a + fuel → ∃ s, Run f n a s ∧ s ≤ n ∧ ((s = n ∧ goodFrom f n fuel a = n) ∨ (s < n ∧ whole (off f s) (n - s) = false ∧ goodFrom f n fuel a = s + fk (off f s) (n - s)))
  | 0, a, h1, h2 => ⟨a, .refl _, h1, .inl ⟨by omega, by show a = n; omega⟩⟩
  | fuel + 1, a, h1, h2 => by
    by_cases h : n ≤ a
    · exact ⟨a, .refl _, h1, .inl ⟨by omega, by rw [goodFrom_end _ _ _ _ h]; omega⟩⟩
    · unfold goodFrom
      rw [if_neg h]
      cases hw : whole (off f a) (n - a)
      · exact ⟨a, .refl _, h1, .inr ⟨by omega, hw, by simp⟩⟩
      · have hl := whole_lt hw
        obtain ⟨s, r, hs, e⟩ := good_spec f n fuel (a + fs (off f a) (n - a)) (by omega) (by omega)
        exact ⟨s, .step hw r, hs, by simpa using e⟩
/-- between two bytes: the character at hand began at s -/
structure Dst (f : Nat → Nat) (n : Nat) (s j : Nat) : Prop where
  run : Run f n 0 s
  le : s ≤ j
  jn : j ≤ n
  wt : s < j → waits (off f s) (j - s) = true
/-- the next byte -/
theorem Dst.next {f : Nat → Nat} {n s j : Nat} (h : Dst f n s j) (hj : j < good f n) : (whole (off f s) (j + 1 - s) = true ∧ Dst f n (j + 1) (j + 1)) ∨ (waits (off f s) (j + 1 - s) = true ∧ Dst f n s (j + 1)) := by
  obtain ⟨r1, r2, r3, r4⟩ := h
  have hgl := good_le f n
  obtain ⟨s', rs, hs, e⟩ := good_spec f n n 0 (Nat.zero_le _) (by omega)
  have hsn : s < n := by omega
  cases hw : whole (off f s) (n - s)
  · -- then s is where Good stops
    have hss : s = s' := by
      rcases e with ⟨e1, _⟩ | ⟨e1, e2, _⟩
      · subst e1
        have := r1.diff rs (by rw [Nat.sub_self]; exact whole_none _)
        exact this.head hw
      · have := r1.diff rs e2
        exact this.head hw
    subst hss
    rcases e with ⟨e1, _⟩ | ⟨_, _, e3⟩
    · omega
    · have hg : good f n = s + fk (off f s) (n - s) := e3
      have := waits_upto (off f s) (n - s) (j - s) hw (by omega)
      rw [show j - s + 1 = j + 1 - s by omega, decide_eq_true (by omega)] at this
      exact .inr ⟨this, ⟨r1, by omega, by omega, fun _ => this⟩⟩
  · have hl := whole_lt hw
    by_cases c : j + 1 - s < fs (off f s) (n - s)
    · have := waits_first hw (by omega) c
      exact .inr ⟨this, ⟨r1, by omega, by omega, fun _ => this⟩⟩
    · have hlt : j - s < fs (off f s) (n - s) := by
        by_cases hsj : s < j
        · have := r4 hsj
          simp only [waits, decide_eq_true_eq] at this
          have e2 : fs (off f s) (j - s) = fs (off f s) (n - s) := by unfold fs; rw [if_neg (by omega), if_neg (by omega)]
          omega
        · omega
      have em : j + 1 - s = fs (off f s) (n - s) := by omega
      have hwd := whole_down hw (Nat.le_of_eq em.symm) (by omega)
      have rn := Run.one hw
      rw [← em, show s + (j + 1 - s) = j + 1 by omega] at rn
      exact .inl ⟨hwd, ⟨r1.trans rn, Nat.le_refl _, by omega, fun h => by omega⟩⟩
/-- at the end: is it characters all through? -/
theorem Dst.all {f : Nat → Nat} {n s : Nat} (h : Dst f n s (good f n)) : V f n 0 = true ↔ good f n = n ∧ s = good f n := by
  obtain ⟨r1, r2, r3, r4⟩ := h
  constructor
  · intro hv
    have hr : Run f n 0 n := (vd_run f n).1 hv
    obtain ⟨s', rs, hs, e⟩ := good_spec f n n 0 (Nat.zero_le _) (by omega)
    have hg : good f n = n := by
      rcases e with ⟨_, e2⟩ | ⟨e1, e2, _⟩
      · exact e2
      · have := run_whole (run_rest hr rs) e1
        rw [e2] at this; cases this
    refine ⟨hg, ?_⟩
    by_cases c : s < good f n
    · have hw := run_whole (run_rest hr r1) (by omega)
      have hl := whole_lt hw
      have := r4 c
      simp only [waits, decide_eq_true_eq] at this
      rw [hg] at this
      omega
    · omega
  · rintro ⟨h1, h2⟩
    rw [h2, h1] at r1
    exact (vd_run f n).2 r1
end Lx
/-- the Decoder in memory, between two bytes -/
def DecS (f : Nat → Nat) (M s j : Nat) (W : World) : Prop := (s = j ∧ ∃ x, (∀ k, x k < 256) ∧ RefAt W M (.slice none 0 0) x 0 false) ∨ (s < j ∧ ∃ g cap x, (∀ k, x k < 256) ∧ (∀ k, k < j - s → x k = f (s + k)) ∧ RefAt W M (.slice (some ⟨g, 0, none⟩) (j - s) cap) x (j - s) false)
theorem DecS.take {f : Nat → Nat} {n M s j : Nat} {w : World} (hf : ∀ k, f k < 256) (hd : Lx.Dst f n s j) (hj : j < Rn.good f n) (h : DecS f M s j w) :
    Calls Tryd.prog 24 #[.pointer (some ⟨M, 0, none⟩), .int .u8 (f j : Nat)] w fun e w' => ∃ v s', e = .returned v ∧ Lx.Dst f n s' (j + 1) ∧ DecS f M s' (j + 1) w' ∧ But M w w' := by
  have hnx := hd.next hj
  have hle := hd.le
  have fin : ∀ (v0 : Value) (x : Nat → Nat) (e : Ending) (w' : World), (∀ k, x k < 256) → (∀ k, k < j - s → x k = f (s + k)) → RefEnd M v0 x (j - s) (f j) w e w' → ∃ v s', e = .returned v ∧ Lx.Dst f n s' (j + 1) ∧ DecS f M s' (j + 1) w' ∧ But M w w' := by
    intro v0 x e w' hx hxe hE
    have hcg : ∀ k, k < j + 1 - s → Rn.upd x (j - s) (f j) k = Rn.off f s k := by
      intro k hk
      unfold Rn.upd
      by_cases c : k = j - s
      · rw [if_pos c, c]; show f j = f (s + (j - s)); rw [show s + (j - s) = j by omega]
      · rw [if_neg c]; exact hxe k (by omega)
    have em : j - s + 1 = j + 1 - s := by omega
    cases hE with
    | whole h he hd' hb =>
      rw [em] at h
      rw [Rn.whole_congr hcg] at h
      rcases hnx with ⟨_, d⟩ | ⟨d1, _⟩
      · exact ⟨_, j + 1, he, d, .inl ⟨rfl, _, fun _ => by show 0 < 256; omega, hd'⟩, hb⟩
      · simp only [Rn.whole, Rn.waits, decide_eq_true_eq] at h d1
        omega
    | waits h he hd' hb =>
      rw [em] at h
      rw [Rn.waits_congr hcg] at h
      rcases hnx with ⟨d1, _⟩ | ⟨_, d⟩
      · simp only [Rn.whole, Rn.waits, decide_eq_true_eq] at h d1
        omega
      · obtain ⟨v1, hr⟩ := hd'
        rw [em] at hr
        obtain ⟨g, cap, rfl⟩ : ∃ g cap, v1 = .slice (some ⟨g, 0, none⟩) (j + 1 - s) cap := by
          rcases hr.2.2 with ⟨_, h0⟩ | ⟨g, cap, cur, hv, _⟩
          · omega
          · exact ⟨g, cap, hv⟩
        exact ⟨_, s, he, d, .inr ⟨by omega, g, cap, _, Rn.upd_lt hx (hf j), fun k hk => hcg k hk, hr⟩, hb⟩
    | bad h h2 he hd' hb =>
      rw [em] at h h2
      rw [Rn.whole_congr hcg] at h
      rw [Rn.waits_congr hcg] at h2
      rcases hnx with ⟨d1, _⟩ | ⟨d1, _⟩
      · rw [h] at d1; cases d1
      · rw [h2] at d1; cases d1
  rcases h with ⟨rfl, x, hx, hr⟩ | ⟨hsj, g, cap, x, hx, hxe, hr⟩
  · refine (refTake_nil M x (f s) w (hf s) hx hr).mono ?_
    intro e w' hE
    exact fin _ x e w' hx (fun k hk => by omega) (by rw [Nat.sub_self]; exact hE)
  · have hwt := hd.wt hsj
    have hwx : Rn.waits x (j - s) = true := by rw [Rn.waits_congr (g := Rn.off f s) hxe]; exact hwt
    have h4 : j - s < 4 := by
      have h1 := Rn.fs_le (Rn.off f s) (j - s)
      simp only [Rn.waits, decide_eq_true_eq] at hwt
      omega
    refine (refTake_some M x (j - s) (f j) g cap w (hf j) hx (by omega) h4 hwx hr).mono ?_
    intro e w' hE
    exact fin _ x e w' hx hxe hE
end Go.Proofs.YtoccedbnnafjcaaDoor
