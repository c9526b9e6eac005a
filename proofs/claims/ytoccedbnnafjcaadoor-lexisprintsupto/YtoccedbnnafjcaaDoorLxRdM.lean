/-
  Plain mathematics: how many bytes a word has; it ends between whole characters; the words one behind the other.
-/
import Derived.Test.YtoccedbnnafjcaaDoorLxMath
namespace Go.Proofs.YtoccedbnnafjcaaDoor
open Go.Lib
namespace Lx
open Rn
open _root_.Go.Proofs.YtoccedbnnafjcaaDoor.Fd
theorem isR_mem : ∀ (l : List (Nat × Nat)) (r : Int), Ch.isR l r = true ↔ ∃ p ∈ l, (p.1 : Int) ≤ r ∧ r ≤ (p.2 : Int)
  | [], r => by simp [Ch.isR]
  | p :: l, r => by
    unfold Ch.isR
    by_cases h : (p.1 : Int) ≤ r ∧ r ≤ (p.2 : Int)
    · rw [if_pos h]
      exact ⟨fun _ => ⟨p, by simp, h⟩, fun _ => rfl⟩
    · rw [if_neg h, isR_mem l r]
      constructor
      · rintro ⟨q, hq, g⟩; exact ⟨q, by simp [hq], g⟩
      · rintro ⟨q, hq, g⟩
        rcases List.mem_cons.1 hq with rfl | hq
        · exact absurd g h
        · exact ⟨q, hq, g⟩
theorem c23_in : ∀ p ∈ Ch.pick Ch.tab 2, ∃ q ∈ Ch.pick Ch.tab 3, q.1 ≤ p.1 ∧ p.2 ≤ q.2 := by decide
/-- what begins a name goes on with it -/
theorem c23 (r : Int) (h : Ch.isT Ch.tab 2 r = true) : Ch.isT Ch.tab 3 r = true := by
  rw [Ch.isT_eq, isR_mem] at h ⊢
  obtain ⟨p, hp, g1, g2⟩ := h
  obtain ⟨q, hq, k1, k2⟩ := c23_in p hp
  exact ⟨q, hq, by omega, by omega⟩
theorem lead23 {f : Nat → Nat} {n : Nat} (hf : ∀ j, f j < 256) (hn : 0 < n) (h : 0 < lead f n 2) : 0 < lead f n 3 := (lead_pos hf hn).2 (c23 _ ((lead_pos hf hn).1 h))

theorem run_unshift {F : Nat → Nat} {N d : Nat} : ∀ {x y : Nat}, Run F N x y → ∀ p q, x = d + p → y = d + q → Run (off F d) (N - d) p q := by
  intro x y h
  induction h with
  | refl x => intro p q h1 h2; obtain rfl : p = q := by omega
              exact .refl _
  | @step x y hw r ih =>
    intro p q h1 h2
    subst h1
    have e : whole (off (off F d) p) (N - d - p) = true := by rw [off_off, show N - d - p = N - (d + p) by omega]; exact hw
    have e2 : fs (off (off F d) p) (N - d - p) = fs (off F (d + p)) (N - (d + p)) := by rw [off_off, show N - d - p = N - (d + p) by omega]
    exact .step e (by rw [e2]; exact ih _ q (by omega) h2)
theorem run_shift {F : Nat → Nat} {N d p q : Nat} (h : Run (off F d) (N - d) p q) (hd : d ≤ N) : Run F N (d + p) (d + q) := by
  have := h.shift
  rwa [show d + (N - d) = N by omega] at this

theorem pre_run : ∀ (l : List Nat) (f : Nat → Nat) (n : Nat), (∀ c ∈ l, c < 128) → pre f n l = true → l.length ≤ n ∧ Run f n 0 l.length
  | [], f, n, _, _ => ⟨Nat.zero_le _, .refl _⟩
  | c :: l, f, n, hc, h => by
    unfold pre at h
    simp only [Bool.and_eq_true, decide_eq_true_eq] at h
    obtain ⟨⟨h1, h2⟩, h3⟩ := h
    obtain ⟨a1, a2⟩ := pre_run l (off f 1) (n - 1) (fun c h => hc c (by simp [h])) h3
    have hl := hc c (by simp)
    refine ⟨by simp; omega, ?_⟩
    have r1 : Run f n 0 1 := run_one (by omega) h1
    have r2 := run_shift (d := 1) a2 (by omega)
    have : Run f n 0 (1 + l.length) := r1.trans r2
    rw [List.length_cons, Nat.add_comm]
    exact this
theorem sgs_low128 : ∀ s ∈ sgs, (∀ c ∈ s, c < 128) ∧ 0 < s.length := by decide
theorem rdSgn_spec {f : Nat → Nat} {n : Nat} : ∀ (l : List (List Nat)), (∀ s ∈ l, (∀ c ∈ s, c < 128) ∧ 0 < s.length) → (rdSgn f n l).wd ≤ n ∧ ((rdSgn f n l).ok = true → 0 < (rdSgn f n l).wd) ∧ Run f n 0 (rdSgn f n l).wd
  | [], _ => ⟨Nat.zero_le _, fun h => by simp [rdSgn] at h, .refl _⟩
  | s :: l, hs => by
    unfold rdSgn
    split
    · next h =>
      obtain ⟨a1, a2⟩ := pre_run s f n (hs s (by simp)).1 h
      exact ⟨a1, fun _ => (hs s (by simp)).2, a2⟩
    · exact rdSgn_spec l (fun s h => hs s (by simp [h]))
theorem rdTxt_spec {f : Nat → Nat} {n : Nat} (h0 : f 0 < 128) : (rdTxt f n).wd ≤ n ∧ ((rdTxt f n).ok = true → 0 < (rdTxt f n).wd) ∧ (Run f n 0 n → Run f n 0 (rdTxt f n).wd) := by
  unfold rdTxt
  split
  · next h =>
    obtain ⟨_, _, a3⟩ := idx_spec (off f 1) (n - 1) (f 0)
    have e := a3 h
    simp only [off] at e
    refine ⟨by show idx (off f 1) (n - 1) (f 0) + 2 ≤ n; omega, fun _ => by show 0 < idx (off f 1) (n - 1) (f 0) + 2; omega, fun hr => ?_⟩
    have r1 := run_low (f := f) (n := n) (j := 1 + idx (off f 1) (n - 1) (f 0)) (by rw [e]; exact h0) (by omega) hr (by omega) (by omega)
    have r2 := run_one (f := f) (n := n) (p := 1 + idx (off f 1) (n - 1) (f 0)) (by rw [e]; exact h0) (by omega)
    have := r1.trans r2
    rwa [show 1 + idx (off f 1) (n - 1) (f 0) + 1 = idx (off f 1) (n - 1) (f 0) + 2 by omega] at this
  · exact ⟨Nat.zero_le _, (fun h => by cases h), fun _ => .refl _⟩
theorem rd_spec {f : Nat → Nat} {n : Nat} (hf : ∀ j, f j < 256) (hn : 0 < n) : (rd f n).wd ≤ n ∧ ((rd f n).ok = true → 0 < (rd f n).wd) ∧ (Run f n 0 n → Run f n 0 (rd f n).wd) := by
  unfold rd
  split
  · next h => exact ⟨lead_le hf, fun _ => lead23 hf hn h, fun hr => lead_run hf hr⟩
  · split
    · next h =>
      unfold rdNum
      split
      · exact ⟨Nat.zero_le _, (fun h => by cases h), fun _ => .refl _⟩
      · split
        · exact ⟨lead_le hf, (fun h => by cases h), fun hr => lead_run hf hr⟩
        · exact ⟨lead_le hf, fun _ => h, fun hr => lead_run hf hr⟩
    · split
      · next h => exact rdTxt_spec (by omega)
      · have := rdSgn_spec (f := f) (n := n) sgs sgs_low128
        exact ⟨this.1, this.2.1, fun _ => this.2.2⟩
end Lx
end Go.Proofs.YtoccedbnnafjcaaDoor
