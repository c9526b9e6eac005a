/-
  Plain mathematics of a query's words: how many bytes of a class stand ahead, numbers, texts in quotes, signs; the words one behind the other.
-/
import Derived.Test.YtoccedbnnafjcaaDoorFdMath
import Derived.Test.YtoccedbnnafjcaaDoorChMath
import Derived.Test.YtoccedbnnafjcaaDoorRnBeg
namespace Go.Proofs.YtoccedbnnafjcaaDoor
open Go.Lib
namespace Lx
open Rn
open _root_.Go.Proofs.YtoccedbnnafjcaaDoor.Fd

/-- are the bytes from p on characters all through? -/
def vdF (f : Nat → Nat) (n : Nat) : Nat → Nat → Bool
  | 0, _ => true
  | k + 1, p => if p < n then (whole (off f p) (n - p) && vdF f n k (p + fs (off f p) (n - p))) else true
def vd (f : Nat → Nat) (n : Nat) : Bool := vdF f n n 0
theorem vdF_end (f : Nat → Nat) (n k p : Nat) (h : ¬ p < n) : vdF f n k p = true := by
  cases k with
  | zero => rfl
  | succ m => unfold vdF; rw [if_neg h]
theorem vdF_step (f : Nat → Nat) (n k p : Nat) (h : p < n) : vdF f n (k + 1) p = (whole (off f p) (n - p) && vdF f n k (p + fs (off f p) (n - p))) := by
  show (if p < n then _ else _) = _
  rw [if_pos h]
theorem vdF_fuel (f : Nat → Nat) (n : Nat) : ∀ (x y p : Nat), n ≤ p + x → n ≤ p + y → vdF f n x p = vdF f n y p
  | 0, y, p, hx, _ => by rw [vdF_end _ _ _ _ (by omega), vdF_end _ _ _ _ (by omega)]
  | x + 1, 0, p, _, hy => by rw [vdF_end _ _ _ _ (by omega), vdF_end _ _ _ _ (by omega)]
  | x + 1, y + 1, p, hx, hy => by
    by_cases h : p < n
    · rw [vdF_step _ _ _ _ h, vdF_step _ _ _ _ h]
      cases hw : whole (off f p) (n - p)
      · rfl
      · have := whole_lt hw
        rw [Bool.true_and, Bool.true_and, vdF_fuel f n x y _ (by omega) (by omega)]
    · rw [vdF_end _ _ _ _ h, vdF_end _ _ _ _ h]
theorem vdF_run (f : Nat → Nat) (n : Nat) : ∀ (k p : Nat), p ≤ n → n ≤ p + k → (vdF f n k p = true ↔ Run f n p n)
  | 0, p, h1, h2 => by
    obtain rfl : p = n := by omega
    exact ⟨fun _ => .refl _, fun _ => rfl⟩
  | k + 1, p, h1, h2 => by
    by_cases h : p < n
    · rw [vdF_step _ _ _ _ h]
      constructor
      · intro g
        simp only [Bool.and_eq_true] at g
        have := whole_lt g.1
        exact .step g.1 ((vdF_run f n k _ (by omega) (by omega)).1 g.2)
      · intro g
        cases g with
        | refl => omega
        | step hw r =>
          have := whole_lt hw
          rw [hw, Bool.true_and]
          exact (vdF_run f n k _ (by omega) (by omega)).2 r
    · obtain rfl : p = n := by omega
      rw [vdF_end _ _ _ _ h]
      exact ⟨fun _ => .refl _, fun _ => rfl⟩
theorem vd_run (f : Nat → Nat) (n : Nat) : vd f n = true ↔ Run f n 0 n := vdF_run f n n 0 (by omega) (by omega)
theorem whole_none (f : Nat → Nat) : whole f 0 = false := by simp [whole, fs]
/-- behind a place of whole characters the rest is whole characters -/
theorem run_rest {f : Nat → Nat} {n p : Nat} (h : Run f n 0 n) (k : Run f n 0 p) : Run f n p n := k.diff h (by rw [Nat.sub_self]; exact whole_none _)
theorem run_whole {f : Nat → Nat} {n p : Nat} (h : Run f n p n) (hp : p < n) : whole (off f p) (n - p) = true := by
  cases h with
  | refl => omega
  | step hw _ => exact hw
theorem run_step {f : Nat → Nat} {n p : Nat} (h : Run f n p n) (hp : p < n) : Run f n (p + fs (off f p) (n - p)) n := by
  cases h with
  | refl => omega
  | step _ r => exact r
/-- the bytes of a character behind its first one -/
theorem whole_inner {f : Nat → Nat} {n j : Nat} (h : whole f n = true) (h0 : 0 < j) (hj : j < fs f n) : 128 ≤ f j ∧ f j < 192 := by
  obtain ⟨a1, a2, a3, a4⟩ := whole_lt h
  simp only [whole, decide_eq_true_eq] at h
  have hk : fk f n = size (f 0) := by rw [h.2, a3]
  rw [a3] at hj
  unfold fk at hk
  have hlo : 128 ≤ lo (f 0) := by unfold lo; repeat' split
                                  all_goals omega
  have hhi : hi (f 0) ≤ 191 := by unfold hi; repeat' split
                                  all_goals omega
  rcases size_cases (f 0) with ⟨e, _⟩ | ⟨e, _⟩ | ⟨e, _⟩ | ⟨e, _⟩ | ⟨e, _⟩
  · omega
  · rw [e] at hk hj
    obtain ⟨_, g1, g2⟩ := (len2 e).1 hk
    obtain rfl : j = 1 := by omega
    omega
  · rw [e] at hk hj
    obtain ⟨_, g1, g2, g3, g4⟩ := (len3 e).1 hk
    rcases (show j = 1 ∨ j = 2 by omega) with rfl | rfl <;> omega
  · rw [e] at hk hj
    obtain ⟨_, g1, g2, g3, g4, g5, g6⟩ := (len4 e).1 hk
    rcases (show j = 1 ∨ j = 2 ∨ j = 3 by omega) with rfl | rfl | rfl <;> omega
  · omega
/-- a byte below 128 begins a character -/
theorem run_low {f : Nat → Nat} {n j : Nat} (hl : f j < 128) (hj : j < n) : ∀ {p q : Nat}, Run f n p q → p ≤ j → j ≤ q → Run f n p j := by
  intro p q h
  induction h with
  | refl p => intro h1 h2; obtain rfl : p = j := by omega
              exact .refl _
  | @step p q hw r ih =>
    intro h1 h2
    by_cases c : p + fs (off f p) (n - p) ≤ j
    · exact .step hw (ih c h2)
    · by_cases c2 : j = p
      · subst c2; exact .refl _
      · have := whole_inner (j := j - p) hw (by omega) (by omega)
        simp only [off] at this
        rw [show p + (j - p) = j by omega] at this
        omega
theorem run_one {f : Nat → Nat} {n p : Nat} (hl : f p < 128) (hp : p < n) : Run f n p (p + 1) := by
  have e : size (f p) = 1 := by unfold size; rw [if_pos hl]
  have h1 : fs (off f p) (n - p) = 1 := by
    unfold fs off
    rw [if_neg (by omega), Nat.add_zero, e]
  have hw : whole (off f p) (n - p) = true := by
    simp only [whole, decide_eq_true_eq, h1]
    refine ⟨by omega, ?_⟩
    exact (len1 (by simpa [off] using e)).2 (by omega)
  have := Run.one hw
  rwa [h1] at this

/-- what Go's range gives at a byte below 128, and at another -/
theorem dec_low {f : Nat → Nat} {n : Nat} (h : f 0 < 128) : dec f n = (f 0, 1) := by
  unfold dec decodeN
  rw [if_pos h]
theorem dec_high {f : Nat → Nat} {n : Nat} (hf : ∀ j, f j < 256) (hn : 0 < n) (h : 128 ≤ f 0) : 128 ≤ (dec f n).1 := by
  rw [dec_whole f n hf hn]
  split
  · next hw =>
    show 128 ≤ fv f
    by_cases c : fv f < 128
    · have := ((whole_cr hw).2.2.1 c).2
      omega
    · omega
  · show 128 ≤ 65533; omega
theorem dec_some (f : Nat → Nat) (n : Nat) (hf : ∀ j, f j < 256) (hn : 0 < n) : 0 < (dec f n).2 ∧ (dec f n).2 ≤ n := by
  rw [dec_whole f n hf hn]
  have a1 := fk_le f n
  split
  · next h =>
    simp only [whole, decide_eq_true_eq] at h
    exact ⟨h.1, by show fs f n ≤ n; omega⟩
  · exact ⟨by simp, by show 1 ≤ n; omega⟩

/-- how many bytes the characters of the class have with which the bytes begin -/
def leadF (f : Nat → Nat) (n : Nat) (c : Int) : Nat → Nat → Nat
  | 0, _ => n
  | k + 1, p => if p < n then (if Ch.isT Ch.tab c (dec (off f p) (n - p)).1 = true then leadF f n c k (p + (dec (off f p) (n - p)).2) else p) else n
def lead (f : Nat → Nat) (n : Nat) (c : Int) : Nat := leadF f n c n 0
theorem leadF_end (f : Nat → Nat) (n : Nat) (c : Int) (k p : Nat) (h : ¬ p < n) : leadF f n c k p = n := by
  cases k with
  | zero => rfl
  | succ m => unfold leadF; rw [if_neg h]
theorem leadF_step (f : Nat → Nat) (n : Nat) (c : Int) (k p : Nat) (h : p < n) : leadF f n c (k + 1) p = if Ch.isT Ch.tab c (dec (off f p) (n - p)).1 = true then leadF f n c k (p + (dec (off f p) (n - p)).2) else p := by
  show (if p < n then _ else _) = _
  rw [if_pos h]
theorem leadF_le {f : Nat → Nat} {n : Nat} {c : Int} (hf : ∀ j, f j < 256) : ∀ (k p : Nat), p ≤ n → p ≤ leadF f n c k p ∧ leadF f n c k p ≤ n
  | 0, p, h => ⟨h, Nat.le_refl _⟩
  | k + 1, p, h => by
    by_cases c1 : p < n
    · rw [leadF_step _ _ _ _ _ c1]
      have q := dec_some (off f p) (n - p) (fun _ => hf _) (by omega)
      split
      · have := leadF_le (n := n) (c := c) hf k (p + (dec (off f p) (n - p)).2) (by omega)
        exact ⟨by omega, this.2⟩
      · exact ⟨Nat.le_refl _, h⟩
    · rw [leadF_end _ _ _ _ _ c1]; exact ⟨h, Nat.le_refl _⟩
theorem lead_le {f : Nat → Nat} {n : Nat} {c : Int} (hf : ∀ j, f j < 256) : lead f n c ≤ n := (leadF_le hf n 0 (by omega)).2
theorem lead_pos {f : Nat → Nat} {n : Nat} {c : Int} (hf : ∀ j, f j < 256) (hn : 0 < n) : 0 < lead f n c ↔ Ch.isT Ch.tab c (dec f n).1 = true := by
  unfold lead
  obtain ⟨m, rfl⟩ : ∃ m, n = m + 1 := ⟨n - 1, by omega⟩
  rw [leadF_step _ _ _ _ _ hn, off_zero, Nat.sub_zero]
  have q := dec_some f (m + 1) hf hn
  split
  · next h =>
    have := leadF_le (n := m + 1) (c := c) hf m (0 + (dec f (m + 1)).2) (by omega)
    exact ⟨fun _ => h, fun _ => by omega⟩
  · next h => exact ⟨fun g => by omega, fun g => absurd g h⟩
/-- the class goes on no further -/
theorem leadF_stop {f : Nat → Nat} {n : Nat} {c : Int} (hf : ∀ j, f j < 256) : ∀ (k p : Nat), p ≤ n → n ≤ p + k → leadF f n c k p < n → Ch.isT Ch.tab c (dec (off f (leadF f n c k p)) (n - leadF f n c k p)).1 = false
  | 0, p, h, h2, h3 => by unfold leadF at h3; omega
  | k + 1, p, h, h2, h3 => by
    by_cases c1 : p < n
    · rw [leadF_step _ _ _ _ _ c1] at h3 ⊢
      have q := dec_some (off f p) (n - p) (fun _ => hf _) (by omega)
      split
      · next g => rw [if_pos g] at h3; exact leadF_stop hf k _ (by omega) (by omega) h3
      · next g => exact Bool.eq_false_iff.2 g
    · rw [leadF_end _ _ _ _ _ c1] at h3; omega
/-- of whole characters -/
theorem leadF_run {f : Nat → Nat} {n : Nat} {c : Int} (hf : ∀ j, f j < 256) : ∀ (k p : Nat), Run f n p n → n ≤ p + k → p ≤ n → Run f n p (leadF f n c k p)
  | 0, p, h, h2, h3 => by
    obtain rfl : p = n := by omega
    exact .refl _
  | k + 1, p, h, h2, h3 => by
    by_cases c1 : p < n
    · rw [leadF_step _ _ _ _ _ c1]
      have hw := run_whole h c1
      have hl := whole_lt hw
      rw [dec_whole (off f p) (n - p) (fun _ => hf _) (by omega), if_pos hw]
      split
      · exact .step hw (leadF_run hf k _ (run_step h c1) (by show n ≤ p + fs (off f p) (n - p) + k; omega) (by show p + fs (off f p) (n - p) ≤ n; omega))
      · exact .refl _
    · obtain rfl : p = n := by omega
      rw [leadF_end _ _ _ _ _ c1]; exact .refl _
theorem lead_run {f : Nat → Nat} {n : Nat} {c : Int} (hf : ∀ j, f j < 256) (h : Run f n 0 n) : Run f n 0 (lead f n c) := leadF_run hf n 0 h (by omega) (by omega)
/-- of a class below 128 each byte is one of it -/
theorem leadF_low {f : Nat → Nat} {n : Nat} {c : Int} (hf : ∀ j, f j < 256) (hc : ∀ r : Int, Ch.isT Ch.tab c r = true → r < 128) : ∀ (k p : Nat), n ≤ p + k → ∀ j, p ≤ j → j < leadF f n c k p → Ch.isT Ch.tab c (f j) = true
  | 0, p, h2, j, hj, hlt => by unfold leadF at hlt; omega
  | k + 1, p, h2, j, hj, hlt => by
    by_cases c1 : p < n
    · rw [leadF_step _ _ _ _ _ c1] at hlt
      split at hlt
      · next g =>
        by_cases lw : f p < 128
        · have e : dec (off f p) (n - p) = (f p, 1) := dec_low (f := off f p) (by simpa [off] using lw)
          rw [e] at g hlt
          by_cases ej : j = p
          · subst ej; exact g
          · exact leadF_low hf hc k (p + 1) (by omega) j (by omega) hlt
        · have := dec_high (f := off f p) (n := n - p) (fun _ => hf _) (by omega) (by simp [off]; omega)
          have := hc _ g
          omega
      · omega
    · rw [leadF_end _ _ _ _ _ c1] at hlt; omega
theorem c1_low (r : Int) (h : Ch.isT Ch.tab 1 r = true) : r < 128 := by
  rw [Ch.isT_eq] at h
  rw [show Ch.pick Ch.tab 1 = [(9, 10), (13, 13), (32, 32)] by decide] at h
  simp only [Ch.isR] at h
  repeat' split at h
  all_goals simp at h
  all_goals omega
theorem c1_is (r : Int) : Ch.isT Ch.tab 1 r = true ↔ r = 9 ∨ r = 10 ∨ r = 13 ∨ r = 32 := by
  rw [Ch.isT_eq]
  rw [show Ch.pick Ch.tab 1 = [(9, 10), (13, 13), (32, 32)] by decide]
  simp only [Ch.isR]
  repeat' split
  all_goals simp
  all_goals omega
theorem c4_is (r : Int) : Ch.isT Ch.tab 4 r = true ↔ 48 ≤ r ∧ r ≤ 57 := by
  rw [Ch.isT_eq]
  rw [show Ch.pick Ch.tab 4 = [(48, 57)] by decide]
  simp only [Ch.isR]
  split
  all_goals simp
  all_goals omega
theorem c4_low (r : Int) (h : Ch.isT Ch.tab 4 r = true) : r < 128 := by
  have := (c4_is r).1 h
  omega
theorem lead_blank {f : Nat → Nat} {n j : Nat} (hf : ∀ j, f j < 256) (h : j < lead f n 1) : f j = 9 ∨ f j = 10 ∨ f j = 13 ∨ f j = 32 := by
  have := (c1_is _).1 (leadF_low hf c1_low n 0 (by omega) j (by omega) h)
  omega
theorem lead_digit {f : Nat → Nat} {n j : Nat} (hf : ∀ j, f j < 256) (h : j < lead f n 4) : 48 ≤ f j ∧ f j ≤ 57 := by
  have := (c4_is _).1 (leadF_low hf c4_low n 0 (by omega) j (by omega) h)
  omega
theorem lead_digit_end {f : Nat → Nat} {n : Nat} (hf : ∀ j, f j < 256) (h : lead f n 4 < n) : ¬ (48 ≤ f (lead f n 4) ∧ f (lead f n 4) ≤ 57) := by
  intro g
  have := leadF_stop (c := 4) hf n 0 (by omega) (by omega) h
  have e : dec (off f (leadF f n 4 n 0)) (n - leadF f n 4 n 0) = (f (lead f n 4), 1) := dec_low (f := off f (lead f n 4)) (by show f (lead f n 4 + 0) < 128; rw [Nat.add_zero]; omega)
  rw [e] at this
  have k := (c4_is (f (lead f n 4))).2 (by omega)
  rw [k] at this
  cases this

/-- the number of digits, given up where it is too great -/
def numF (f : Nat → Nat) : Nat → Nat → Nat → Nat
  | 0, _, a => a
  | k + 1, p, a => if 1000000 < a * 10 + (f p - 48) then a * 10 + (f p - 48) else numF f k (p + 1) (a * 10 + (f p - 48))
def num (f : Nat → Nat) (w : Nat) : Nat := numF f w 0 0

/-- the first of m bytes that is c; m: none is -/
def idxF (g : Nat → Nat) (m c : Nat) : Nat → Nat → Nat
  | 0, _ => m
  | k + 1, p => if p < m then (if g p = c then p else idxF g m c k (p + 1)) else m
def idx (g : Nat → Nat) (m c : Nat) : Nat := idxF g m c m 0
theorem idxF_spec (g : Nat → Nat) (m c : Nat) : ∀ (k p : Nat), m ≤ p + k → p ≤ m → p ≤ idxF g m c k p ∧ idxF g m c k p ≤ m ∧ (∀ j, p ≤ j → j < idxF g m c k p → g j ≠ c) ∧ (idxF g m c k p < m → g (idxF g m c k p) = c)
  | 0, p, h, h2 => ⟨by unfold idxF; omega, by unfold idxF; omega, by unfold idxF; intro j _ _; omega, by unfold idxF; intro _; omega⟩
  | k + 1, p, h, h2 => by
    unfold idxF
    by_cases c1 : p < m
    · rw [if_pos c1]
      by_cases c2 : g p = c
      · rw [if_pos c2]
        exact ⟨Nat.le_refl _, h2, fun j _ _ => by omega, fun _ => c2⟩
      · rw [if_neg c2]
        obtain ⟨a1, a2, a3, a4⟩ := idxF_spec g m c k (p + 1) (by omega) (by omega)
        refine ⟨by omega, a2, fun j h1 h3 => ?_, a4⟩
        by_cases e : j = p
        · subst e; exact c2
        · exact a3 j (by omega) h3
    · rw [if_neg c1]
      exact ⟨h2, Nat.le_refl _, fun j _ _ => by omega, fun _ => by omega⟩
theorem idx_spec (g : Nat → Nat) (m c : Nat) : idx g m c ≤ m ∧ (∀ j, j < idx g m c → g j ≠ c) ∧ (idx g m c < m → g (idx g m c) = c) := by
  obtain ⟨_, a2, a3, a4⟩ := idxF_spec g m c m 0 (by omega) (by omega)
  exact ⟨a2, fun j h => a3 j (by omega) h, a4⟩
theorem idx_of {g : Nat → Nat} {m c k : Nat} (h1 : ∀ j, j < k → g j ≠ c) (h2 : k ≤ m) (h3 : k < m → g k = c) : idx g m c = k := by
  obtain ⟨a2, a3, a4⟩ := idx_spec g m c
  rcases Nat.lt_trichotomy (idx g m c) k with q | q | q
  · exact absurd (a4 (by omega)) (h1 _ q)
  · exact q
  · exact absurd (h3 (by omega)) (a3 _ q)

/-- the signs, as the program has them -/
def sgs : List (List Nat) := [[47, 47], [47], [91], [93], [40], [41], [58, 58], [64], [46], [42], [44], [61], [33, 61], [60], [62]]
/-- do the bytes begin with these? -/
def pre (f : Nat → Nat) (n : Nat) : List Nat → Bool
  | [] => true
  | c :: l => decide (0 < n ∧ f 0 = c) && pre (off f 1) (n - 1) l
/-- a string of such bytes -/
def bt (l : List Nat) : ByteArray := ⟨(l.map Nat.toUInt8).toArray⟩

/-- a word, how many bytes it has, and is it one -/
structure Wd where
  k : Nat
  tx : ByteArray
  nm : Nat
  wd : Nat
  ok : Bool
def rdNum (f : Nat → Nat) (n : Nat) : Wd :=
  if 1000000 < num f (lead f n 4) then ⟨0, ⟨#[]⟩, 0, 0, false⟩
  else if 0 < lead (off f (lead f n 4)) (n - lead f n 4) 2 then ⟨0, ⟨#[]⟩, 0, lead f n 4, false⟩
  else ⟨2, ⟨#[]⟩, num f (lead f n 4), lead f n 4, true⟩
def rdTxt (f : Nat → Nat) (n : Nat) : Wd :=
  if idx (off f 1) (n - 1) (f 0) < n - 1 then ⟨1, arr (off f 1) (idx (off f 1) (n - 1) (f 0)), 0, idx (off f 1) (n - 1) (f 0) + 2, true⟩ else ⟨0, ⟨#[]⟩, 0, 0, false⟩
def rdSgn (f : Nat → Nat) (n : Nat) : List (List Nat) → Wd
  | [] => ⟨0, ⟨#[]⟩, 0, 0, false⟩
  | s :: l => if pre f n s = true then ⟨3, bt s, 0, s.length, true⟩ else rdSgn f n l
def rd (f : Nat → Nat) (n : Nat) : Wd :=
  if 0 < lead f n 2 then ⟨0, arr f (lead f n 3), 0, lead f n 3, true⟩
  else if 0 < lead f n 4 then rdNum f n
  else if f 0 = 34 ∨ f 0 = 39 then rdTxt f n
  else rdSgn f n sgs

/-- the words from a place on, each with its place; and the place of what is wrong -/
def wds (f : Nat → Nat) (n : Nat) : Nat → Nat → List (Nat × Wd) × Option Nat
  | 0, _ => ([], none)
  | k + 1, p => if p < n then
      (if (rd (off f p) (n - p)).ok = true then
        ((p, rd (off f p) (n - p)) :: (wds f n k (p + (rd (off f p) (n - p)).wd + lead (off f (p + (rd (off f p) (n - p)).wd)) (n - (p + (rd (off f p) (n - p)).wd)) 1)).1,
          (wds f n k (p + (rd (off f p) (n - p)).wd + lead (off f (p + (rd (off f p) (n - p)).wd)) (n - (p + (rd (off f p) (n - p)).wd)) 1)).2)
      else ([], some (p + (rd (off f p) (n - p)).wd)))
    else ([], none)
def words (f : Nat → Nat) (n : Nat) : List (Nat × Wd) × Option Nat := wds f n n (lead f n 1)
end Lx
end Go.Proofs.YtoccedbnnafjcaaDoor
