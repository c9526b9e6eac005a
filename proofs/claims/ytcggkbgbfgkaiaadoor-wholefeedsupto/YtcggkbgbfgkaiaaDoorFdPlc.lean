/-
  Plain mathematics: a Feed's place is layer 1's; a text that is characters all through is taken to its end.
-/
import Derived.Test.YtcggkbgbfgkaiaaDoorFdLawCuts
import Derived.Test.YtcggkbgbfgkaiaaDoorRnAt
import Derived.Test.YtcggkbgbfgkaiaaDoorRnMm
namespace Go.Proofs.YtcggkbgbfgkaiaaDoor.Fd
open Rn Go.Lib

/-- one character further -/
def stp (f : Nat → Nat) (N p r : Nat) (s : Nat × Nat × Nat) : Nat × Nat × Nat := if lineEnd f N p r = true then (s.1 + 1, s.2.1 + 1, 1) else (s.1 + 1, s.2.1, s.2.2 + 1)
theorem whole_fit {f : Nat → Nat} {m n : Nat} (h : whole f n = true) (hm : fs f n ≤ m) : whole f m = true ∧ fs f m = fs f n := by
  rcases Nat.le_total m n with q | q
  · have a := whole_down h hm q
    exact ⟨a, (whole_up a q).2.symm⟩
  · exact whole_up h q
theorem plcFrom_one {f : Nat → Nat} {N p a fuel : Nat} (hf : ∀ j, f j < 256) (h : whole (off f p) (N - p) = true) (ha : p + fs (off f p) (N - p) ≤ a) (s : Nat × Nat × Nat) :
    plcFrom f N a (fuel + 1) p s.1 s.2.1 s.2.2 = plcFrom f N a fuel (p + fs (off f p) (N - p)) (stp f N p (fv (off f p)) s).1 (stp f N p (fv (off f p)) s).2.1 (stp f N p (fv (off f p)) s).2.2 := by
  obtain ⟨a1, a2, a3, a4⟩ := whole_lt h
  obtain ⟨b1, b2⟩ := whole_fit (m := a - p) h (by omega)
  have hd := dec_whole (off f p) (a - p) (fun _ => hf _) (by omega)
  rw [b1, if_pos rfl, b2] at hd
  show (if a ≤ p then _ else _) = _
  unfold stp
  rw [if_neg (by omega), hd]
  dsimp only
  split <;> rfl
theorem plcFrom_run {f : Nat → Nat} {N : Nat} (hf : ∀ j, f j < 256) {p q : Nat} (h : Run f N p q) : ∃ (k : Nat) (W : Nat × Nat × Nat → Nat × Nat × Nat), ∀ (a fuel : Nat) (s : Nat × Nat × Nat), q ≤ a → a ≤ p + fuel →
    a ≤ q + (fuel - k) ∧ plcFrom f N a fuel p s.1 s.2.1 s.2.2 = plcFrom f N a (fuel - k) q (W s).1 (W s).2.1 (W s).2.2 := by
  induction h with
  | refl p => exact ⟨0, id, fun a fuel s h1 h2 => ⟨h2, rfl⟩⟩
  | @step p q h r ih =>
    obtain ⟨k, W, hW⟩ := ih
    have hle := r.le
    obtain ⟨a1, a2, a3, a4⟩ := whole_lt h
    refine ⟨k + 1, fun s => W (stp f N p (fv (off f p)) s), fun a fuel s h1 h2 => ?_⟩
    obtain ⟨m, rfl⟩ : ∃ m, fuel = m + 1 := ⟨fuel - 1, by omega⟩
    rw [plcFrom_one hf h (by omega)]
    have := hW a m (stp f N p (fv (off f p)) s) h1 (by omega)
    rw [show m + 1 - (k + 1) = m - k by omega]
    exact this
theorem small_whole {f : Nat → Nat} {n : Nat} (h : f 0 < 128) (hn : 0 < n) : whole f n = true ∧ fs f n = 1 ∧ fv f = f 0 := by
  have h1 : size (f 0) = 1 := by unfold size; rw [if_pos h]
  have hs : fs f n = 1 := by unfold fs; rw [if_neg (by omega), h1]
  refine ⟨?_, hs, by unfold fv val; rw [if_pos h1]⟩
  unfold whole fk len
  rw [hs, h1, if_neg (by omega), if_pos (.inl rfl)]
  rfl
/-- the place behind what is taken -/
theorem plc_adv {f : Nat → Nat} {N T : Nat} (hf : ∀ j, f j < 256) (h : Run f N 0 T) (hx : (pk f N T true).2.2.2 = 0) : plc f N (T + (pk f N T true).2.2.1) = adv (pk f N T true) (plc f N T) := by
  obtain ⟨k, W, hW⟩ := plcFrom_run hf h
  have e0 : plc f N T = W (0, 1, 1) := by
    have := (hW T T (0, 1, 1) (Nat.le_refl _) (by omega)).2
    unfold plc
    rw [this, plcFrom_end _ _ _ _ _ _ _ _ (Nat.le_refl _)]
  obtain ⟨w, hw⟩ : ∃ w, (pk f N T true).2.2.1 = w := ⟨_, rfl⟩
  obtain ⟨d1, d2⟩ := hW (T + w) (T + w) (0, 1, 1) (by omega) (by omega)
  have e1 : plc f N (T + w) = plcFrom f N (T + w) (T + w - k) T (W (0, 1, 1)).1 (W (0, 1, 1)).2.1 (W (0, 1, 1)).2.2 := d2
  rw [hw, e1, e0]
  generalize W (0, 1, 1) = s at *
  clear hW d2 e1 e0
  have hp := pk_pos hx
  rw [hw] at hp
  obtain ⟨m, hm⟩ : ∃ m, T + w - k = m + 1 := ⟨T + w - k - 1, by omega⟩
  rw [hm] at d1 ⊢
  unfold adv
  rw [if_pos hx, hw]
  by_cases hwh : whole (off f T) (N - T) = true
  · obtain ⟨a1, a2, a3, a4⟩ := whole_lt hwh
    have hcr := whole_cr hwh
    by_cases h13 : fv (off f T) = 13
    · obtain ⟨c1, c2⟩ := hcr.1 h13
      have hle : ∀ r, r = 13 → lineEnd f N T r = decide (T + 1 = N ∨ f (T + 1) ≠ 10) := fun r hr => by unfold lineEnd; rw [if_pos hr]
      by_cases h10 : T + 1 < N ∧ f (T + 1) = 10
      · have hpk : pk f N T true = (10, 0, 2, 0) := by unfold pk; rw [if_pos hwh, if_pos h13, if_pos h10.1, if_pos h10.2]
        rw [hpk] at hw ⊢
        have hw2 : w = 2 := hw.symm
        subst hw2
        obtain ⟨s1, s2, s3⟩ := small_whole (f := off f (T + 1)) (n := N - (T + 1)) (by show f (T + 1 + 0) < 128; rw [Nat.add_zero, h10.2]; omega) (by omega)
        have s4 : fv (off f (T + 1)) = 10 := by rw [s3]; show f (T + 1 + 0) = 10; rw [Nat.add_zero, h10.2]
        rw [plcFrom_one hf hwh (by omega), c1]
        obtain ⟨m2, rfl⟩ : ∃ m2, m = m2 + 1 := ⟨m - 1, by omega⟩
        rw [plcFrom_one hf s1 (by omega), s2, plcFrom_end _ _ _ _ _ _ _ _ (by omega)]
        have g1 : stp f N T (fv (off f T)) s = (s.1 + 1, s.2.1, s.2.2 + 1) := by
          unfold stp
          rw [hle _ h13, if_neg]
          simp only [decide_eq_true_eq]
          omega
        rw [g1, s4]
        rfl
      · have hpk : pk f N T true = (10, 0, 1, 0) := by
          unfold pk
          rw [if_pos hwh, if_pos h13]
          by_cases q : T + 1 < N
          · rw [if_pos q, if_neg (fun e => h10 ⟨q, e⟩)]
          · rw [if_neg q, if_pos rfl]
        rw [hpk] at hw ⊢
        have hw2 : w = 1 := hw.symm
        subst hw2
        rw [plcFrom_one hf hwh (by omega), c1, plcFrom_end _ _ _ _ _ _ _ _ (by omega)]
        have g1 : stp f N T (fv (off f T)) s = (s.1 + 1, s.2.1 + 1, 1) := by
          unfold stp
          rw [hle _ h13, if_pos]
          simp only [decide_eq_true_eq]
          omega
        rw [g1]
        rfl
    · have hpk : pk f N T true = (fv (off f T), 0, fs (off f T) (N - T), 0) := by unfold pk; rw [if_pos hwh, if_neg h13]
      rw [hpk] at hw ⊢
      have hw2 : fs (off f T) (N - T) = w := hw
      rw [plcFrom_one hf hwh (by omega), hw2, plcFrom_end _ _ _ _ _ _ _ _ (Nat.le_refl _)]
      unfold stp lineEnd
      rw [if_neg h13]
      by_cases h10 : fv (off f T) = 10
      · have c1 := (hcr.2.2.1 (by omega)).1
        simp only [h10, decide_true, if_true]
        rw [show w = 1 by omega]
      · simp only [h10, decide_false, Bool.false_eq_true, if_false]
  · have hwf : whole (off f T) (N - T) = false := by simpa using hwh
    exfalso
    revert hx
    unfold pk
    rw [hwf]
    simp only [Bool.false_eq_true, if_false, if_true]
    split
    · decide
    · split <;> simp

/-- a text that is characters all through -/
theorem run_whole {f : Nat → Nat} {n T : Nat} (h : Run f n T n) (hT : T < n) : whole (off f T) (n - T) = true ∧ Run f n (T + fs (off f T) (n - T)) n := by
  cases h with
  | refl => omega
  | step h r => exact ⟨h, r⟩
theorem run_pk {f : Nat → Nat} {n T : Nat} (h : Run f n T n) (hT : T < n) : (pk f n T true).2.2.2 = 0 ∧ Run f n (T + (pk f n T true).2.2.1) n ∧ Run f n T (T + (pk f n T true).2.2.1) := by
  have hw := (run_whole h hT).1
  have h0 : (pk f n T true).2.2.2 = 0 := by
    unfold pk
    rw [if_pos hw]
    repeat' split
    all_goals first | rfl | simp_all
  obtain ⟨x, hx⟩ : ∃ x, pk f n T true = x := ⟨_, rfl⟩
  obtain ⟨r, a, w, k⟩ := x
  rw [hx] at h0 ⊢
  obtain rfl : k = 0 := h0
  have hp := pk_have hx
  refine ⟨rfl, ?_, hp.2.2.1⟩
  refine hp.2.2.1.diff h ?_
  unfold whole fs
  rw [if_pos (by omega)]
  rfl
theorem tkE_run {f : Nat → Nat} {n : Nat} : ∀ (k T : Nat) (p : Nat × Nat × Nat), n - T ≤ k → Run f n T n → (tkE f n true (n - T) T p).1 = n
  | 0, T, p, hk, h => by
    have := h.le
    rw [show n - T = 0 by omega]
    show T = n
    omega
  | k + 1, T, p, hk, h => by
    by_cases hT : T < n
    · obtain ⟨h0, h1, h2⟩ := run_pk h hT
      have hpp := pk_pos h0
      rw [(tk_step p h0).2]
      exact tkE_run k _ _ (by omega) h1
    · have := h.le
      rw [show n - T = 0 by omega]
      show T = n
      omega
theorem pk_done (f : Nat → Nat) (n : Nat) : (pk f n n true).2.2.2 = 3 := by
  have hw : whole (off f n) (n - n) = false := by
    unfold whole fs
    rw [if_pos (by omega)]
    rfl
  unfold pk
  rw [hw]
  simp
/-- what is mended is characters all through -/
theorem run_cat (l : List UInt8) : ∀ (L : List Nat), (∀ r ∈ L, scal r) → ∀ (A : List UInt8), l = A ++ cat L → Run (lf l) l.length A.length l.length
  | [], _, A, hl => by
    have : l.length = A.length := by rw [hl]; simp [cat]
    rw [this]
    exact .refl _
  | r :: L, hL, A, hl => by
    rw [cat_cons] at hl
    obtain ⟨h1, h2, h3, h4⟩ := at_enc l A r L (hL r (by simp)) hl
    refine .step h2 ?_
    rw [h3]
    have := run_cat l L (fun x hx => hL x (by simp [hx])) (A ++ encodeRune r) (by rw [hl, List.append_assoc])
    rw [List.length_append, enc_length] at this
    exact this
end Go.Proofs.YtcggkbgbfgkaiaaDoor.Fd
