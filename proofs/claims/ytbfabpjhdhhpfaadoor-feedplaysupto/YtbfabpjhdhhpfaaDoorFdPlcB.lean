/-
  Plain mathematics: a place stays when more bytes come; the place of a byte that no character goes on with.
-/
import Derived.Test.YtbfabpjhdhhpfaaDoorFdPlc
import Derived.Test.YtbfabpjhdhhpfaaDoorRnMm
namespace Go.Proofs.YtbfabpjhdhhpfaaDoor.Fd
open Rn Go.Lib

theorem plcFrom_grow {F G : Nat → Nat} {N N' : Nat} (hF : ∀ j, F j < 256) (hG : ∀ j, G j < 256) (hFG : ∀ j, j < N → F j = G j) (hN : N ≤ N') {p T : Nat} (h : Run F N p T) (hT : T ≤ N) (hc : T = N → p = T ∨ F (T - 1) ≠ 13) :
    ∀ (fuel : Nat) (s : Nat × Nat × Nat), plcFrom G N' T fuel p s.1 s.2.1 s.2.2 = plcFrom F N T fuel p s.1 s.2.1 s.2.2 := by
  induction h with
  | refl p => intro fuel s; rw [plcFrom_end _ _ _ _ _ _ _ _ (Nat.le_refl _), plcFrom_end _ _ _ _ _ _ _ _ (Nat.le_refl _)]
  | @step p q h r ih =>
    intro fuel s
    have hle := r.le
    obtain ⟨a1, a2, a3, a4⟩ := whole_lt h
    obtain ⟨b1, b2⟩ := whole_fit (m := q - p) h (by omega)
    have hcr := whole_cr h
    cases fuel with
    | zero => rfl
    | succ m =>
      have e1 := dec_whole (off F p) (q - p) (fun _ => hF _) (by omega)
      have hw : whole (off G p) (q - p) = true := by
        rw [← b1]
        exact (whole_congr (f := off F p) (g := off G p) (fun j hj => hFG (p + j) (by omega))).symm
      have e2 := dec_whole (off G p) (q - p) (fun _ => hG _) (by omega)
      have hfs : fs (off G p) (q - p) = fs (off F p) (q - p) := (fs_congr (f := off F p) (g := off G p) (fun j hj => hFG (p + j) (by omega))).symm
      have hz : fs (off F p) (N - p) = size (off F p 0) := a3
      have hv : fv (off G p) = fv (off F p) := by
        have k0 : off F p 0 = off G p 0 := hFG (p + 0) (by omega)
        have k1 : 1 < size (off F p 0) → off F p 1 = off G p 1 := fun hh => hFG (p + 1) (by omega)
        have k2 : 2 < size (off F p 0) → off F p 2 = off G p 2 := fun hh => hFG (p + 2) (by omega)
        have k3 : 3 < size (off F p 0) → off F p 3 = off G p 3 := fun hh => hFG (p + 3) (by omega)
        unfold fv val
        rw [← k0]
        by_cases z1 : size (off F p 0) = 1
        · rw [if_pos z1, if_pos z1]
        · rw [if_neg z1, if_neg z1]
          have z0 := hz
          have z4 := size_le (off F p 0)
          rw [← k1 (by omega)]
          by_cases z2 : size (off F p 0) = 2
          · rw [if_pos z2, if_pos z2]
          · rw [if_neg z2, if_neg z2, ← k2 (by omega)]
            by_cases z3 : size (off F p 0) = 3
            · rw [if_pos z3, if_pos z3]
            · rw [if_neg z3, if_neg z3, ← k3 (by omega)]
      rw [b1, if_pos rfl, b2] at e1
      rw [hw, if_pos rfl, hfs, b2, hv] at e2
      have hl : lineEnd G N' p (fv (off F p)) = lineEnd F N p (fv (off F p)) := by
        unfold lineEnd
        by_cases h13 : fv (off F p) = 13
        · rw [if_pos h13, if_pos h13]
          have hf1 := (hcr.1 h13).1
          have hf0 : F p = 13 := (hcr.1 h13).2
          have hne : p + 1 ≠ N := by
            intro e
            have hTN : q = N := by omega
            rcases hc hTN with c | c
            · omega
            · exact c (by rw [show q - 1 = p by omega]; exact hf0)
          rw [← hFG (p + 1) (by omega)]
          rw [decide_eq_decide]
          omega
        · rw [if_neg h13, if_neg h13]
      show (if q ≤ p then _ else _) = (if q ≤ p then _ else _)
      have hqp : ¬ q ≤ p := by omega
      rw [if_neg hqp, if_neg hqp, e1, e2]
      dsimp only
      rw [hl]
      have hc' : q = N → p + fs (off F p) (N - p) = q ∨ F (q - 1) ≠ 13 := fun e => by
        rcases hc e with c | c
        · omega
        · exact .inr c
      have ih' := ih hT hc' m
      split
      · exact ih' (s.1 + 1, s.2.1 + 1, 1)
      · exact ih' (s.1 + 1, s.2.1, s.2.2 + 1)
/-- the place of what was taken stays, when more bytes come -/
theorem plc_grow {F G : Nat → Nat} {N N' T : Nat} (hF : ∀ j, F j < 256) (hG : ∀ j, G j < 256) (hFG : ∀ j, j < N → F j = G j) (hN : N ≤ N') (h : Run F N 0 T) (hc : T = N → T = 0 ∨ F (T - 1) ≠ 13) : plc G N' T = plc F N T := by
  have hT := h.bound (Nat.zero_le _)
  exact plcFrom_grow hF hG hFG hN h hT (fun e => (hc e).imp (fun z => z.symm) id) T (0, 1, 1)

/-- a byte within a character begins none -/
theorem tail_none {f : Nat → Nat} {n : Nat} (h : 128 ≤ f 0 ∧ f 0 ≤ 191) : whole f n = false := by
  have hs : size (f 0) = 0 := by
    unfold size
    rw [if_neg (by omega), if_neg (by omega), if_neg (by omega), if_neg (by omega)]
  have : fs f n = 0 := by unfold fs; rw [hs]; split <;> rfl
  unfold whole
  rw [this]
  rfl
theorem fk_tail {f : Nat → Nat} {n j : Nat} (h1 : 1 ≤ j) (hj : j < fk f n) : 128 ≤ f j ∧ f j ≤ 191 := by
  unfold fk len at hj
  have hlo : 128 ≤ lo (f 0) := by unfold lo; repeat' split
                                  all_goals omega
  have hhi : hi (f 0) ≤ 191 := by unfold hi; repeat' split
                                  all_goals omega
  split at hj
  · omega
  · split at hj
    · omega
    · split at hj
      · obtain rfl : j = 1 := by omega
        omega
      · split at hj
        · rcases (show j = 1 ∨ j = 2 by omega) with rfl | rfl <;> omega
        · rcases (show j = 1 ∨ j = 2 ∨ j = 3 by omega) with rfl | rfl | rfl <;> omega
theorem plcFrom_wrong {F : Nat → Nat} {N T k : Nat} (hF : ∀ j, F j < 256) (h : whole (off F T) (N - T) = false) (hk : k ≤ fk (off F T) (N - T)) : ∀ (i j fuel : Nat) (s : Nat × Nat × Nat), j + i = k → i ≤ fuel →
    plcFrom F N (T + k) fuel (T + j) s.1 s.2.1 s.2.2 = (s.1 + i, s.2.1, s.2.2 + i)
  | 0, j, fuel, s, hj, hf => by
    rw [plcFrom_end _ _ _ _ _ _ _ _ (by omega)]
    rfl
  | i + 1, j, fuel, s, hj, hf => by
    obtain ⟨m, rfl⟩ : ∃ m, fuel = m + 1 := ⟨fuel - 1, by omega⟩
    have hle := fk_le (off F T) (N - T)
    have hw : whole (off F (T + j)) (T + k - (T + j)) = false := by
      by_cases h0 : j = 0
      · subst h0
        rw [Nat.add_zero]
        exact whole_le (n := N - T) (by omega) h
      · refine tail_none ?_
        show 128 ≤ F (T + j + 0) ∧ F (T + j + 0) ≤ 191
        rw [Nat.add_zero]
        exact fk_tail (f := off F T) (n := N - T) (j := j) (by omega) (by omega)
    have hd := dec_whole (off F (T + j)) (T + k - (T + j)) (fun _ => hF _) (by omega)
    rw [hw, if_neg Bool.false_ne_true] at hd
    show (if T + k ≤ T + j then _ else _) = _
    rw [if_neg (by omega), hd]
    dsimp only
    have hl : lineEnd F N (T + j) 65533 = false := by unfold lineEnd; rw [if_neg (by decide)]; rfl
    rw [hl, if_neg Bool.false_ne_true]
    have := plcFrom_wrong hF h hk i (j + 1) m (s.1 + 1, s.2.1, s.2.2 + 1) (by omega) (by omega)
    rw [show T + (j + 1) = T + j + 1 by omega] at this
    rw [this]
    dsimp only
    rw [show s.1 + 1 + i = s.1 + (i + 1) by omega, show s.2.2 + 1 + i = s.2.2 + (i + 1) by omega]
/-- the place of the byte that no character goes on with -/
theorem plc_wrong {F : Nat → Nat} {N T k : Nat} (hF : ∀ j, F j < 256) (hr : Run F N 0 T) (h : whole (off F T) (N - T) = false) (hk : k ≤ fk (off F T) (N - T)) : plc F N (T + k) = ((plc F N T).1 + k, (plc F N T).2.1, (plc F N T).2.2 + k) := by
  obtain ⟨kk, W, hW⟩ := plcFrom_run hF hr
  have e0 : plc F N T = W (0, 1, 1) := by
    have := (hW T T (0, 1, 1) (Nat.le_refl _) (by omega)).2
    unfold plc
    rw [this, plcFrom_end _ _ _ _ _ _ _ _ (Nat.le_refl _)]
  obtain ⟨d1, d2⟩ := hW (T + k) (T + k) (0, 1, 1) (by omega) (by omega)
  have e1 : plc F N (T + k) = plcFrom F N (T + k) (T + k - kk) T (W (0, 1, 1)).1 (W (0, 1, 1)).2.1 (W (0, 1, 1)).2.2 := d2
  rw [e1, e0]
  have := plcFrom_wrong hF h hk k 0 (T + k - kk) (W (0, 1, 1)) (by omega) (by omega)
  rw [Nat.add_zero] at this
  exact this
end Go.Proofs.YtbfabpjhdhhpfaaDoor.Fd
