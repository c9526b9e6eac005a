/-
  The mathematics of places: one behind the other.
-/
import Derived.Test.YtoccedbnnafjcaaDoorLxMath
import Derived.Test.YtoccedbnnafjcaaDoorRnAt
namespace Go.Proofs.YtoccedbnnafjcaaDoor
open Go.RowKit Go.Lib
namespace Lx
open Rn
open _root_.Go.Proofs.YtoccedbnnafjcaaDoor.Fd
/-- one character further -/
def stq (f : Nat → Nat) (N p r : Nat) (s : Nat × Nat × Nat) : Nat × Nat × Nat := if lineEnd f N p r = true then (s.1 + 1, s.2.1 + 1, 1) else (s.1 + 1, s.2.1, s.2.2 + 1)
theorem whole_fits {f : Nat → Nat} {m n : Nat} (h : whole f n = true) (hm : fs f n ≤ m) : whole f m = true ∧ fs f m = fs f n := by
  rcases Nat.le_total m n with q | q
  · have a := whole_down h hm q
    exact ⟨a, (whole_up a q).2.symm⟩
  · exact whole_up h q
theorem plcq_one {f : Nat → Nat} {N p a fuel : Nat} (hf : ∀ j, f j < 256) (h : whole (off f p) (N - p) = true) (ha : p + fs (off f p) (N - p) ≤ a) (s : Nat × Nat × Nat) :
    plcFrom f N a (fuel + 1) p s.1 s.2.1 s.2.2 = plcFrom f N a fuel (p + fs (off f p) (N - p)) (stq f N p (fv (off f p)) s).1 (stq f N p (fv (off f p)) s).2.1 (stq f N p (fv (off f p)) s).2.2 := by
  obtain ⟨a1, a2, a3, a4⟩ := whole_lt h
  obtain ⟨b1, b2⟩ := whole_fits (m := a - p) h (by omega)
  have hd := dec_whole (off f p) (a - p) (fun _ => hf _) (by omega)
  rw [b1, if_pos rfl, b2] at hd
  show (if a ≤ p then _ else _) = _
  unfold stq
  rw [if_neg (by omega), hd]
  dsimp only
  split <;> rfl
theorem plcq_run {f : Nat → Nat} {N : Nat} (hf : ∀ j, f j < 256) {p q : Nat} (h : Run f N p q) : ∃ (k : Nat) (W : Nat × Nat × Nat → Nat × Nat × Nat), ∀ (a fuel : Nat) (s : Nat × Nat × Nat), q ≤ a → a ≤ p + fuel →
    a ≤ q + (fuel - k) ∧ plcFrom f N a fuel p s.1 s.2.1 s.2.2 = plcFrom f N a (fuel - k) q (W s).1 (W s).2.1 (W s).2.2 := by
  induction h with
  | refl p => exact ⟨0, id, fun a fuel s h1 h2 => ⟨h2, rfl⟩⟩
  | @step p q h r ih =>
    obtain ⟨k, W, hW⟩ := ih
    have hle := r.le
    obtain ⟨a1, a2, a3, a4⟩ := whole_lt h
    refine ⟨k + 1, fun s => W (stq f N p (fv (off f p)) s), fun a fuel s h1 h2 => ?_⟩
    obtain ⟨m, rfl⟩ : ∃ m, fuel = m + 1 := ⟨fuel - 1, by omega⟩
    rw [plcq_one hf h (by omega)]
    have := hW a m (stq f N p (fv (off f p)) s) h1 (by omega)
    rw [show m + 1 - (k + 1) = m - k by omega]
    exact this
/-- more than enough is as good as enough -/
theorem plcq_fuel {f : Nat → Nat} {N a : Nat} (hf : ∀ j, f j < 256) : ∀ (x y p rn ln co : Nat), a ≤ p + x → a ≤ p + y → plcFrom f N a x p rn ln co = plcFrom f N a y p rn ln co
  | 0, y, p, rn, ln, co, hx, _ => by rw [plcFrom_end _ _ _ _ _ _ _ _ (by omega), plcFrom_end _ _ _ _ _ _ _ _ (by omega)]
  | x + 1, 0, p, rn, ln, co, _, hy => by rw [plcFrom_end _ _ _ _ _ _ _ _ (by omega), plcFrom_end _ _ _ _ _ _ _ _ (by omega)]
  | x + 1, y + 1, p, rn, ln, co, hx, hy => by
    unfold plcFrom
    by_cases c : a ≤ p
    · rw [if_pos c, if_pos c]
    · rw [if_neg c, if_neg c]
      have q := dec_pos (off f p) (a - p) (fun _ => hf _) (by omega)
      split
      · exact plcq_fuel hf x y _ _ _ _ (by omega) (by omega)
      · exact plcq_fuel hf x y _ _ _ _ (by omega) (by omega)
/-- from a later byte on -/
theorem plcq_off {f : Nat → Nat} {n d a : Nat} (hd : d ≤ n) : ∀ (x p rn ln co : Nat), p < n - d ∨ a ≤ p → a ≤ n - d → plcFrom (off f d) (n - d) a x p rn ln co = plcFrom f n (d + a) x (d + p) rn ln co
  | 0, p, rn, ln, co, _, _ => rfl
  | x + 1, p, rn, ln, co, hp, ha => by
    by_cases c : a ≤ p
    · rw [plcFrom_end _ _ _ _ _ _ _ _ c, plcFrom_end _ _ _ _ _ _ _ _ (by omega)]
    · have e : ∀ r, lineEnd (off f d) (n - d) p r = lineEnd f n (d + p) r := by
        intro r
        have q : (p + 1 = n - d ∨ f (d + p + 1) ≠ 10) ↔ (d + p + 1 = n ∨ f (d + p + 1) ≠ 10) := by
          constructor
          · rintro (q | q)
            · exact .inl (by omega)
            · exact .inr q
          · rintro (q | q)
            · exact .inl (by omega)
            · exact .inr q
        show (if r = 13 then decide (p + 1 = n - d ∨ f (d + p + 1) ≠ 10) else decide (r = 10)) = (if r = 13 then decide (d + p + 1 = n ∨ f (d + p + 1) ≠ 10) else decide (r = 10))
        simp only [q]
      have e2 : d + (p + (dec (off f (d + p)) (a - p)).2) = d + p + (dec (off f (d + p)) (a - p)).2 := by omega
      have e3 := fun ln' co' => plcq_off (f := f) (n := n) (d := d) (a := a) hd x (p + (dec (off f (d + p)) (a - p)).2) (rn + 1) ln' co' (by omega) ha
      have e4 : d + a - (d + p) = a - p := by omega
      unfold plcFrom
      rw [if_neg c, if_neg (fun q => c (Nat.le_of_add_le_add_left q)), off_off, e4, e, e3, e3, e2]
/-- a place behind a place: where the first lies behind whole characters -/
theorem plcq_add {f : Nat → Nat} {n d a : Nat} (hf : ∀ j, f j < 256) (h : Run f n 0 d) (hd : d + a ≤ n) (s : Nat × Nat × Nat) :
    plcFrom (off f d) (n - d) a a 0 (plcFrom f n d d 0 s.1 s.2.1 s.2.2).1 (plcFrom f n d d 0 s.1 s.2.1 s.2.2).2.1 (plcFrom f n d d 0 s.1 s.2.1 s.2.2).2.2 = plcFrom f n (d + a) (d + a) 0 s.1 s.2.1 s.2.2 := by
  obtain ⟨k, W, hW⟩ := plcq_run hf h
  have e0 : plcFrom f n d d 0 s.1 s.2.1 s.2.2 = W s := by
    rw [(hW d d s (Nat.le_refl _) (by omega)).2, plcFrom_end _ _ _ _ _ _ _ _ (Nat.le_refl _)]
  obtain ⟨d1, d2⟩ := hW (d + a) (d + a) s (by omega) (by omega)
  rw [e0, d2, plcq_off (by omega) a 0 _ _ _ (by omega) (by omega), Nat.add_zero]
  exact plcq_fuel hf _ _ _ _ _ _ (by omega) d1

theorem plcF_bound {f : Nat → Nat} {n a : Nat} (hf : ∀ j, f j < 256) : ∀ (k p rn ln co : Nat), p ≤ a →
    (plcFrom f n a k p rn ln co).1 ≤ rn + (a - p) ∧ ln ≤ (plcFrom f n a k p rn ln co).2.1 ∧ (plcFrom f n a k p rn ln co).2.1 ≤ ln + (a - p) ∧ (plcFrom f n a k p rn ln co).2.2 ≤ co + 1 + (a - p) ∧ (1 ≤ co → 1 ≤ (plcFrom f n a k p rn ln co).2.2)
  | 0, p, rn, ln, co, h => by
    show rn ≤ _ ∧ ln ≤ ln ∧ ln ≤ _ ∧ co ≤ _ ∧ (1 ≤ co → 1 ≤ co)
    exact ⟨by omega, by omega, by omega, by omega, fun h => h⟩
  | k + 1, p, rn, ln, co, h => by
    by_cases c : a ≤ p
    · rw [plcFrom_end _ _ _ _ _ _ _ _ c]
      exact ⟨by show rn ≤ _; omega, Nat.le_refl _, by show ln ≤ _; omega, by show co ≤ _; omega, fun h => h⟩
    · have q := dec_pos (off f p) (a - p) (fun _ => hf _) (by omega)
      unfold plcFrom
      rw [if_neg c]
      split
      · obtain ⟨a1, a2, a3, a4, a5⟩ := plcF_bound (n := n) (a := a) hf k (p + (dec (off f p) (a - p)).2) (rn + 1) (ln + 1) 1 (by omega)
        exact ⟨by omega, by omega, by omega, by omega, fun _ => a5 (by omega)⟩
      · obtain ⟨a1, a2, a3, a4, a5⟩ := plcF_bound (n := n) (a := a) hf k (p + (dec (off f p) (a - p)).2) (rn + 1) ln (co + 1) (by omega)
        exact ⟨by omega, by omega, by omega, by omega, fun _ => a5 (by omega)⟩
theorem plc_bound {f : Nat → Nat} {n a : Nat} (hf : ∀ j, f j < 256) : (plc f n a).1 ≤ a ∧ 1 ≤ (plc f n a).2.1 ∧ (plc f n a).2.1 ≤ a + 1 ∧ (plc f n a).2.2 ≤ a + 2 ∧ 1 ≤ (plc f n a).2.2 := by
  obtain ⟨a1, a2, a3, a4, a5⟩ := plcF_bound (f := f) (n := n) hf a 0 0 1 1 (Nat.zero_le a)
  exact ⟨by show (plcFrom f n a a 0 0 1 1).1 ≤ a; omega, a2, by show (plcFrom f n a a 0 0 1 1).2.1 ≤ _; omega, by show (plcFrom f n a a 0 0 1 1).2.2 ≤ _; omega, a5 (by omega)⟩
/-- the place behind another one, out of the place as it would be alone -/
def shf (s r : Nat × Nat × Nat) : Nat × Nat × Nat := (s.1 + r.1, s.2.1 - 1 + r.2.1, if r.2.1 = 1 then s.2.2 - 1 + r.2.2 else r.2.2)
theorem plcF_shf {f : Nat → Nat} {n a : Nat} (R L C : Nat) : ∀ (k p x y z : Nat), 1 ≤ y → plcFrom f n a k p (R + x) (L + y) (if y = 1 then C + z else z) = (R + (plcFrom f n a k p x y z).1, L + (plcFrom f n a k p x y z).2.1, if (plcFrom f n a k p x y z).2.1 = 1 then C + (plcFrom f n a k p x y z).2.2 else (plcFrom f n a k p x y z).2.2)
  | 0, p, x, y, z, hy => rfl
  | k + 1, p, x, y, z, hy => by
    by_cases c : a ≤ p
    · rw [plcFrom_end _ _ _ _ _ _ _ _ c, plcFrom_end _ _ _ _ _ _ _ _ c]
    · have e1 := plcF_shf (f := f) (n := n) (a := a) R L C k (p + (dec (off f p) (a - p)).2) (x + 1) (y + 1) 1 (by omega)
      rw [if_neg (by omega)] at e1
      have e2 := plcF_shf (f := f) (n := n) (a := a) R L C k (p + (dec (off f p) (a - p)).2) (x + 1) y (z + 1) hy
      have e3 : (if y = 1 then C + (z + 1) else z + 1) = (if y = 1 then C + z else z) + 1 := by split <;> rfl
      rw [e3] at e2
      unfold plcFrom
      rw [if_neg c, if_neg c]
      split
      · exact e1
      · exact e2
theorem plc_shf {f : Nat → Nat} {n d a : Nat} (hf : ∀ j, f j < 256) (h : Run f n 0 d) (hd : d + a ≤ n) : shf (plc f n d) (plc (off f d) (n - d) a) = plc f n (d + a) := by
  have b := plc_bound (f := f) (n := n) (a := d) hf
  have e := plcq_add (f := f) (n := n) (d := d) (a := a) hf h hd (0, 1, 1)
  have e2 := plcF_shf (f := off f d) (n := n - d) (a := a) (plc f n d).1 ((plc f n d).2.1 - 1) ((plc f n d).2.2 - 1) a 0 0 1 1 (Nat.le_refl _)
  rw [if_pos rfl, Nat.add_zero, show (plc f n d).2.1 - 1 + 1 = (plc f n d).2.1 by omega, show (plc f n d).2.2 - 1 + 1 = (plc f n d).2.2 by omega] at e2
  have e3 : plc f n (d + a) = plcFrom f n (d + a) (d + a) 0 0 1 1 := rfl
  rw [e3, ← e]
  exact e2.symm
end Lx
end Go.Proofs.YtoccedbnnafjcaaDoor
