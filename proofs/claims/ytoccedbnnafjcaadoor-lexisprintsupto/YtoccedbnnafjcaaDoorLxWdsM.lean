/-
  Plain mathematics: a query's words: step by step; their cells.
-/
import Derived.Test.YtoccedbnnafjcaaDoorLxRdM
import Derived.Test.YtoccedbnnafjcaaDoorLxBase
import Derived.Test.YtoccedbnnafjcaaDoorLxPlc
namespace Go.Proofs.YtoccedbnnafjcaaDoor
open Go.RowKit Go.Lib
namespace Lx
open Rn
open _root_.Go.Proofs.YtoccedbnnafjcaaDoor.Fd
/-- the place behind a word and the blanks that follow -/
def nxt (f : Nat → Nat) (n p : Nat) : Nat := p + (rd (off f p) (n - p)).wd + lead (off f (p + (rd (off f p) (n - p)).wd)) (n - (p + (rd (off f p) (n - p)).wd)) 1
theorem wds_end (f : Nat → Nat) (n k p : Nat) (h : ¬ p < n) : wds f n k p = ([], none) := by
  cases k with
  | zero => rfl
  | succ m => unfold wds; rw [if_neg h]
theorem wds_bad {f : Nat → Nat} {n k p : Nat} (h : p < n) (ho : (rd (off f p) (n - p)).ok = false) : wds f n (k + 1) p = ([], some (p + (rd (off f p) (n - p)).wd)) := by
  show (if p < n then _ else _) = _
  rw [if_pos h, if_neg (by rw [ho]; simp)]
theorem wds_ok {f : Nat → Nat} {n k p : Nat} (h : p < n) (ho : (rd (off f p) (n - p)).ok = true) : wds f n (k + 1) p = ((p, rd (off f p) (n - p)) :: (wds f n k (nxt f n p)).1, (wds f n k (nxt f n p)).2) := by
  show (if p < n then _ else _) = _
  rw [if_pos h, if_pos ho]
  rfl
theorem nxt_spec {f : Nat → Nat} {n p : Nat} (hf : ∀ j, f j < 256) (h : p < n) (ho : (rd (off f p) (n - p)).ok = true) : p < p + (rd (off f p) (n - p)).wd ∧ p + (rd (off f p) (n - p)).wd ≤ nxt f n p ∧ nxt f n p ≤ n ∧ (Run f n p n → Run f n p (nxt f n p)) := by
  obtain ⟨a1, a2, a3⟩ := rd_spec (f := off f p) (n := n - p) (fun _ => hf _) (by omega)
  have b := a2 ho
  have c := lead_le (f := off f (p + (rd (off f p) (n - p)).wd)) (n := n - (p + (rd (off f p) (n - p)).wd)) (c := 1) (fun _ => hf _)
  refine ⟨by omega, by unfold nxt; omega, by unfold nxt; omega, fun hr => ?_⟩
  have r1 := run_shift (d := p) (a3 (run_unshift (d := p) hr 0 (n - p) rfl (by omega))) (by omega)
  rw [Nat.add_zero] at r1
  have r2 : Run f n (p + (rd (off f p) (n - p)).wd) n := r1.diff hr (by rw [Nat.sub_self]; exact whole_none _)
  have r3 := lead_run (c := 1) (fun _ => hf _) (run_unshift (d := p + (rd (off f p) (n - p)).wd) r2 0 (n - (p + (rd (off f p) (n - p)).wd)) rfl (by omega))
  have r4 := run_shift r3 (by omega)
  rw [Nat.add_zero] at r4
  exact r1.trans r4
/-- a word's cells, its place with it -/
def wdl (f : Nat → Nat) (n : Nat) (x : Nat × Wd) : List Value := (wdC x.2.k x.2.tx x.2.nm (x.1, plc f n x.1)).toList
def wdls (f : Nat → Nat) (n : Nat) (l : List (Nat × Wd)) : List Value := l.flatMap (wdl f n)
theorem wdls_append (f : Nat → Nat) (n : Nat) (l m : List (Nat × Wd)) : wdls f n (l ++ m) = wdls f n l ++ wdls f n m := by simp [wdls]
theorem wdls_one (f : Nat → Nat) (n : Nat) (x : Nat × Wd) : wdls f n [x] = wdl f n x := by simp [wdls]
theorem wdl_length (f : Nat → Nat) (n : Nat) (x : Nat × Wd) : (wdl f n x).length = 7 := rfl
theorem wdl_cell (f : Nat → Nat) (n : Nat) (x : Nat × Wd) : ∀ u ∈ wdl f n x, u.oneCell' = true := by
  intro u hu
  simp [wdl, wdC] at hu
  rcases hu with rfl | rfl | rfl | rfl | rfl | rfl | rfl <;> rfl
theorem wdInfo3 : (Tryd.prog.info? 43).map (fun i => (i.zero, i.size, i.bytes)) = some (some (.agg wd0), 7, 64) := by kernel_rfl
/-- the places of all words are places of the text, each between whole characters -/
theorem wds_in {f : Nat → Nat} {n : Nat} (hf : ∀ j, f j < 256) : ∀ (k p : Nat), p ≤ n → ∀ x ∈ (wds f n k p).1, p ≤ x.1 ∧ x.1 < n
  | 0, p, _, x, hx => by simp [wds] at hx
  | k + 1, p, hp, x, hx => by
    by_cases h : p < n
    · cases ho : (rd (off f p) (n - p)).ok
      · rw [wds_bad h ho] at hx; simp at hx
      · rw [wds_ok h ho] at hx
        obtain ⟨a1, a2, a3, _⟩ := nxt_spec hf h ho
        rcases List.mem_cons.1 hx with rfl | hx
        · exact ⟨Nat.le_refl _, h⟩
        · have := wds_in hf k _ a3 x hx
          exact ⟨by omega, this.2⟩
    · rw [wds_end _ _ _ _ h] at hx; simp at hx
end Lx
end Go.Proofs.YtoccedbnnafjcaaDoor
