import Derived.Test.YtcnagbkdckipnaaGreatDoorLxWordE
import Derived.Test.YtcnagbkdckipnaaGreatDoorAkQuM
import Derived.Test.YtcnagbkdckipnaaGreatDoorLxFar
/-
  The mathematics of LexisPieces: two texts with blanks between them.
-/
namespace Go.Proofs.YtcnagbkdckipnaaGreatDoor
open Go.Lib
namespace Lx
open Rn
open _root_.Go.Proofs.YtcnagbkdckipnaaGreatDoor.Fd
/-- bytes that go on behind m others with a blank -/
structure Ext (f : Nat → Nat) (m : Nat) (F : Nat → Nat) (N : Nat) : Prop where
  lt : m < N
  eq : ∀ j, j < m → F j = f j
  bl : bl (F m)
theorem Ext.off {f F : Nat → Nat} {m N p : Nat} (h : Ext f m F N) (hp : p ≤ m) : Ext (Rn.off f p) (m - p) (Rn.off F p) (N - p) := by
  have h1 := h.lt
  refine ⟨by omega, fun j hj => h.eq (p + j) (by omega), ?_⟩
  show Lx.bl (F (p + (m - p)))
  rw [show p + (m - p) = m by omega]
  exact h.bl
theorem bl_low {v : Nat} (h : bl v) : v < 128 := by unfold bl at h; omega
/-- a whole character is one with more bytes behind it, too -/
theorem Ext.whole {f F : Nat → Nat} {m N : Nat} (h : Ext f m F N) (hw : Rn.whole f m = true) : Rn.whole F N = true ∧ fs F N = fs f m ∧ fv F = fv f := by
  have hl := whole_lt hw
  have hlt := h.lt
  have e0 : F 0 = f 0 := h.eq 0 (by omega)
  have h1 : Rn.whole F m = true ∧ fs F m = fs f m ∧ fv F = fv f := by
    have hz : fs F m = fs f m := by unfold fs; rw [e0]
    have hs := hl.2.2.1
    have hj : ∀ j, j < fs f m → F j = f j := fun j hj => h.eq j (by omega)
    rcases size_cases (f 0) with ⟨e, _⟩ | ⟨e, _⟩ | ⟨e, _⟩ | ⟨e, _⟩ | ⟨e, _⟩
    · refine ⟨?_, hz, ?_⟩
      · simp only [Rn.whole, decide_eq_true_eq, hz]
        rw [hs, e]
        exact ⟨by omega, (len1 (by rw [e0]; exact e)).2 (by omega)⟩
      · unfold fv val; rw [e0, if_pos e, if_pos e]
    · have a1 := hj 1 (by omega)
      simp only [Rn.whole, decide_eq_true_eq] at hw
      rw [hs, e] at hw
      have b := (len2 e).1 hw.2
      refine ⟨?_, hz, ?_⟩
      · simp only [Rn.whole, decide_eq_true_eq, hz]
        rw [hs, e]
        exact ⟨by omega, (len2 (by rw [e0]; exact e)).2 (by rw [e0, a1]; exact b)⟩
      · unfold fv val; rw [e0, a1, e]; rfl
    · have a1 := hj 1 (by omega)
      have a2 := hj 2 (by omega)
      simp only [Rn.whole, decide_eq_true_eq] at hw
      rw [hs, e] at hw
      have b := (len3 e).1 hw.2
      refine ⟨?_, hz, ?_⟩
      · simp only [Rn.whole, decide_eq_true_eq, hz]
        rw [hs, e]
        exact ⟨by omega, (len3 (by rw [e0]; exact e)).2 (by rw [e0, a1, a2]; exact b)⟩
      · unfold fv val; rw [e0, a1, a2, e]; rfl
    · have a1 := hj 1 (by omega)
      have a2 := hj 2 (by omega)
      have a3 := hj 3 (by omega)
      simp only [Rn.whole, decide_eq_true_eq] at hw
      rw [hs, e] at hw
      have b := (len4 e).1 hw.2
      refine ⟨?_, hz, ?_⟩
      · simp only [Rn.whole, decide_eq_true_eq, hz]
        rw [hs, e]
        exact ⟨by omega, (len4 (by rw [e0]; exact e)).2 (by rw [e0, a1, a2, a3]; exact b)⟩
      · unfold fv val; rw [e0, a1, a2, a3, e]
    · omega
  obtain ⟨q1, q2, q3⟩ := h1
  obtain ⟨u1, u2⟩ := whole_up q1 (Nat.le_of_lt hlt)
  exact ⟨u1, by rw [u2, q2], q3⟩
theorem Ext.run {f F : Nat → Nat} {m N : Nat} (h : Ext f m F N) : ∀ {p q : Nat}, Run f m p q → q ≤ m → Run F N p q := by
  intro p q r
  induction r with
  | refl p => intro _; exact .refl _
  | @step p q hw r ih =>
    intro hq
    have hl := whole_lt hw
    have hle := r.le
    obtain ⟨e1, e2, _⟩ := (h.off (p := p) (by omega)).whole hw
    exact .step e1 (by rw [e2]; exact ih hq)
/-- what begins with characters all through and goes on with a blank -/
theorem Ext.back {f F : Nat → Nat} {m N : Nat} (h : Ext f m F N) (r : Run F N 0 N) : Run f m 0 m := by
  have r1 := run_low (f := F) (n := N) (j := m) (bl_low h.bl) h.lt r (Nat.zero_le _) (Nat.le_of_lt h.lt)
  exact (r1.down (Nat.le_refl _) (Nat.le_of_lt h.lt)).congr (fun j hj => h.eq j hj)
/-- what Go's range gives at a place of the first ones -/
theorem Ext.dec {f F : Nat → Nat} {m N : Nat} (h : Ext f m F N) (hf : ∀ j, f j < 256) (hF : ∀ j, F j < 256) (hw : Rn.whole f m = true) : Rn.dec F N = Rn.dec f m := by
  have hl := whole_lt hw
  obtain ⟨e1, e2, e3⟩ := h.whole hw
  rw [dec_whole f m hf (by omega), dec_whole F N hF (by have := h.lt; omega), if_pos hw, if_pos e1, e2, e3]
theorem c_blank {v : Nat} (h : bl v) : Ch.isT Ch.tab 2 v = false ∧ Ch.isT Ch.tab 3 v = false ∧ Ch.isT Ch.tab 4 v = false := by
  rcases h with rfl | rfl | rfl | rfl <;> decide
/-- characters of a class that holds no blank: as many with more bytes behind -/
theorem Ext.leadF {f F : Nat → Nat} {m N : Nat} {c : Int} (h : Ext f m F N) (hf : ∀ j, f j < 256) (hF : ∀ j, F j < 256) (hc : Ch.isT Ch.tab c (F m) = false) : ∀ (k K p : Nat), Run f m p m → p ≤ m → m ≤ p + k → m < p + K → Lx.leadF F N c K p = Lx.leadF f m c k p
  | k, 0, p, _, _, _, hK => by omega
  | k, K + 1, p, r, hp, hk, hK => by
    have hlt := h.lt
    by_cases hpm : p < m
    · obtain ⟨q, rfl⟩ : ∃ q, k = q + 1 := ⟨k - 1, by omega⟩
      have hw := run_whole r hpm
      have hl := whole_lt hw
      have e := (h.off (p := p) (by omega)).dec (fun _ => hf _) (fun _ => hF _) hw
      have hd : (Rn.dec (Rn.off f p) (m - p)).2 = fs (Rn.off f p) (m - p) := by rw [dec_whole (Rn.off f p) (m - p) (fun _ => hf _) (by omega), if_pos hw]
      rw [leadF_step _ _ _ _ _ hpm, leadF_step _ _ _ _ _ (by omega), e]
      split
      · rw [hd]
        exact Ext.leadF h hf hF hc q K _ (run_step r hpm) (by omega) (by omega) (by omega)
      · rfl
    · obtain rfl : p = m := by omega
      have hlw : F p < 128 := bl_low h.bl
      rw [leadF_end f p c k p (by omega), leadF_step _ _ _ _ _ hlt, dec_low (f := Rn.off F p) (by simpa [Rn.off] using hlw)]
      have : Ch.isT Ch.tab c ((Rn.off F p 0 : Nat) : Int) = false := by simpa [Rn.off] using hc
      rw [if_neg (by rw [this]; simp)]
theorem Ext.lead {f F : Nat → Nat} {m N : Nat} {c : Int} (h : Ext f m F N) (hf : ∀ j, f j < 256) (hF : ∀ j, F j < 256) (hc : Ch.isT Ch.tab c (F m) = false) (r : Run f m 0 m) : Lx.lead F N c = Lx.lead f m c := by
  have := h.lt
  exact h.leadF hf hF hc m N 0 r (Nat.zero_le _) (by omega) (by omega)
theorem arr_ext {f F : Nat → Nat} {k : Nat} (h : ∀ j, j < k → F j = f j) : arr F k = arr f k := by
  apply ByteArray.ext
  apply Array.ext
  · simp [arr]
  · intro i h1 h2
    have hi : i < k := by simpa [arr] using h2
    simp [arr, h i hi]
theorem numF_ext {f F : Nat → Nat} : ∀ (k p a : Nat), (∀ j, j < k → F (p + j) = f (p + j)) → numF F k p a = numF f k p a
  | 0, _, _, _ => rfl
  | k + 1, p, a, h => by
    have e := h 0 (by omega)
    rw [Nat.add_zero] at e
    have ih := numF_ext (f := f) (F := F) k (p + 1) (a * 10 + (f p - 48)) (fun j hj => by have := h (j + 1) (by omega); rwa [show p + (j + 1) = p + 1 + j by omega] at this)
    unfold numF
    rw [e, ih]
theorem pre_ext : ∀ (l : List Nat) (f F : Nat → Nat) (m N : Nat), Ext f m F N → (∀ c ∈ l, ¬ bl c) → pre F N l = pre f m l
  | [], _, _, _, _, _, _ => rfl
  | c :: l, f, F, m, N, h, hc => by
    have hlt := h.lt
    unfold pre
    by_cases hm : 0 < m
    · rw [pre_ext l (Rn.off f 1) (Rn.off F 1) (m - 1) (N - 1) (h.off (by omega)) (fun c h => hc c (by simp [h])), h.eq 0 hm]
      simp only [hm, show 0 < N by omega, true_and]
    · obtain rfl : m = 0 := by omega
      have hb := h.bl
      have hne : F 0 ≠ c := fun e => hc c (by simp) (e ▸ hb)
      simp [hne]
theorem sgs_nb : ∀ s ∈ sgs, ∀ c ∈ s, ¬ bl c := by unfold bl; decide
theorem rdSgn_ext {f F : Nat → Nat} {m N : Nat} (h : Ext f m F N) : ∀ (l : List (List Nat)), (∀ s ∈ l, ∀ c ∈ s, ¬ bl c) → rdSgn F N l = rdSgn f m l
  | [], _ => rfl
  | s :: l, hl => by
    unfold rdSgn
    rw [pre_ext s f F m N h (hl s (by simp)), rdSgn_ext h l (fun s h => hl s (by simp [h]))]
theorem idx_ext {f F : Nat → Nat} {m N c : Nat} (he : ∀ j, j < m → F j = f j) (hN : m ≤ N) (h : idx f m c < m) : idx F N c = idx f m c := by
  obtain ⟨_, a3, a4⟩ := idx_spec f m c
  exact idx_of (fun j hj => by rw [he j (by omega)]; exact a3 j hj) (by omega) (fun _ => by rw [he _ h]; exact a4 h)
/-- the word at the beginning is the same, but for a quote that is not ended -/
theorem rd_ext {f F : Nat → Nat} {m N : Nat} (h : Ext f m F N) (hf : ∀ j, f j < 256) (hF : ∀ j, F j < 256) (r : Run f m 0 m) (hm : 0 < m) (hq : (f 0 = 34 ∨ f 0 = 39) → (rd f m).ok = true) : rd F N = rd f m := by
  obtain ⟨b2, b3, b4⟩ := c_blank h.bl
  have l2 := h.lead hf hF b2 r
  have l3 := h.lead hf hF b3 r
  have l4 := h.lead hf hF b4 r
  have e0 := h.eq 0 hm
  have hlt := h.lt
  have n3 : Lx.lead f m 3 ≤ m := lead_le hf
  have n4 : Lx.lead f m 4 ≤ m := lead_le hf
  unfold rd at hq ⊢
  rw [l2, l3, l4, e0]
  split
  · rw [arr_ext (fun j hj => h.eq j (by omega))]
  · next h2 =>
    rw [if_neg h2] at hq
    split
    · next h4 =>
      unfold rdNum
      rw [l4]
      have en : num F (Lx.lead f m 4) = num f (Lx.lead f m 4) := numF_ext _ 0 0 (fun j hj => by rw [Nat.zero_add]; exact h.eq j (by omega))
      have r4 : Run f m 0 (Lx.lead f m 4) := lead_run hf r
      have r5 : Run (Rn.off f (Lx.lead f m 4)) (m - Lx.lead f m 4) 0 (m - Lx.lead f m 4) := run_unshift (d := Lx.lead f m 4) (run_rest r r4) 0 _ (by omega) (by omega)
      have x := h.off n4
      have ec : Ch.isT Ch.tab 2 (Rn.off F (Lx.lead f m 4) (m - Lx.lead f m 4)) = false := by
        show Ch.isT Ch.tab 2 (F (Lx.lead f m 4 + (m - Lx.lead f m 4)) : Nat) = false
        rw [show Lx.lead f m 4 + (m - Lx.lead f m 4) = m by omega]
        exact b2
      rw [en, x.lead (fun _ => hf _) (fun _ => hF _) ec r5]
    · next h4 =>
      rw [if_neg h4] at hq
      split
      · next h5 =>
        have ho := hq h5
        rw [if_pos h5] at ho
        unfold rdTxt at ho ⊢
        rw [e0]
        by_cases c : idx (Rn.off f 1) (m - 1) (f 0) < m - 1
        · have e := idx_ext (f := Rn.off f 1) (F := Rn.off F 1) (m := m - 1) (N := N - 1) (c := f 0) (fun j hj => h.eq (1 + j) (by omega)) (by omega) c
          rw [e, if_pos c, if_pos (by omega), arr_ext (F := Rn.off F 1) (f := Rn.off f 1) (k := idx (Rn.off f 1) (m - 1) (f 0)) (fun j hj => h.eq (1 + j) (by omega))]
        · rw [if_neg c] at ho; cases ho
      · exact rdSgn_ext h sgs sgs_nb
end Lx
end Go.Proofs.YtcnagbkdckipnaaGreatDoor
/-
  The mathematics of LexisPieces: the words of two texts with blanks between are those of both.
-/
namespace Go.Proofs.YtcnagbkdckipnaaGreatDoor
open Go.Lib
namespace Lx
open Rn
open _root_.Go.Proofs.YtcnagbkdckipnaaGreatDoor.Fd
/-- m bytes, blanks up to d, and l others -/
structure Cat (f : Nat → Nat) (m : Nat) (g : Nat → Nat) (l d : Nat) (F : Nat → Nat) (N : Nat) : Prop where
  hf : ∀ j, f j < 256
  hg : ∀ j, g j < 256
  lt : m < d
  n : N = d + l
  e1 : ∀ j, j < m → F j = f j
  e2 : ∀ j, m ≤ j → j < d → bl (F j)
  e3 : ∀ j, F (d + j) = g j
section
variable {f g F : Nat → Nat} {m l d N : Nat}
theorem Cat.ext (h : Cat f m g l d F N) : Ext f m F N := ⟨by have := h.lt; have := h.n; omega, h.e1, h.e2 m (Nat.le_refl _) h.lt⟩
theorem Cat.hF (h : Cat f m g l d F N) (j : Nat) : F j < 256 := by
  by_cases h1 : j < m
  · rw [h.e1 j h1]; exact h.hf j
  · by_cases h2 : j < d
    · have := bl_low (h.e2 j (by omega) h2); omega
    · have := h.e3 (j - d)
      rw [show d + (j - d) = j by omega] at this
      rw [this]; exact h.hg _
theorem Cat.off (h : Cat f m g l d F N) : Rn.off F d = g := funext h.e3
theorem lead_blank_end {f : Nat → Nat} {n : Nat} (hf : ∀ j, f j < 256) (h : lead f n 1 < n) : ¬ bl (f (lead f n 1)) := by
  intro k
  have := leadF_stop (c := 1) hf n 0 (by omega) (by omega) h
  have hl := bl_low k
  have e : dec (Rn.off f (leadF f n 1 n 0)) (n - leadF f n 1 n 0) = (f (lead f n 1), 1) := dec_low (f := Rn.off f (lead f n 1)) (by show f (lead f n 1 + 0) < 128; rw [Nat.add_zero]; exact hl)
  rw [e] at this
  have k2 := (c1_is (f (lead f n 1))).2 (by unfold bl at k; omega)
  rw [k2] at this
  cases this
theorem lead1_of {f : Nat → Nat} {n b : Nat} (hf : ∀ j, f j < 256) (h1 : ∀ j, j < b → bl (f j)) (h2 : b ≤ n) (h3 : b < n → ¬ bl (f b)) : lead f n 1 = b := by
  have hle := lead_le (f := f) (n := n) (c := 1) hf
  rcases Nat.lt_trichotomy (lead f n 1) b with q | q | q
  · exact absurd (h1 _ q) (lead_blank_end hf (by omega))
  · exact q
  · exact absurd (lead_blank hf q) (h3 (by omega))
theorem Cat.lead1 (h : Cat f m g l d F N) {p : Nat} (hp : p ≤ m) : lead (Rn.off F p) (N - p) 1 = if p + lead (Rn.off f p) (m - p) 1 < m then lead (Rn.off f p) (m - p) 1 else d - p + lead g l 1 := by
  have hlt := h.lt
  have hn := h.n
  have hle := lead_le (f := Rn.off f p) (n := m - p) (c := 1) (fun _ => h.hf _)
  have hlg := lead_le (f := g) (n := l) (c := 1) h.hg
  have hB : ∀ j, j < lead (Rn.off f p) (m - p) 1 → bl (f (p + j)) := fun j hj => lead_blank (f := Rn.off f p) (fun _ => h.hf _) hj
  split
  · next c =>
    refine lead1_of (fun _ => h.hF _) (fun j hj => ?_) (by omega) (fun _ => ?_)
    · show bl (F (p + j)); rw [h.e1 _ (by omega)]; exact hB j hj
    · have := lead_blank_end (f := Rn.off f p) (n := m - p) (fun _ => h.hf _) (by omega)
      show ¬ bl (F (p + _)); rw [h.e1 _ c]; exact this
  · next c =>
    refine lead1_of (fun _ => h.hF _) (fun j hj => ?_) (by omega) (fun hlt2 => ?_)
    · show bl (F (p + j))
      by_cases c1 : p + j < m
      · rw [h.e1 _ c1]; exact hB j (by omega)
      · by_cases c2 : p + j < d
        · exact h.e2 _ (by omega) c2
        · have := h.e3 (p + j - d)
          rw [show d + (p + j - d) = p + j by omega] at this
          rw [this]
          exact lead_blank (f := g) (n := l) h.hg (by omega)
    · have := lead_blank_end (f := g) (n := l) h.hg (by omega)
      show ¬ bl (F (p + (d - p + lead g l 1)))
      rw [show p + (d - p + lead g l 1) = d + lead g l 1 by omega, h.e3]
      exact this
/-- a word moved on -/
def mv (d : Nat) (x : Nat × Wd) : Nat × Wd := (d + x.1, x.2)
theorem Cat.shift (h : Cat f m g l d F N) : ∀ (k s : Nat), wds F N k (d + s) = ((wds g l k s).1.map (mv d), (wds g l k s).2.map (d + ·))
  | 0, s => rfl
  | k + 1, s => by
    have hn := h.n
    have eo : ∀ a, Rn.off F (d + a) = Rn.off g a := fun a => by rw [← off_off, h.off]
    have en : ∀ a, N - (d + a) = l - a := fun a => by omega
    by_cases c : s < l
    · have er : rd (Rn.off F (d + s)) (N - (d + s)) = rd (Rn.off g s) (l - s) := by rw [eo, en]
      cases ho : (rd (Rn.off g s) (l - s)).ok
      · rw [wds_bad c ho, wds_bad (by omega) (by rw [er]; exact ho), er]
        simp [Nat.add_assoc]
      · have ex : nxt F N (d + s) = d + nxt g l s := by
          unfold nxt
          rw [er, Nat.add_assoc d s, eo, en]
          omega
        rw [wds_ok c ho, wds_ok (by omega) (by rw [er]; exact ho), er, ex, Cat.shift h k]
        rfl
    · rw [wds_end _ _ _ _ c, wds_end _ _ _ _ (by omega)]
      rfl
theorem wds_fuel {f : Nat → Nat} {n : Nat} (hf : ∀ j, f j < 256) : ∀ (x y p : Nat), n ≤ p + x → n ≤ p + y → wds f n x p = wds f n y p
  | 0, y, p, hx, _ => by rw [wds_end _ _ _ _ (by omega), wds_end _ _ _ _ (by omega)]
  | x + 1, 0, p, _, hy => by rw [wds_end _ _ _ _ (by omega), wds_end _ _ _ _ (by omega)]
  | x + 1, y + 1, p, hx, hy => by
    by_cases c : p < n
    · cases ho : (rd (Rn.off f p) (n - p)).ok
      · rw [wds_bad c ho, wds_bad c ho]
      · obtain ⟨a1, a2, a3, _⟩ := nxt_spec hf c ho
        rw [wds_ok c ho, wds_ok c ho, wds_fuel hf x y _ (by omega) (by omega)]
    · rw [wds_end _ _ _ _ c, wds_end _ _ _ _ c]
/-- the words of the second text, moved on -/
theorem Cat.tail (h : Cat f m g l d F N) (K : Nat) (hK : N ≤ d + lead g l 1 + K) : wds F N K (d + lead g l 1) = ((words g l).1.map (mv d), (words g l).2.map (d + ·)) := by
  have hn := h.n
  have hlg := lead_le (f := g) (n := l) (c := 1) h.hg
  rw [h.shift, wds_fuel h.hg K l _ (by omega) (by omega)]
  rfl
theorem Cat.nxt (h : Cat f m g l d F N) {p : Nat} (hp : p < m) (er : rd (Rn.off F p) (N - p) = rd (Rn.off f p) (m - p)) (ho : (rd (Rn.off f p) (m - p)).ok = true) : Lx.nxt F N p = if Lx.nxt f m p < m then Lx.nxt f m p else d + lead g l 1 := by
  obtain ⟨a1, a2, a3, _⟩ := nxt_spec h.hf hp ho
  have hlt := h.lt
  have hle : p + (rd (Rn.off f p) (m - p)).wd ≤ m := by omega
  have e := h.lead1 hle
  unfold Lx.nxt at a2 a3 ⊢
  rw [er, e]
  split
  · rfl
  · omega
theorem Cat.all (h : Cat f m g l d F N) : ∀ (k K p : Nat), p < m → Run f m p m → m ≤ p + k → N ≤ p + K → (wds f m k p).2 = none → wds F N K p = ((wds f m k p).1 ++ (words g l).1.map (mv d), (words g l).2.map (d + ·))
  | 0, K, p, hp, _, hk, _, _ => by omega
  | k + 1, 0, p, hp, _, _, hK, _ => by have := h.lt; have := h.n; omega
  | k + 1, K + 1, p, hp, r, hk, hK, hw => by
    have hn := h.n
    have hlt := h.lt
    cases ho : (rd (Rn.off f p) (m - p)).ok
    · rw [wds_bad hp ho] at hw; cases hw
    · have r0 : Run (Rn.off f p) (m - p) 0 (m - p) := run_unshift (d := p) r 0 _ rfl (by omega)
      have er := rd_ext (h.ext.off (p := p) (by omega)) (fun _ => h.hf _) (fun _ => h.hF _) r0 (by omega) (fun _ => ho)
      obtain ⟨a1, a2, a3, a4⟩ := nxt_spec h.hf hp ho
      have en := h.nxt hp er ho
      rw [wds_ok hp ho] at hw ⊢
      rw [wds_ok (by omega) (by rw [er]; exact ho), er, en]
      split
      · next c =>
        have rn : Run f m (Lx.nxt f m p) m := (a4 r).diff r (by rw [Nat.sub_self]; exact whole_none _)
        rw [Cat.all h k K _ c rn (by omega) (by omega) hw]
        rfl
      · next c =>
        have hx : wds f m k (Lx.nxt f m p) = ([], none) := wds_end _ _ _ _ c
        rw [h.tail K (by omega), hx]
        rfl
theorem Cat.bad (h : Cat f m g l d F N) (hq : ∀ j, j < m → f j ≠ 34 ∧ f j ≠ 39) : ∀ (k K p a : Nat), p < m → Run f m p m → m ≤ p + k → N ≤ p + K → (wds f m k p).2 = some a → (wds F N K p).2 = some a
  | 0, K, p, a, hp, _, hk, _, _ => by omega
  | k + 1, 0, p, a, hp, _, _, hK, _ => by have := h.lt; have := h.n; omega
  | k + 1, K + 1, p, a, hp, r, hk, hK, hw => by
    have hn := h.n
    have hlt := h.lt
    have r0 : Run (Rn.off f p) (m - p) 0 (m - p) := run_unshift (d := p) r 0 _ rfl (by omega)
    have er := rd_ext (h.ext.off (p := p) (by omega)) (fun _ => h.hf _) (fun _ => h.hF _) r0 (by omega) (fun q => by have := hq p hp; simp only [Rn.off, Nat.add_zero] at q; omega)
    cases ho : (rd (Rn.off f p) (m - p)).ok
    · rw [wds_bad hp ho] at hw
      rw [wds_bad (by omega) (by rw [er]; exact ho), er]
      exact hw
    · obtain ⟨a1, a2, a3, a4⟩ := nxt_spec h.hf hp ho
      have en := h.nxt hp er ho
      rw [wds_ok hp ho] at hw
      rw [wds_ok (by omega) (by rw [er]; exact ho), en]
      by_cases c : Lx.nxt f m p < m
      · have rn : Run f m (Lx.nxt f m p) m := (a4 r).diff r (by rw [Nat.sub_self]; exact whole_none _)
        rw [if_pos c]
        exact Cat.bad h hq k K _ a c rn (by omega) (by omega) hw
      · rw [wds_end _ _ _ _ c] at hw; cases hw
theorem Cat.words (h : Cat f m g l d F N) (r : Run f m 0 m) (hw : (Lx.words f m).2 = none) : Lx.words F N = ((Lx.words f m).1 ++ (Lx.words g l).1.map (mv d), (Lx.words g l).2.map (d + ·)) := by
  have hn := h.n
  have hlt := h.lt
  have e := h.lead1 (p := 0) (Nat.zero_le _)
  rw [off_zero, off_zero, Nat.sub_zero, Nat.sub_zero, Nat.zero_add, Nat.sub_zero] at e
  have hle := lead_le (f := f) (n := m) (c := 1) h.hf
  have hlg := lead_le (f := g) (n := l) (c := 1) h.hg
  unfold Lx.words at hw ⊢
  rw [e]
  split
  · next c => exact h.all m N _ c ((lead_run h.hf r).diff r (by rw [Nat.sub_self]; exact whole_none _)) (by omega) (by omega) hw
  · next c =>
    rw [wds_end f m m _ c, h.tail N (by omega)]
    rfl
theorem Cat.fault (h : Cat f m g l d F N) (r : Run f m 0 m) (hq : ∀ j, j < m → f j ≠ 34 ∧ f j ≠ 39) {a : Nat} (hw : (Lx.words f m).2 = some a) : (Lx.words F N).2 = some a := by
  have hn := h.n
  have hlt := h.lt
  have e := h.lead1 (p := 0) (Nat.zero_le _)
  rw [off_zero, off_zero, Nat.sub_zero, Nat.sub_zero, Nat.zero_add, Nat.sub_zero] at e
  have hle := lead_le (f := f) (n := m) (c := 1) h.hf
  unfold Lx.words at hw ⊢
  rw [e]
  by_cases c : lead f m 1 < m
  · rw [if_pos c]
    exact h.bad hq m N _ a c ((lead_run h.hf r).diff r (by rw [Nat.sub_self]; exact whole_none _)) (by omega) (by omega) hw
  · rw [wds_end _ _ _ _ c] at hw; cases hw
theorem Cat.run (h : Cat f m g l d F N) (r1 : Run f m 0 m) (r2 : Run g l 0 l) : Run F N 0 N := by
  have hn := h.n
  have hlt := h.lt
  have a1 := h.ext.run r1 (Nat.le_refl _)
  have a2 : ∀ k, m + k ≤ d → Run F N m (m + k) := by
    intro k
    induction k with
    | zero => intro _; exact .refl _
    | succ k ih => intro hk; exact (ih (by omega)).trans (run_one (bl_low (h.e2 (m + k) (by omega) (by omega))) (by omega))
  have a3 := a2 (d - m) (by omega)
  rw [show m + (d - m) = d by omega] at a3
  have a4 : Run (Rn.off F d) (N - d) 0 l := by rw [h.off, show N - d = l by omega]; exact r2
  have a5 := run_shift a4 (by omega)
  rw [Nat.add_zero, ← hn] at a5
  exact (a1.trans a3).trans a5
/-- both are words: so is the whole -/
theorem Cat.good (h : Cat f m g l d F N) (h1 : flt f m = none) (h2 : flt g l = none) : flt F N = none ∧ (Lx.words F N).1 = (Lx.words f m).1 ++ (Lx.words g l).1.map (mv d) := by
  have k : ∀ {f : Nat → Nat} {m : Nat}, flt f m = none → V f m 0 = true ∧ (Lx.words f m).2 = none := by
    intro f m hh
    unfold flt at hh
    split at hh
    · next c => exact ⟨c, by simpa using hh⟩
    · cases hh
  obtain ⟨v1, w1⟩ := k h1
  obtain ⟨v2, w2⟩ := k h2
  have r1 := (vd_run f m).1 v1
  have r2 := (vd_run g l).1 v2
  have hv : V F N 0 = true := (vd_run F N).2 (h.run r1 r2)
  have e := h.words r1 w1
  refine ⟨?_, by rw [e]⟩
  unfold flt
  rw [if_pos hv, e, w2]
  rfl
/-- the first is none: so is the whole, but for a quote -/
theorem Cat.none (h : Cat f m g l d F N) {a : Nat} {why : Int} (h1 : flt f m = some (a, why)) (hq : why = 104 → ∀ j, j < m → f j ≠ 34 ∧ f j ≠ 39) : ∃ x, flt F N = some x := by
  unfold flt at h1 ⊢
  split
  · next c =>
    have rF := (vd_run F N).1 c
    have rf := h.ext.back rF
    have vf : V f m 0 = true := (vd_run f m).2 rf
    rw [if_pos vf] at h1
    obtain ⟨b, hb, e⟩ := Option.map_eq_some_iff.1 h1
    cases e
    rw [h.fault rf (hq rfl) hb]
    exact ⟨_, rfl⟩
  · exact ⟨_, rfl⟩
end
end Lx
end Go.Proofs.YtcnagbkdckipnaaGreatDoor
/-
  The mathematics of LexisPieces: places and words as they lie in memory.
-/
namespace Go.Proofs.YtcnagbkdckipnaaGreatDoor
open Go.Lib
namespace Lx
open Rn
open _root_.Go.Proofs.YtcnagbkdckipnaaGreatDoor.Fd
/-- a place ahead of the last byte stays when more bytes come -/
theorem Ext.plcF {f F : Nat → Nat} {m N a : Nat} (h : Ext f m F N) (hf : ∀ j, f j < 256) (ha : a < m) : ∀ (x p rn ln co : Nat), plcFrom F N a x p rn ln co = plcFrom f m a x p rn ln co
  | 0, _, _, _, _ => rfl
  | x + 1, p, rn, ln, co => by
    have hl := h.lt
    unfold plcFrom
    by_cases c : a ≤ p
    · rw [if_pos c, if_pos c]
    · have e1 : Rn.dec (Rn.off F p) (a - p) = Rn.dec (Rn.off f p) (a - p) := by
        unfold Rn.dec
        exact decodeN_congr (fun _ => h.eq _ (by show p + 0 < m; omega)) (fun _ => h.eq _ (by show p + 1 < m; omega)) (fun _ => h.eq _ (by show p + 2 < m; omega)) (fun _ => h.eq _ (by show p + 3 < m; omega)) (by omega)
      have e2 : ∀ r, lineEnd F N p r = lineEnd f m p r := by
        intro r
        unfold lineEnd
        rw [h.eq (p + 1) (by omega)]
        simp [show ¬ p + 1 = m by omega, show ¬ p + 1 = N by omega]
      rw [if_neg c, if_neg c, e1, e2, h.plcF hf ha x, h.plcF hf ha x]
theorem Ext.plc {f F : Nat → Nat} {m N a : Nat} (h : Ext f m F N) (hf : ∀ j, f j < 256) (ha : a < m) : Rn.plc F N a = Rn.plc f m a := h.plcF hf ha _ _ _ _ _
theorem Cov.lt {f : Nat → Nat} {n : Nat} : ∀ (l : List (Nat × Wd)) (a : Nat), Cov f n a l → ∀ x ∈ l, x.1 < n
  | [], _, _, x, hx => by cases hx
  | (p, y) :: l, a, h, x, hx => by
    rcases List.mem_cons.1 hx with rfl | hx
    · exact h.2.1
    · exact Cov.lt l _ h.2.2.2.2 x hx
section
variable {f g F : Nat → Nat} {m l d N : Nat}
/-- the first text's words are those of the whole -/
theorem Cat.wdl1 (h : Cat f m g l d F N) {x : Nat × Wd} (hx : x.1 < m) : wdl F N x = wdl f m x := by
  unfold wdl
  rw [h.ext.plc h.hf hx]
/-- the second text's words, moved on -/
theorem wdl2 (F : Nat → Nat) (N d : Nat) (x : Nat × Wd) : wdl F N (mv d x) = (wdC x.2.k x.2.tx x.2.nm (d + x.1, Rn.plc F N (d + x.1))).toList := rfl
end
end Lx
end Go.Proofs.YtcnagbkdckipnaaGreatDoor
namespace Go.Proofs.YtcnagbkdckipnaaGreatDoor
open Go.RowKit Go.Lib
namespace Lx
def gapL : List ByteArray := [⟨#[32]⟩, ⟨#[9]⟩, ⟨#[10]⟩, ⟨#[13, 10, 32]⟩, ⟨#[32, 32, 13]⟩]
/-- the bytes of both, the gap between them -/
def catF (f : Nat → Nat) (m : Nat) (gs : ByteArray) (g : Nat → Nat) : Nat → Nat := fun j => if j < m then f j else if j < m + gs.size then (gs.data[j - m]?.getD 32).toNat else g (j - (m + gs.size))
theorem cat_arr (f g : Nat → Nat) (m l : Nat) (gs : ByteArray) : Rn.arr f m ++ gs ++ Rn.arr g l = Rn.arr (catF f m gs g) (m + gs.size + l) := by
  apply ByteArray.ext
  have hs : gs.data.size = gs.size := rfl
  apply Array.ext
  · simp [Rn.arr, hs]; omega
  · intro i h1 h2
    have h3 : i < m + gs.size + l := by simpa [Rn.arr] using h2
    simp only [Rn.arr, ByteArray.data_append, Array.getElem_append, Array.getElem_ofFn, Array.size_append, Array.size_ofFn, hs, catF]
    by_cases c1 : i < m
    · simp [c1, show i < m + gs.size by omega]
    · by_cases c2 : i < m + gs.size
      · have c3 : i - m < gs.data.size := by omega
        rw [dif_pos c2, dif_neg c1, if_neg c1, if_pos c2, Array.getElem?_eq_getElem c3]
        simp
      · simp [c1, c2]
theorem gap_size {k : Nat} {gs : ByteArray} (h : gapL[k]? = some gs) : 0 < gs.size ∧ gs.size ≤ 3 ∧ ∀ j, j < gs.size → bl (gs.data[j]?.getD 32).toNat := by
  have key : ∀ x ∈ gapL, 0 < x.size ∧ x.size ≤ 3 ∧ ∀ j, j < x.size → bl (x.data[j]?.getD 32).toNat := by
    unfold gapL bl
    intro x hx
    simp only [List.mem_cons, List.not_mem_nil, or_false] at hx
    rcases hx with rfl | rfl | rfl | rfl | rfl <;> (refine ⟨by decide, by decide, ?_⟩; intro j hj; revert j; decide)
  exact key gs (List.mem_of_getElem? h)
theorem cat_of {f g : Nat → Nat} {m l k : Nat} {gs : ByteArray} (hf : ∀ j, f j < 256) (hg : ∀ j, g j < 256) (h : gapL[k]? = some gs) : Cat f m g l (m + gs.size) (catF f m gs g) (m + gs.size + l) := by
  obtain ⟨h1, h2, h3⟩ := gap_size h
  refine ⟨hf, hg, by omega, rfl, fun j hj => ?_, fun j hj hd => ?_, fun j => ?_⟩
  · unfold catF; rw [if_pos hj]
  · unfold catF; rw [if_neg (by omega), if_pos hd]; exact h3 _ (by omega)
  · unfold catF; rw [if_neg (by omega), if_neg (by omega), Nat.add_sub_cancel_left]
end Lx
end Go.Proofs.YtcnagbkdckipnaaGreatDoor
