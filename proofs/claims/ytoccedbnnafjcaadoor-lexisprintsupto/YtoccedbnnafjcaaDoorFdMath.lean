/-
  The mathematics of a Feed: what lies behind the characters that were taken, and that it stays so when more bytes come.
-/
import Derived.Test.YtoccedbnnafjcaaDoorRnEnc
namespace Go.Proofs.YtoccedbnnafjcaaDoor
open Go.RowKit Go.Lib

namespace Fd
open Rn
theorem whole_lt {f : Nat → Nat} {n : Nat} (h : whole f n = true) : 0 < fs f n ∧ fs f n ≤ n ∧ fs f n = size (f 0) ∧ 0 < n := by
  simp only [whole, decide_eq_true_eq] at h
  have a := fk_le f n
  have hn : 0 < n := by omega
  exact ⟨h.1, by omega, by unfold fs; rw [if_neg (by omega)], hn⟩
theorem whole_up {f : Nat → Nat} {m n : Nat} (h : whole f m = true) (hm : m ≤ n) : whole f n = true ∧ fs f n = fs f m := by
  obtain ⟨a1, a2, a3, a4⟩ := whole_lt h
  have e : fs f n = size (f 0) := by unfold fs; rw [if_neg (by omega)]
  have e2 := fk_min f hm (by omega)
  have e3 := fk_le_fs f n
  simp only [whole, decide_eq_true_eq] at h ⊢
  omega
theorem whole_down {f : Nat → Nat} {m n : Nat} (h : whole f n = true) (hm : fs f n ≤ m) (hn : m ≤ n) : whole f m = true := by
  obtain ⟨a1, a2, a3, a4⟩ := whole_lt h
  have e : fs f m = size (f 0) := by unfold fs; rw [if_neg (by omega)]
  have e2 := fk_min f hn (by omega)
  simp only [whole, decide_eq_true_eq] at h ⊢
  omega
/-- of a whole character: is it U+000D, and its last byte -/
theorem whole_cr {f : Nat → Nat} {n : Nat} (h : whole f n = true) : (fv f = 13 → fs f n = 1 ∧ f 0 = 13) ∧ (fv f ≠ 13 → f (fs f n - 1) ≠ 13) ∧ (fv f < 128 → fs f n = 1 ∧ fv f = f 0) ∧ (f 0 < 128 → fs f n = 1 ∧ fv f = f 0) := by
  obtain ⟨a1, a2, a3, a4⟩ := whole_lt h
  simp only [whole, decide_eq_true_eq] at h
  have hk := h.2
  rw [a3] at hk ⊢
  unfold fk at hk
  rcases size_cases (f 0) with ⟨e, c⟩ | ⟨e, c⟩ | ⟨e, c⟩ | ⟨e, c⟩ | ⟨e, c⟩
  · have : fv f = f 0 := by simp [fv, val, e]
    rw [e, this]
    simp
    try omega
  · rw [e] at hk ⊢
    have h2 := (len2 e).1 hk
    have : fv f = val (f 0) (f 1) (f 2) (f 3) := rfl
    unfold val at this
    simp only [e] at this
    refine ⟨?_, ?_, ?_, ?_⟩
    · intro q; exfalso; simp at this; omega
    · intro q; show f 1 ≠ 13; omega
    · intro q; exfalso; simp at this; omega
    · intro q; exfalso; omega
  · rw [e] at hk ⊢
    have h2 := (len3 e).1 hk
    have : fv f = val (f 0) (f 1) (f 2) (f 3) := rfl
    unfold val at this
    simp only [e] at this
    have l1 : 128 ≤ lo (f 0) := by unfold lo; repeat' split
                                   all_goals omega
    refine ⟨?_, ?_, ?_, ?_⟩
    · intro q; exfalso; simp at this; have : f 0 = 224 → lo (f 0) = 160 := by intro z; rw [z]; rfl
      omega
    · intro q; show f 2 ≠ 13; omega
    · intro q; exfalso; simp at this; have : f 0 = 224 → lo (f 0) = 160 := by intro z; rw [z]; rfl
      omega
    · intro q; exfalso; omega
  · rw [e] at hk ⊢
    have h2 := (len4 e).1 hk
    have : fv f = val (f 0) (f 1) (f 2) (f 3) := rfl
    unfold val at this
    simp only [e] at this
    have l1 : 128 ≤ lo (f 0) := by unfold lo; repeat' split
                                   all_goals omega
    refine ⟨?_, ?_, ?_, ?_⟩
    · intro q; exfalso; simp at this; have : f 0 = 240 → lo (f 0) = 144 := by intro z; rw [z]; rfl
      omega
    · intro q; show f 3 ≠ 13; omega
    · intro q; exfalso; simp at this; have : f 0 = 240 → lo (f 0) = 144 := by intro z; rw [z]; rfl
      omega
    · intro q; exfalso; omega
  · omega

/-- what Peek tells of N bytes behind T of them: the rune, how far a wrong byte lies behind T, the width, how -/
def pk (F : Nat → Nat) (N T : Nat) (E : Bool) : Nat × Nat × Nat × Nat :=
  if whole (off F T) (N - T) then
    if fv (off F T) = 13 then
      if T + 1 < N then (if F (T + 1) = 10 then (10, 0, 2, 0) else (10, 0, 1, 0))
      else if E then (10, 0, 1, 0) else (0, 0, 0, 1)
    else (fv (off F T), 0, fs (off F T) (N - T), 0)
  else if N ≤ T then (0, 0, 0, if E then 3 else 1)
  else if waits (off F T) (N - T) then (if E then (0, N - T, 0, 2) else (0, 0, 0, 1))
  else (0, fk (off F T) (N - T), 0, 2)

theorem off_off (F : Nat → Nat) (d k : Nat) : off (off F d) k = off F (d + k) := by
  funext j
  show F (d + (k + j)) = F (d + k + j)
  rw [Nat.add_assoc]
theorem pk_off (F : Nat → Nat) (d n k : Nat) (E : Bool) : pk (off F d) n k E = pk F (d + n) (d + k) E := by
  unfold pk
  rw [off_off, show d + n - (d + k) = n - k by omega]
  have h1 : (k + 1 < n) = (d + k + 1 < d + n) := by apply propext; omega
  have h2 : (n ≤ k) = (d + n ≤ d + k) := by apply propext; omega
  have h3 : off F d (k + 1) = F (d + k + 1) := rfl
  simp only [h1, h2, h3]

/-- from p on there are whole characters up to q -/
inductive Run (F : Nat → Nat) (N : Nat) : Nat → Nat → Prop
  | refl (p : Nat) : Run F N p p
  | step {p q : Nat} (h : whole (off F p) (N - p) = true) (r : Run F N (p + fs (off F p) (N - p)) q) : Run F N p q
theorem Run.le {F : Nat → Nat} {N p q : Nat} (h : Run F N p q) : p ≤ q := by
  induction h with
  | refl => exact Nat.le_refl _
  | step h r ih => omega
theorem Run.bound {F : Nat → Nat} {N p q : Nat} (h : Run F N p q) (hp : p ≤ N) : q ≤ N := by
  induction h with
  | refl => exact hp
  | step h r ih => exact ih (by have := whole_lt h; omega)
theorem Run.up {F : Nat → Nat} {N N' p q : Nat} (h : Run F N p q) (hN : N ≤ N') : Run F N' p q := by
  induction h with
  | refl => exact .refl _
  | @step p q h r ih =>
    obtain ⟨a, b⟩ := whole_up (n := N' - p) h (by omega)
    exact .step a (by rw [b]; exact ih)
theorem Run.congr {F G : Nat → Nat} {N p q : Nat} (hG : ∀ j, j < N → F j = G j) (h : Run F N p q) : Run G N p q := by
  induction h with
  | refl => exact .refl _
  | @step p q h r ih =>
    have hl := whole_lt h
    have e : ∀ j, j < N - p → off F p j = off G p j := fun j hj => hG _ (by omega)
    exact .step (by rw [← whole_congr e]; exact h) (by rw [← fs_congr e]; exact ih)
theorem Run.trans {F : Nat → Nat} {N p q r : Nat} (h : Run F N p q) (k : Run F N q r) : Run F N p r := by
  induction h with
  | refl => exact k
  | step h _ ih => exact .step h (ih k)
theorem Run.one {F : Nat → Nat} {N p : Nat} (h : whole (off F p) (N - p) = true) : Run F N p (p + fs (off F p) (N - p)) := .step h (.refl _)
theorem Run.tail {F : Nat → Nat} {N p q : Nat} (h : Run F N p q) (hw : whole (off F p) (N - p) = true) (hq : whole (off F q) (N - q) = false) : Run F N (p + fs (off F p) (N - p)) q := by
  cases h with
  | refl => rw [hw] at hq; cases hq
  | step _ r => exact r
theorem Run.head {F : Nat → Nat} {N p q : Nat} (h : Run F N p q) (hw : whole (off F p) (N - p) = false) : p = q := by
  cases h with
  | refl => rfl
  | step h _ => rw [hw] at h; cases h
theorem Run.shift {F : Nat → Nat} {d n p q : Nat} (h : Run (off F d) n p q) : Run F (d + n) (d + p) (d + q) := by
  induction h with
  | refl => exact .refl _
  | @step p q h r ih =>
    rw [off_off, show n - p = d + n - (d + p) by omega] at h ih
    exact .step h (by rw [Nat.add_assoc]; exact ih)
theorem Run.diff {F : Nat → Nat} {N p q r : Nat} (h : Run F N p q) (k : Run F N p r) (hr : whole (off F r) (N - r) = false) : Run F N q r := by
  induction h with
  | refl => exact k
  | step h _ ih => exact ih (k.tail h hr)
/-- down again: the run lies within the bytes -/
theorem Run.down {F : Nat → Nat} {N M p q : Nat} (h : Run F N p q) (hq : q ≤ M) (hM : M ≤ N) : Run F M p q := by
  induction h with
  | refl => exact .refl _
  | @step p q h r ih =>
    have hl := r.le
    have hd := whole_down (m := M - p) h (by omega) (by omega)
    have hu := whole_up (n := N - p) hd (by omega)
    exact .step hd (by rw [← hu.2]; exact ih hq)

/-- what a Feed keeps: n of the bytes from d on, k of them taken, wh of them whole characters -/
structure Inv (F : Nat → Nat) (N T : Nat) (E : Bool) (d n k wh : Nat) (bad : Bool) : Prop where
  at' : d + k = T
  run : Run F N T (d + wh)
  run0 : Run F N 0 T
  stop : whole (off F (d + wh)) (N - (d + wh)) = false
  plain : bad = false → d + n = N ∧ (d + wh = N ∨ waits (off F (d + wh)) (N - (d + wh)) = true)
  wrong : bad = true → d + wh < N ∧ waits (off F (d + wh)) (N - (d + wh)) = false ∧ n = wh + fk (off F (d + wh)) (N - (d + wh)) + 1
  cr : E = false → T = N → T = 0 ∨ F (T - 1) ≠ 13

theorem fk_lt {f : Nat → Nat} {n : Nat} (hn : 0 < n) (hw : whole f n = false) (hx : waits f n = false) : fk f n < n := by
  have a1 := fk_le f n
  have a2 := fk_le_fs f n
  have e : fs f n = size (f 0) := by unfold fs; rw [if_neg (by omega)]
  simp only [whole, waits, decide_eq_false_iff_not] at hw hx
  by_cases hs : size (f 0) = 0
  · have := fk_zero f n hs
    omega
  · omega
theorem Inv.le {F : Nat → Nat} {N T d n k wh : Nat} {E bad : Bool} (h : Inv F N T E d n k wh bad) : d + n ≤ N ∧ k ≤ wh ∧ wh ≤ n ∧ T ≤ N := by
  have h1 := h.run.le
  have h2 := h.run0.bound (Nat.zero_le _)
  have h3 := h.run.bound h2
  have h4 := h.at'
  cases hb : bad
  · obtain ⟨a, _⟩ := h.plain hb
    omega
  · obtain ⟨a, b, c⟩ := h.wrong hb
    have := fk_lt (show 0 < N - (d + wh) by omega) h.stop b
    omega
/-- what is kept tells what all bytes tell -/
theorem Inv.pk {F : Nat → Nat} {N T d n k wh : Nat} {E bad : Bool} (h : Inv F N T E d n k wh bad) : pk (off F d) n k E = Fd.pk F N T E := by
  rw [pk_off, h.at']
  have hle := h.le
  cases hb : bad
  · rw [(h.plain hb).1]
  · obtain ⟨a, b, c⟩ := h.wrong hb
    have hf := fk_lt (show 0 < N - (d + wh) by omega) h.stop b
    have hT := h.run.le
    have hr := h.run
    have hstop := h.stop
    generalize hM : d + n = M at *
    generalize hW : d + wh = W at *
    have hMW : M = W + fk (off F W) (N - W) + 1 := by omega
    clear c hM
    by_cases hw : whole (off F T) (N - T) = true
    · have ht := (hr.tail hw hstop).le
      have hd := whole_down (m := M - T) hw (by omega) (by omega)
      have hu := whole_up (n := N - T) hd (by omega)
      obtain ⟨l1, _⟩ := whole_lt hw
      unfold Fd.pk
      rw [hw, hd, ← hu.2]
      simp only [if_true]
      have e1 : (T + 1 < M) = True := by simp; omega
      have e2 : (T + 1 < N) = True := by simp; omega
      simp only [e1, e2]
    · have hw' : whole (off F T) (N - T) = false := by simpa using hw
      have := hr.head hw'
      subst this
      have e0 : fs (off F T) (N - T) = size (off F T 0) := by unfold fs; rw [if_neg (by omega)]
      have e1 : fs (off F T) (M - T) = size (off F T 0) := by unfold fs; rw [if_neg (by omega)]
      have hk : fk (off F T) (M - T) = fk (off F T) (N - T) := by
        by_cases hs : size (off F T 0) = 0
        · rw [fk_zero _ _ hs, fk_zero _ _ hs]
        · rw [fk_min (off F T) (m := M - T) (n := N - T) (by omega) (by omega)]
          omega
      have g1 : whole (off F T) (M - T) = false := by
        have := hw'
        unfold whole at this ⊢
        rw [e0] at this
        rw [e1, hk]
        exact this
      have g2 : waits (off F T) (M - T) = false := by
        simp only [waits, decide_eq_false_iff_not]
        omega
      unfold Fd.pk
      rw [hw', g1, b, g2, hk, if_neg (show ¬ M ≤ T by omega), if_neg (show ¬ N ≤ T by omega)]
      simp
/-- the width of what is there -/
theorem pk_have {F : Nat → Nat} {N T : Nat} {E : Bool} {r a w : Nat} (h : pk F N T E = (r, a, w, 0)) : a = 0 ∧ 0 < w ∧ Run F N T (T + w) ∧ (w = 1 ∨ w = 2 ∨ w = 3 ∨ w = 4) ∧ (E = false → T + w = N → F (T + w - 1) ≠ 13) ∧ whole (off F T) (N - T) = true := by
  unfold pk at h
  split at h
  · next hw =>
    have hl := whole_lt hw
    have hc := whole_cr hw
    have h4 := fs_le (off F T) (N - T)
    split at h
    · next h13 =>
      have h1 := (hc.1 h13).1
      have r1 : Run F N T (T + 1) := by have := Run.one hw; rw [h1] at this; exact this
      split at h
      · next hlt =>
        split at h
        · next h10 =>
          obtain ⟨rfl, rfl, rfl, _⟩ : 10 = r ∧ 0 = a ∧ 2 = w ∧ True := by simpa using h
          have hw2 : whole (off F (T + 1)) (N - (T + 1)) = true := by
            have e : off F (T + 1) 0 = 10 := h10
            have es : size 10 = 1 := rfl
            have e1 : fs (off F (T + 1)) (N - (T + 1)) = 1 := by unfold fs; rw [if_neg (by omega), e]; rfl
            simp only [whole, decide_eq_true_eq, e1]
            refine ⟨by omega, ?_⟩
            unfold fk
            rw [e]
            exact (len1 es).2 (by omega)
          have e1 : fs (off F (T + 1)) (N - (T + 1)) = 1 := by
            have e : off F (T + 1) 0 = 10 := h10
            unfold fs; rw [if_neg (by omega), e]; rfl
          have r2 := Run.one hw2
          rw [e1] at r2
          exact ⟨rfl, by omega, r1.trans r2, by omega, fun _ _ => by show F (T + 1) ≠ 13; omega, hw⟩
        · obtain ⟨rfl, rfl, rfl, _⟩ : 10 = r ∧ 0 = a ∧ 1 = w ∧ True := by simpa using h
          exact ⟨rfl, by omega, r1, by omega, fun _ e => by omega, hw⟩
      · split at h
        · next hE =>
          obtain ⟨rfl, rfl, rfl, _⟩ : 10 = r ∧ 0 = a ∧ 1 = w ∧ True := by simpa using h
          exact ⟨rfl, by omega, r1, by omega, fun e => (by rw [hE] at e; cases e), hw⟩
        · simp at h
    · next h13 =>
      obtain ⟨rfl, rfl, rfl, _⟩ : fv (off F T) = r ∧ 0 = a ∧ fs (off F T) (N - T) = w ∧ True := by simpa using h
      refine ⟨rfl, hl.1, Run.one hw, by omega, fun _ _ => ?_, hw⟩
      have := hc.2.1 h13
      rw [show T + fs (off F T) (N - T) - 1 = T + (fs (off F T) (N - T) - 1) by omega]
      exact this
  · split at h
    · split at h <;> simp at h
    · split at h
      · split at h <;> simp at h
      · simp at h
/-- a character is taken -/
theorem Inv.take {F : Nat → Nat} {N T d n k wh : Nat} {E bad : Bool} (h : Inv F N T E d n k wh bad) {r a w : Nat} (hp : Fd.pk F N T E = (r, a, w, 0)) : Inv F N (T + w) E d n (k + w) wh bad := by
  obtain ⟨_, h1, h2, _, h4, _⟩ := pk_have hp
  refine ⟨by have := h.at'; omega, ?_, h.run0.trans h2, h.stop, h.plain, h.wrong, fun e q => .inr (h4 e q)⟩
  exact Run.diff h2 h.run h.stop
/-- the end is told -/
theorem Inv.ends {F : Nat → Nat} {N T d n k wh : Nat} {E bad : Bool} (h : Inv F N T E d n k wh bad) : Inv F N T true d n k wh bad :=
  ⟨h.at', h.run, h.run0, h.stop, h.plain, h.wrong, fun e => by cases e⟩
/-- what was taken is given up -/
theorem Inv.drop {F : Nat → Nat} {N T d n k wh : Nat} {E bad : Bool} (h : Inv F N T E d n k wh bad) : Inv F N T E (d + k) (n - k) 0 (wh - k) bad := by
  have hl := h.le
  have e : d + k + (wh - k) = d + wh := by omega
  refine ⟨h.at', by rw [e]; exact h.run, h.run0, by rw [e]; exact h.stop, fun hb => ?_, fun hb => ?_, h.cr⟩
  · rw [e]; have := h.plain hb; exact ⟨by omega, this.2⟩
  · rw [e]; have := h.wrong hb; exact ⟨this.1, this.2.1, by omega⟩
/-- more bytes came, and the characters were counted up to q -/
theorem Inv.more {F G : Nat → Nat} {N N' T d n k wh q : Nat} (h : Inv F N T false d n k wh false) (hF : ∀ j, j < N → F j = G j) (hN : N ≤ N') (hr : Run G N' (d + wh) (d + q)) (hs : whole (off G (d + q)) (N' - (d + q)) = false) {n' : Nat} {bad : Bool}
    (hp : bad = false → d + n' = N' ∧ (d + q = N' ∨ waits (off G (d + q)) (N' - (d + q)) = true))
    (hw : bad = true → d + q < N' ∧ waits (off G (d + q)) (N' - (d + q)) = false ∧ n' = q + fk (off G (d + q)) (N' - (d + q)) + 1) : Inv G N' T false d n' k q bad := by
  have hl := h.le
  refine ⟨h.at', ((h.run.congr hF).up hN).trans hr, (h.run0.congr hF).up hN, hs, hp, hw, fun _ e => ?_⟩
  obtain rfl : N = N' := by omega
  rcases h.cr rfl e with a | a
  · exact .inl a
  · by_cases hT : T = 0
    · exact .inl hT
    · right; rw [← hF _ (by omega)]; exact a
theorem Inv.new (F : Nat → Nat) : Inv F 0 0 false 0 0 0 0 false :=
  ⟨rfl, .refl _, .refl _, by simp [whole, fs], fun _ => ⟨rfl, .inl rfl⟩, fun h => (by cases h), fun _ _ => .inl rfl⟩
/-- a character that is there stays when more bytes come, and so does a wrong byte -/
theorem pk_stays {F : Nat → Nat} {N N' T : Nat} {r a w x : Nat} (h : pk F N T false = (r, a, w, x)) (hx : x ≠ 1) (hN : N ≤ N') (E : Bool) : pk F N' T E = (r, a, w, x) := by
  unfold pk at h
  split at h
  · next hw =>
    obtain ⟨hu, he⟩ := whole_up (n := N' - T) hw (by omega)
    have hl := whole_lt hw
    unfold pk
    rw [hu, he]
    simp only [if_true]
    split at h
    · next h13 =>
      rw [if_pos h13]
      split at h
      · rw [if_pos (show T + 1 < N' by omega)]
        exact h
      · simp at h; omega
    · next h13 =>
      rw [if_neg h13]
      exact h
  · next hw =>
    have hw' : whole (off F T) (N - T) = false := by simpa using hw
    split at h
    · simp at h; omega
    · next hle =>
      split at h
      · simp at h; omega
      · next hwt =>
        have hwt' : waits (off F T) (N - T) = false := by simpa using hwt
        have hf := fk_lt (show 0 < N - T by omega) hw' hwt'
        have e0 : fs (off F T) (N - T) = size (off F T 0) := by unfold fs; rw [if_neg (by omega)]
        have e1 : fs (off F T) (N' - T) = size (off F T 0) := by unfold fs; rw [if_neg (by omega)]
        have hk : fk (off F T) (N' - T) = fk (off F T) (N - T) := by
          by_cases hs : size (off F T 0) = 0
          · rw [fk_zero _ _ hs, fk_zero _ _ hs]
          · have := fk_min (off F T) (m := N - T) (n := N' - T) (by omega) (by omega)
            omega
        have g1 : whole (off F T) (N' - T) = false := by
          have := hw'
          unfold whole at this ⊢
          rw [e0] at this
          rw [e1, hk]
          exact this
        have g2 : waits (off F T) (N' - T) = false := by
          simp only [waits, decide_eq_false_iff_not]
          omega
        unfold pk
        rw [g1, g2, hk, if_neg (show ¬ N' ≤ T by omega)]
        simpa using h
theorem pk_congr {F G : Nat → Nat} {N T : Nat} {E : Bool} (h : ∀ j, j < N → F j = G j) : pk F N T E = pk G N T E := by
  have e : ∀ j, j < N - T → off F T j = off G T j := fun j hj => h _ (by omega)
  unfold pk
  rw [whole_congr e, waits_congr e, fs_congr e, fk_congr e]
  by_cases hw : whole (off G T) (N - T) = true
  · have hw2 : whole (off F T) (N - T) = true := by rw [whole_congr e]; exact hw
    rw [fv_congr hw2 e]
    by_cases hl : T + 1 < N
    · rw [h (T + 1) hl]
    · simp only [if_neg hl]
  · rw [if_neg hw, if_neg hw]
/-- where the rest begins -/
def rst (g : Nat → Nat) (n wh : Nat) : Nat := if wh = n ∧ 0 < wh ∧ g (wh - 1) = 13 then wh - 1 else wh
/-- where Peek waits, the rest is all that lies there -/
theorem Inv.rest {F : Nat → Nat} {N T d n k wh : Nat} {bad : Bool} (h : Inv F N T false d n k wh bad) (hp : Fd.pk F N T false = (0, 0, 0, 1)) : bad = false ∧ d + rst (off F d) n wh = T ∧ d + n = N := by
  have hl := h.le
  cases hb : bad
  · refine ⟨rfl, ?_, (h.plain hb).1⟩
    obtain ⟨hn, hor⟩ := h.plain hb
    have ha := h.at'
    unfold Fd.pk at hp
    split at hp
    · next hw =>
      have hwl := whole_lt hw
      split at hp
      · next h13 =>
        split at hp
        · split at hp <;> simp at hp
        · next hlt =>
          obtain ⟨c1, c2⟩ := (whole_cr hw).1 h13
          have ht := (h.run.tail hw h.stop).le
          unfold rst
          rw [if_pos ⟨by omega, by omega, by
            show F (d + (wh - 1)) = 13
            rw [show d + (wh - 1) = T + 0 by omega]
            exact c2⟩]
          omega
      · simp at hp
    · next hw =>
      have hw' : whole (off F T) (N - T) = false := by simpa using hw
      have hT := h.run.head hw'
      have e1 : rst (off F d) n wh = wh := by
        unfold rst
        apply if_neg
        rintro ⟨c1, c2, c3⟩
        rcases h.cr rfl (by omega) with e | e
        · omega
        · apply e
          have : F (d + (wh - 1)) = 13 := c3
          rw [show T - 1 = d + (wh - 1) by omega]
          exact this
      omega
  · exfalso
    obtain ⟨a, b, c⟩ := h.wrong hb
    have hf := fk_lt (show 0 < N - (d + wh) by omega) h.stop b
    unfold Fd.pk at hp
    split at hp
    · next hw =>
      have ht := (h.run.tail hw h.stop).le
      have hwl := whole_lt hw
      split at hp
      · split at hp
        · split at hp <;> simp at hp
        · omega
      · simp at hp
    · next hw =>
      have hw' : whole (off F T) (N - T) = false := by simpa using hw
      have hT := h.run.head hw'
      rw [hT] at hp
      rw [if_neg (by omega), b] at hp
      simp at hp
end Fd
end Go.Proofs.YtoccedbnnafjcaaDoor
