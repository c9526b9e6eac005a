/-
  Plain mathematics: the longest beginning of a word that a text ends with, one character more at a time (borders).
-/
import Derived.Lib.DecodeN
namespace Go.Proofs.YtcmjipgigkalcaaDoor.Wd

/-- do the first k of p stand at the end of the first tl of t? -/
def Suf (p t : Nat → Nat) (tl k : Nat) : Prop := k ≤ tl ∧ ∀ j, j < k → p j = t (tl - k + j)
/-- the greatest such number, at most m -/
def Lps (p : Nat → Nat) (m : Nat) (t : Nat → Nat) (tl k : Nat) : Prop := k ≤ m ∧ Suf p t tl k ∧ ∀ q, q ≤ m → Suf p t tl q → q ≤ k
/-- the border number i -/
def Bd (p : Nat → Nat) (b i : Nat) : Prop := Lps p i (fun j => p (j + 1)) i b

theorem Lps.uniq {p t : Nat → Nat} {m tl a b : Nat} (ha : Lps p m t tl a) (hb : Lps p m t tl b) : a = b :=
  Nat.le_antisymm (hb.2.2 a ha.1 ha.2.1) (ha.2.2 b hb.1 hb.2.1)
theorem lps_zero (p t : Nat → Nat) (m : Nat) : Lps p m t 0 0 := ⟨Nat.zero_le _, ⟨Nat.le_refl _, fun _ hj => absurd hj (Nat.not_lt_zero _)⟩, fun _ _ h => h.1⟩
theorem suf_zero (p t : Nat → Nat) (tl : Nat) : Suf p t tl 0 := ⟨Nat.zero_le _, fun _ hj => absurd hj (Nat.not_lt_zero _)⟩

/-- between two steps back -/
structure Ext (p : Nat → Nat) (m : Nat) (t : Nat → Nat) (tl r q : Nat) : Prop where
  suf : Suf p t tl q
  top : ∀ k, k < m → Suf p t tl k → p k = r → k ≤ q
  lt : q < m
theorem Ext.of {p t : Nat → Nat} {m tl r q : Nat} (h : Lps p m t tl q) (hq : q < m) : Ext p m t tl r q :=
  ⟨h.2.1, fun k hk hs _ => h.2.2 k (Nat.le_of_lt hk) hs, hq⟩
theorem Ext.back {p t : Nat → Nat} {m tl r q b : Nat} (h : Ext p m t tl r q) (hq : 0 < q) (hr : p q ≠ r) (hb : Bd p b (q - 1)) : Ext p m t tl r b ∧ b < q := by
  obtain ⟨⟨s1, s2⟩, top, lt⟩ := h
  obtain ⟨b1, ⟨_, b3⟩, b4⟩ := hb
  refine ⟨⟨⟨by omega, fun j hj => ?_⟩, fun k hk hs he => ?_, by omega⟩, by omega⟩
  · rw [b3 j hj]
    have := s2 (q - 1 - b + j + 1) (by omega)
    simp only at this ⊢
    rw [this]
    congr 1
    omega
  · have k1 := top k hk hs he
    have k2 : k ≠ q := by
      intro e
      subst e
      exact hr he
    refine b4 k (by omega) ⟨by omega, fun j hj => ?_⟩
    rw [hs.2 j hj]
    have := s2 (q - 1 - k + j + 1) (by omega)
    simp only at this ⊢
    rw [this]
    congr 1
    omega
theorem Ext.hit {p t : Nat → Nat} {m tl r q : Nat} (h : Ext p m t tl r q) (hr : p q = r) (ht : t tl = r) : Lps p m t (tl + 1) (q + 1) := by
  obtain ⟨⟨s1, s2⟩, top, lt⟩ := h
  refine ⟨by omega, ⟨by omega, fun j hj => ?_⟩, fun k hk hs => ?_⟩
  · by_cases e : j = q
    · subst e
      rw [hr, ← ht]
      congr 1
      omega
    · rw [s2 j (by omega)]
      congr 1
      omega
  · by_cases e : k = 0
    · omega
    · have : k - 1 ≤ q := by
        refine top (k - 1) (by omega) ⟨by have := hs.1; omega, fun j hj => ?_⟩ ?_
        · rw [hs.2 j (by omega)]
          congr 1
          have := hs.1
          omega
        · rw [hs.2 (k - 1) (by omega), ← ht]
          congr 1
          have := hs.1
          omega
      omega
theorem Ext.miss {p t : Nat → Nat} {m tl r : Nat} (h : Ext p m t tl r 0) (hr : p 0 ≠ r) (ht : t tl = r) : Lps p m t (tl + 1) 0 := by
  obtain ⟨_, top, lt⟩ := h
  refine ⟨by omega, suf_zero _ _ _, fun k hk hs => ?_⟩
  by_cases e : k = 0
  · omega
  · have k1 : p (k - 1) = r := by
      rw [hs.2 (k - 1) (by omega), ← ht]
      congr 1
      have := hs.1
      omega
    have : k - 1 ≤ 0 := by
      refine top (k - 1) (by omega) ⟨by have := hs.1; omega, fun j hj => ?_⟩ k1
      rw [hs.2 j (by omega)]
      congr 1
      have := hs.1
      omega
    have e1 : k - 1 = 0 := by omega
    rw [e1] at k1
    exact absurd k1 hr

/-- does p, m long, stand in l from n on? -/
def St (l p : Nat → Nat) (m n : Nat) : Prop := ∀ i, i < m → l (n + i) = p i
theorem suf_st {l p : Nat → Nat} {m tl : Nat} (h : m ≤ tl) : Suf p l tl m ↔ St l p m (tl - m) :=
  ⟨fun s i hi => (s.2 i hi).symm, fun s => ⟨h, fun j hj => (s j hj).symm⟩⟩
/-- the least place from which on p stands in l, or -1 -/
def FIs (l : Nat → Nat) (ll : Nat) (p : Nat → Nat) (m : Nat) (z : Int) : Prop :=
  (z = -1 ∧ ∀ n, n + m ≤ ll → ¬ St l p m n) ∨ (∃ n : Nat, z = n ∧ n + m ≤ ll ∧ St l p m n ∧ ∀ k, k < n → ¬ St l p m k)
theorem FIs.uniq {l p : Nat → Nat} {ll m : Nat} {a b : Int} (ha : FIs l ll p m a) (hb : FIs l ll p m b) : a = b := by
  rcases ha with ⟨rfl, ha⟩ | ⟨n, rfl, h1, h2, h3⟩ <;> rcases hb with ⟨rfl, hb⟩ | ⟨k, rfl, k1, k2, k3⟩
  · rfl
  · exact absurd k2 (ha k k1)
  · exact absurd h2 (hb n h1)
  · rcases Nat.lt_trichotomy n k with h | h | h
    · exact absurd h2 (k3 n h)
    · rw [h]
    · exact absurd k2 (h3 k h)
/-- the border, by its definition -/
theorem bd_iff {p : Nat → Nat} {b i : Nat} : Bd p b i ↔ b ≤ i ∧ St p p b (i + 1 - b) ∧ ∀ q, b < q → q ≤ i → ¬ St p p q (i + 1 - q) := by
  constructor
  · rintro ⟨h1, ⟨_, h2⟩, h3⟩
    refine ⟨h1, fun j hj => ?_, fun q hq hi hs => ?_⟩
    · have := h2 j hj
      simp only at this
      rw [this]
      congr 1
      omega
    · have := h3 q hi ⟨hi, fun j hj => ?_⟩
      · omega
      · have := hs j hj
        simp only
        rw [← this]
        congr 1
        omega
  · rintro ⟨h1, h2, h3⟩
    refine ⟨h1, ⟨h1, fun j hj => ?_⟩, fun q hq hs => ?_⟩
    · have := h2 j hj
      simp only
      rw [← this]
      congr 1
      omega
    · rcases Nat.lt_or_ge b q with h | h
      · refine absurd ?_ (h3 q h hq)
        intro j hj
        have := hs.2 j hj
        simp only at this
        rw [this]
        congr 1
        omega
      · exact h
theorem Bd.uniq {p : Nat → Nat} {a b i : Nat} (ha : Bd p a i) (hb : Bd p b i) : a = b := Lps.uniq ha hb
theorem bd_zero (p : Nat → Nat) : Bd p 0 0 := lps_zero _ _ _
/-- a border grows by one character at a time -/
theorem Lps.bd {p : Nat → Nat} {m i b : Nat} (h : Lps p m (fun j => p (j + 1)) i b) (hi : i < m) : Bd p b i := by
  obtain ⟨_, h2, h3⟩ := h
  exact ⟨h2.1, h2, fun q hq hs => h3 q (by omega) hs⟩
end Go.Proofs.YtcmjipgigkalcaaDoor.Wd
