/-
  THE MATHEMATICS of a comparison of a text that comes in pieces.
-/
import Derived.Test.YtgbldbohadacmaaWdKmp
namespace Go.Proofs.Ytgbldbohadacmaa
namespace Ht
open Wd
/-- a list's numbers, by their place -/
def lg (L : List Nat) : Nat → Nat := fun j => L[j]?.getD 0
/-- what is known while it comes: 0 False, 1 Unknown, 2 True -/
def opn (c : Int) (T : List Nat) (N : Int) (L : List Nat) : Int :=
  if c = 0 then 2 else if c = 1 then (if L <+: T then 1 else 0) else if c = 3 then (if T <+: L then 2 else if L <+: T then 1 else 0)
  else if c = 5 then (if T <:+: L then 2 else 1) else if c = 6 then (if N < L.length then 0 else 1) else if c = 7 then (if N < L.length then 2 else 1) else 1
/-- of the whole text -/
def fin (c : Int) (T : List Nat) (N : Int) (L : List Nat) : Int :=
  if c = 0 then 2 else if c = 1 then (if L = T then 2 else 0) else if c = 3 then (if T <+: L then 2 else 0) else if c = 4 then (if T <:+ L then 2 else 0)
  else if c = 5 then (if T <:+: L then 2 else 0) else if c = 6 then (if (L.length : Int) = N then 2 else 0) else if N < L.length then 2 else 0
/-- coming's answer, and ended's -/
def cmg (c N : Int) (m q : Nat) : Int := if c = 0 then 2 else if c = 3 ∨ c = 5 then (if q = m then 2 else 1) else if c = 6 then (if N < q then 0 else 1) else if c = 7 then (if N < q then 2 else 1) else 1
def en (c N : Int) (m q : Nat) : Int := if c = 3 ∨ c = 5 ∨ c = 7 then 0 else if (q : Int) = (if c = 6 then N else m) then 2 else 0
/-- what the number that is kept says -/
def qat (c : Int) (T L : List Nat) (q : Nat) : Prop := if c = 4 ∨ c = 5 then Lps (lg T) T.length (lg L) L.length q else q = L.length
/-- a comparison that is kept -/
def cok (c : Int) : Prop := c = 0 ∨ c = 1 ∨ c = 3 ∨ c = 4 ∨ c = 5 ∨ c = 6 ∨ c = 7
theorem opn_fin {c : Int} (hc : cok c) {T L : List Nat} {N : Int} (h : opn c T N L ≠ 1) : fin c T N L = opn c T N L := by
  rcases hc with rfl | rfl | rfl | rfl | rfl | rfl | rfl
  · simp [fin, opn]
  · simp only [fin, opn] at h ⊢
    by_cases e : L <+: T
    · simp [e] at h
    · have : L ≠ T := fun k => e (k ▸ List.prefix_refl _)
      simp [e, this]
  · simp only [fin, opn] at h ⊢
    by_cases e : T <+: L
    · simp [e]
    · by_cases k : L <+: T <;> simp [e, k] at h ⊢
  · simp [opn] at h
  · simp only [fin, opn] at h ⊢
    by_cases e : T <:+: L <;> simp [e] at h ⊢
  · simp only [fin, opn] at h ⊢
    by_cases e : N < L.length
    · have : ¬ (L.length : Int) = N := by omega
      simp [e, this]
    · simp [e] at h
  · simp only [fin, opn] at h ⊢
    by_cases e : N < L.length <;> simp [e] at h ⊢
theorem opn_stay {c : Int} {T L : List Nat} {N : Int} (h : opn c T N L ≠ 1) (M : List Nat) : opn c T N (L ++ M) = opn c T N L := by
  unfold opn at h ⊢
  by_cases c0 : c = 0
  · simp [c0]
  rw [if_neg c0] at h ⊢
  rw [if_neg c0]
  by_cases c1 : c = 1
  · rw [if_pos c1] at h ⊢
    rw [if_pos c1]
    by_cases e : L <+: T
    · simp [e] at h
    · have : ¬ L ++ M <+: T := fun k => e ((List.prefix_append L M).trans k)
      rw [if_neg e, if_neg this]
  rw [if_neg c1] at h ⊢
  rw [if_neg c1]
  by_cases c3 : c = 3
  · rw [if_pos c3] at h ⊢
    rw [if_pos c3]
    by_cases e : T <+: L
    · rw [if_pos e, if_pos (e.trans (List.prefix_append L M))]
    · by_cases k : L <+: T
      · simp [e, k] at h
      · have n1 : ¬ T <+: L ++ M := fun x => by
          rcases Nat.le_total T.length L.length with l | l
          · exact e (List.prefix_of_prefix_length_le x (List.prefix_append L M) l)
          · exact k (List.prefix_of_prefix_length_le (List.prefix_append L M) x l)
        have n2 : ¬ L ++ M <+: T := fun x => k ((List.prefix_append L M).trans x)
        rw [if_neg e, if_neg k, if_neg n1, if_neg n2]
  rw [if_neg c3] at h ⊢
  rw [if_neg c3]
  by_cases c5 : c = 5
  · rw [if_pos c5] at h ⊢
    rw [if_pos c5]
    by_cases e : T <:+: L
    · rw [if_pos e, if_pos (e.trans (List.prefix_append L M).isInfix)]
    · simp [e] at h
  rw [if_neg c5] at h ⊢
  rw [if_neg c5]
  have hl : (L ++ M).length = L.length + M.length := List.length_append
  by_cases c6 : c = 6
  · rw [if_pos c6] at h ⊢
    rw [if_pos c6]
    by_cases e : N < L.length
    · rw [if_pos e, if_pos (by omega)]
    · simp [e] at h
  rw [if_neg c6] at h ⊢
  rw [if_neg c6]
  by_cases c7 : c = 7
  · rw [if_pos c7] at h ⊢
    rw [if_pos c7]
    by_cases e : N < L.length
    · rw [if_pos e, if_pos (by omega)]
    · simp [e] at h
  · rw [if_neg c7] at h
    exact absurd rfl h
theorem opn_start {c : Int} (hc : cok c) (T : List Nat) (N : Int) : opn c T N [] = cmg c N T.length 0 := by
  have ht : (0 = T.length) ↔ T = [] := by rw [eq_comm, List.length_eq_zero_iff]
  rcases hc with rfl | rfl | rfl | rfl | rfl | rfl | rfl <;> simp [opn, cmg, ht]
theorem cmg_rng (c N : Int) (m q : Nat) : cmg c N m q = 0 ∨ cmg c N m q = 1 ∨ cmg c N m q = 2 := by
  unfold cmg
  repeat' split
  all_goals simp
theorem opn_rng (c : Int) (T : List Nat) (N : Int) (L : List Nat) : opn c T N L = 0 ∨ opn c T N L = 1 ∨ opn c T N L = 2 := by
  unfold opn
  repeat' split
  all_goals simp
theorem fin_rng (c : Int) (T : List Nat) (N : Int) (L : List Nat) : fin c T N L = 0 ∨ fin c T N L = 2 := by
  unfold fin
  repeat' split
  all_goals simp
theorem lg_some {L : List Nat} {j : Nat} (h : j < L.length) : L[j]? = some (lg L j) := by simp [lg, h]
theorem lg_left {L M : List Nat} {j : Nat} (h : j < L.length) : lg (L ++ M) j = lg L j := by unfold lg; rw [List.getElem?_append_left h]
theorem lg_end (L : List Nat) (r : Nat) : lg (L ++ [r]) L.length = r := by simp [lg]
/-- one character more that is the next one of T -/
theorem pre_hit {T L : List Nat} {r : Nat} (h : L <+: T) (hl : L.length < T.length) (hr : lg T L.length = r) : L ++ [r] <+: T := by
  rw [List.prefix_iff_getElem?] at h ⊢
  intro i hi
  rw [List.length_append, List.length_singleton] at hi
  by_cases e : i < L.length
  · rw [h i e, List.getElem_append_left e]
  · have e' : i = L.length := by omega
    subst e'
    rw [lg_some hl, hr]
    simp
theorem pre_miss {T L : List Nat} {r : Nat} (hr : L.length = T.length ∨ lg T L.length ≠ r) : ¬ L ++ [r] <+: T := fun h => by
  have hl := h.length_le
  rw [List.length_append, List.length_singleton] at hl
  have h2 := (List.prefix_iff_getElem?.1 h) L.length (by simp)
  rcases hr with e | e
  · omega
  · apply e
    unfold lg
    rw [h2]
    simp
theorem step_miss {c : Int} (hc : c = 1 ∨ c = 3) {T L : List Nat} {N : Int} {r : Nat} (h : opn c T N L = 1) (hr : L.length = T.length ∨ lg T L.length ≠ r) : opn c T N (L ++ [r]) = 0 := by
  have hm := pre_miss hr
  rcases hc with rfl | rfl
  · simp [opn, hm]
  · simp only [opn] at h ⊢
    by_cases e : T <+: L
    · simp [e] at h
    · have n1 : ¬ T <+: L ++ [r] := fun x => by
        rcases List.prefix_concat_iff.1 x with k | k
        · exact hm (k ▸ List.prefix_refl _)
        · exact e k
      simp [n1, hm]
theorem step_hit {c : Int} (hc : c = 1 ∨ c = 3) {T L : List Nat} {N : Int} {r : Nat} (h : opn c T N L = 1) (hl : L.length < T.length) (hr : lg T L.length = r) : opn c T N (L ++ [r]) = cmg c N T.length (L.length + 1) := by
  rcases hc with rfl | rfl
  · simp only [opn] at h
    by_cases e : L <+: T
    · simp [opn, cmg, pre_hit e hl hr]
    · simp [e] at h
  · simp only [opn] at h
    by_cases e : T <+: L
    · simp [e] at h
    · by_cases k : L <+: T
      · have h1 := pre_hit k hl hr
        by_cases el : L.length + 1 = T.length
        · have : L ++ [r] = T := h1.eq_of_length (by simpa using el)
          simp [opn, cmg, el, this]
        · have n1 : ¬ T <+: L ++ [r] := fun x => by have := x.length_le; simp at this; omega
          simp [opn, cmg, el, h1, n1]
      · simp [e, k] at h
theorem step_len {c : Int} (hc : c = 6 ∨ c = 7) {T L : List Nat} {N : Int} {r : Nat} : opn c T N (L ++ [r]) = cmg c N T.length (L.length + 1) := by
  rcases hc with rfl | rfl <;> simp [opn, cmg]
/-- the front of the document's search -/
theorem suf_iff {T L : List Nat} : Suf (lg T) (lg L) L.length T.length ↔ T <:+ L := by
  rw [List.suffix_iff_eq_drop]
  constructor
  · rintro ⟨h1, h2⟩
    refine List.ext_getElem? fun i => ?_
    rw [List.getElem?_drop]
    by_cases hi : i < T.length
    · have := h2 i hi
      rw [lg_some hi, this, ← lg_some (by omega)]
    · rw [List.getElem?_eq_none (by omega), List.getElem?_eq_none (by omega)]
  · intro h
    have hl : T.length ≤ L.length := by have := congrArg List.length h; rw [List.length_drop] at this; omega
    refine ⟨hl, fun j hj => ?_⟩
    have := congrArg (fun l => l[j]?) h
    simp only [List.getElem?_drop] at this
    simp only [lg, this]
theorem lps_all {T L : List Nat} {q : Nat} (h : Lps (lg T) T.length (lg L) L.length q) : q = T.length ↔ T <:+ L := by
  rw [← suf_iff]
  constructor
  · rintro rfl
    exact h.2.1
  · intro s
    have := h.2.2 _ (Nat.le_refl _) s
    have := h.1
    omega
theorem step_find {T L : List Nat} {N : Int} {r q : Nat} (h : opn 5 T N L = 1) (hq : Lps (lg T) T.length (lg (L ++ [r])) (L ++ [r]).length q) : opn 5 T N (L ++ [r]) = cmg 5 N T.length q := by
  have hs := lps_all hq
  simp only [opn] at h ⊢
  have hn : ¬ T <:+: L := fun e => by simp [e] at h
  have : T <:+: L ++ [r] ↔ q = T.length := by rw [hs, List.infix_concat_iff]; exact ⟨fun x => x.resolve_right hn, .inl⟩
  simp [cmg, this]
theorem fin_en {c : Int} (hc : cok c) {T L : List Nat} {N : Int} {q : Nat} (h : opn c T N L = 1) (hq : qat c T L q) : fin c T N L = en c N T.length q := by
  rcases hc with rfl | rfl | rfl | rfl | rfl | rfl | rfl
  · simp [opn] at h
  · simp only [opn] at h
    simp [qat] at hq
    subst hq
    by_cases e : L <+: T
    · have : L = T ↔ L.length = T.length := ⟨fun k => k ▸ rfl, e.eq_of_length⟩
      simp [fin, en, this]
      congr 1
      rw [eq_iff_iff]
      omega
    · simp [e] at h
  · simp only [opn] at h
    by_cases e : T <+: L
    · simp [e] at h
    · simp [fin, en, e]
  · simp [qat] at hq
    have := lps_all hq
    simp [fin, en, ← this]
    congr 1
    rw [eq_iff_iff]
    omega
  · simp only [opn] at h
    by_cases e : T <:+: L
    · simp [e] at h
    · simp [fin, en, e]
  · simp [qat] at hq
    subst hq
    simp [fin, en]
  · simp only [opn] at h
    by_cases e : N < L.length
    · simp [e] at h
    · simp [fin, en, e]
/-- between two steps back -/
structure Ex (p : Nat → Nat) (m : Nat) (t : Nat → Nat) (tl r q : Nat) : Prop where
  suf : Suf p t tl q
  top : ∀ k, k < m → Suf p t tl k → p k = r → k ≤ q
  le : q ≤ m
theorem Ex.of {p t : Nat → Nat} {m tl r q : Nat} (h : Lps p m t tl q) : Ex p m t tl r q := ⟨h.2.1, fun k hk hs _ => h.2.2 k (Nat.le_of_lt hk) hs, h.1⟩
theorem Ex.back {p t : Nat → Nat} {m tl r q b : Nat} (h : Ex p m t tl r q) (hq : 0 < q) (hr : q = m ∨ p q ≠ r) (hb : Bd p b (q - 1)) : Ex p m t tl r b ∧ b < q := by
  obtain ⟨⟨s1, s2⟩, top, le⟩ := h
  obtain ⟨b1, ⟨_, b3⟩, b4⟩ := hb
  refine ⟨⟨⟨by omega, fun j hj => ?_⟩, fun k hk hs he => ?_, by omega⟩, by omega⟩
  · rw [b3 j hj]
    have := s2 (q - 1 - b + j + 1) (by omega)
    simp only at this ⊢
    rw [this]
    congr 1
    omega
  · have k1 := top k hk hs he
    have k2 : k ≠ q := by
      rintro rfl
      rcases hr with e | e
      · omega
      · exact e he
    refine b4 k (by omega) ⟨by omega, fun j hj => ?_⟩
    rw [hs.2 j hj]
    have := s2 (q - 1 - k + j + 1) (by omega)
    simp only at this ⊢
    rw [this]
    congr 1
    omega
theorem Ex.hit {p t : Nat → Nat} {m tl r q : Nat} (h : Ex p m t tl r q) (hq : q < m) (hr : p q = r) (ht : t tl = r) : Lps p m t (tl + 1) (q + 1) := Ext.hit ⟨h.suf, h.top, hq⟩ hr ht
theorem Ex.miss {p t : Nat → Nat} {m tl r : Nat} (h : Ex p m t tl r 0) (hr : 0 = m ∨ p 0 ≠ r) (ht : t tl = r) : Lps p m t (tl + 1) 0 := by
  by_cases e : 0 = m
  · exact ⟨by omega, suf_zero _ _ _, fun k hk _ => by omega⟩
  · exact Ext.miss ⟨h.suf, h.top, by omega⟩ (hr.resolve_left e) ht
theorem suf_congr {p t t' : Nat → Nat} {tl k : Nat} (h : ∀ j, j < tl → t j = t' j) (s : Suf p t tl k) : Suf p t' tl k := ⟨s.1, fun j hj => by rw [s.2 j hj]; exact h _ (by have := s.1; omega)⟩
theorem lps_congr {p t t' : Nat → Nat} {m tl q : Nat} (h : ∀ j, j < tl → t j = t' j) (s : Lps p m t tl q) : Lps p m t' tl q :=
  ⟨s.1, suf_congr h s.2.1, fun k hk hs => s.2.2 k hk (suf_congr (fun j hj => (h j hj).symm) hs)⟩
theorem lps_more {T L : List Nat} {r q : Nat} (h : Lps (lg T) T.length (lg L) L.length q) : Lps (lg T) T.length (lg (L ++ [r])) L.length q := lps_congr (fun _ hj => (lg_left hj).symm) h
theorem lps_nil (T : List Nat) : Lps (lg T) T.length (lg []) 0 0 := lps_zero _ _ _
end Ht
end Go.Proofs.Ytgbldbohadacmaa
