/-
  THE VARIABLES of a formula: sorted and compacted they are those that the document counts up.
-/
import Derived.Test.YtmpmlccomgepjaaKlIs
import Derived.Test.YtmpmlccomgepjaaKlHol
import Derived.Lib.SlicesCompact
namespace Go.Proofs.Ytmpmlccomgepjaa
open Go.RowKit Go.Lib Go.Sort
namespace Kl
mutual
/-- its variables, as often as they stand there -/
def gat : Fm → List Int
  | .mk o _ n l => if o = 1 then [n] else gats l
def gats : List Fm → List Int
  | [] => []
  | a :: l => gat a ++ gats l
end
mutual
theorem gat_len : ∀ f : Fm, (gat f).length ≤ sz f
  | .mk o v n l => by
    rw [gat, sz]
    have := gats_len l
    split
    · simp
    · omega
theorem gats_len : ∀ l : List Fm, (gats l).length ≤ szs l
  | [] => by simp [gats, szs]
  | a :: l => by
    rw [gats, szs, List.length_append]
    have := gat_len a
    have := gats_len l
    omega
end
theorem isG_parts {o v n : Int} {l : List Fm} (h : isG (.mk o v n l) = true) : (o = 1 → l = [] ∧ 0 ≤ n ∧ n < 65536) ∧ areG l = true := by
  rw [isG] at h
  by_cases e0 : o = 0
  · subst e0
    simp at h
    have : l = [] := h.2
    subst this
    exact ⟨fun e => by omega, by rw [areG]⟩
  · rw [if_neg e0] at h
    by_cases e1 : o = 1
    · rw [if_pos e1] at h
      simp at h
      have : l = [] := h.2
      subst this
      exact ⟨fun _ => ⟨rfl, h.1.1.2, h.1.2⟩, by rw [areG]⟩
    · rw [if_neg e1] at h
      by_cases e2 : o = 2 ∨ o = 3
      · rw [if_pos e2] at h
        simp at h
        exact ⟨fun e => absurd e e1, h.2⟩
      · rw [if_neg e2] at h
        by_cases e4 : o = 4
        · rw [if_pos e4] at h
          simp at h
          exact ⟨fun e => absurd e e1, h.2⟩
        · rw [if_neg e4] at h
          cases h
theorem areG_parts {a : Fm} {l : List Fm} (h : areG (a :: l) = true) : isG a = true ∧ areG l = true := by
  rw [areG] at h
  simpa using h
mutual
theorem hol_gat (q : Int) : ∀ f : Fm, isG f = true → (hol q f = true ↔ q ∈ gat f)
  | .mk o v n l, h => by
    obtain ⟨h1, h2⟩ := isG_parts h
    have ih := hols_gats q l h2
    rw [hol, gat]
    by_cases e : o = 1
    · obtain ⟨rfl, _⟩ := h1 e
      simp only [e, if_true, List.mem_singleton, hols]
      simp
      omega
    · rw [if_neg e, ← ih]
      simp [e]
theorem hols_gats (q : Int) : ∀ l : List Fm, areG l = true → (hols q l = true ↔ q ∈ gats l)
  | [], _ => by simp [hols, gats]
  | a :: l, h => by
    obtain ⟨h1, h2⟩ := areG_parts h
    rw [hols, gats, List.mem_append, ← hol_gat q a h1, ← hols_gats q l h2]
    simp
end
mutual
theorem gat_rng : ∀ f : Fm, isG f = true → ∀ n ∈ gat f, 0 ≤ n ∧ n < 65536
  | .mk o v n l, h, q, hq => by
    obtain ⟨h1, h2⟩ := isG_parts h
    rw [gat] at hq
    by_cases e : o = 1
    · rw [if_pos e] at hq
      simp at hq
      subst hq
      exact (h1 e).2
    · rw [if_neg e] at hq
      exact gats_rng l h2 q hq
theorem gats_rng : ∀ l : List Fm, areG l = true → ∀ n ∈ gats l, 0 ≤ n ∧ n < 65536
  | [], _, q, hq => by simp [gats] at hq
  | a :: l, h, q, hq => by
    obtain ⟨h1, h2⟩ := areG_parts h
    rw [gats, List.mem_append] at hq
    rcases hq with hq | hq
    · exact gat_rng a h1 q hq
    · exact gats_rng l h2 q hq
end
mutual
theorem gre_hol (q : Int) : ∀ f : Fm, hol q f = true → q ≤ gre f
  | .mk o v n l, h => by
    rw [hol] at h
    rw [gre]
    have ih := gres_hol q l (if o = 1 then n else -1)
    simp only [Bool.or_eq_true, Bool.and_eq_true, beq_iff_eq] at h
    rcases h with ⟨rfl, rfl⟩ | h
    · have := ih.1
      simpa using this
    · exact ih.2 h
theorem gres_hol (q : Int) : ∀ (l : List Fm) (m : Int), m ≤ gres m l ∧ (hols q l = true → q ≤ gres m l)
  | [], m => by simp [gres, hols]
  | a :: l, m => by
    rw [gres, hols]
    have ih := gres_hol q l (max m (gre a))
    have ha := gre_hol q a
    refine ⟨by omega, fun h => ?_⟩
    simp only [Bool.or_eq_true] at h
    rcases h with h | h
    · have := ha h; omega
    · exact ih.2 h
end
mutual
theorem gre_rng : ∀ f : Fm, isG f = true → -1 ≤ gre f ∧ gre f < 65536
  | .mk o v n l, h => by
    obtain ⟨h1, h2⟩ := isG_parts h
    rw [gre]
    refine gres_rng l h2 _ ?_ ?_
    · split
      · rename_i e; have := (h1 e).2; omega
      · omega
    · split
      · rename_i e; have := (h1 e).2; omega
      · omega
theorem gres_rng : ∀ l : List Fm, areG l = true → ∀ m : Int, -1 ≤ m → m < 65536 → -1 ≤ gres m l ∧ gres m l < 65536
  | [], _, m, h1, h2 => by rw [gres]; exact ⟨h1, h2⟩
  | a :: l, h, m, h1, h2 => by
    obtain ⟨g1, g2⟩ := areG_parts h
    rw [gres]
    have := gre_rng a g1
    exact gres_rng l g2 _ (by omega) (by omega)
end
/-- those below v that are in it -/
def vr (f : Fm) (v : Nat) : List Int := ((List.range v).map fun k : Nat => (k : Int)).filter fun q => hol q f
theorem vr_succ (f : Fm) (v : Nat) : vr f (v + 1) = vr f v ++ if hol v f then [(v : Int)] else [] := by
  unfold vr
  rw [List.range_succ, List.map_append, List.filter_append]
  congr 1
  by_cases h : hol v f <;> simp [h]
theorem vr_len (f : Fm) (v : Nat) : (vr f v).length ≤ v := by
  unfold vr
  have := List.length_filter_le (fun q => hol q f) ((List.range v).map fun k : Nat => (k : Int))
  simp at this
  exact this
theorem vr_mem (f : Fm) (v : Nat) (q : Int) : q ∈ vr f v ↔ (0 ≤ q ∧ q < v) ∧ hol q f = true := by
  unfold vr
  rw [List.mem_filter, List.mem_map]
  constructor
  · rintro ⟨⟨k, hk, rfl⟩, h⟩
    rw [List.mem_range] at hk
    exact ⟨⟨by omega, by omega⟩, h⟩
  · rintro ⟨⟨h1, h2⟩, h⟩
    exact ⟨⟨q.toNat, by rw [List.mem_range]; omega, by omega⟩, h⟩
theorem vr_inc (f : Fm) (v : Nat) : (vr f v).Pairwise (· < ·) := by
  unfold vr
  refine List.Pairwise.filter _ ?_
  rw [List.pairwise_map]
  exact List.pairwise_lt_range.imp fun h => by omega
/-- rising lists with the same members are one list -/
theorem inc_ext : ∀ {a b : List Int}, a.Pairwise (· < ·) → b.Pairwise (· < ·) → (∀ x, x ∈ a ↔ x ∈ b) → a = b
  | [], [], _, _, _ => rfl
  | [], y :: b, _, _, h => by have := (h y).2 (by simp); simp at this
  | x :: a, [], _, _, h => by have := (h x).1 (by simp); simp at this
  | x :: a, y :: b, ha, hb, h => by
    rw [List.pairwise_cons] at ha hb
    have e : x = y := by
      have h1 := (h x).1 (by simp)
      have h2 := (h y).2 (by simp)
      rcases List.mem_cons.1 h1 with e | h1
      · exact e
      · rcases List.mem_cons.1 h2 with e | h2
        · exact e.symm
        · have := ha.1 y h2
          have := hb.1 x h1
          omega
    subst e
    rw [inc_ext ha.2 hb.2 fun z => ?_]
    constructor
    · intro hz
      have := (h z).1 (by simp [hz])
      rcases List.mem_cons.1 this with e | q
      · have := ha.1 z hz; omega
      · exact q
    · intro hz
      have := (h z).2 (by simp [hz])
      rcases List.mem_cons.1 this with e | q
      · have := hb.1 z hz; omega
      · exact q
theorem cmpt_inc {zs : List Int} (hs : zs.Pairwise (· ≤ ·)) : ∀ m, m ≤ zs.length → (compactUpTo zs.toArray m).Pairwise (· < ·) ∧ (∀ x, x ∈ compactUpTo zs.toArray m ↔ ∃ j, j < m ∧ zs.toArray[j]! = x)
  | 0, _ => by simp [compactUpTo]
  | m + 1, hm => by
    obtain ⟨h1, h2⟩ := cmpt_inc hs m (by omega)
    have mono : ∀ j k, j ≤ k → k < zs.length → zs.toArray[j]! ≤ zs.toArray[k]! := fun j k hjk hk => by
      have e1 : zs.toArray[j]! = zs[j] := by simp [getElem!_pos, show j < zs.length by omega]
      have e2 : zs.toArray[k]! = zs[k] := by simp [getElem!_pos, hk]
      rw [e1, e2]
      rcases Nat.lt_or_eq_of_le hjk with c | c
      · exact List.pairwise_iff_getElem.1 hs j k (by omega) hk c
      · subst c; omega
    rw [compactUpTo_succ]
    by_cases hk : keeps zs.toArray m = true
    · rw [if_pos hk]
      refine ⟨List.pairwise_append.2 ⟨h1, by simp, fun x hx y hy => ?_⟩, fun x => ?_⟩
      · rw [List.mem_singleton] at hy
        subst hy
        obtain ⟨j, hj, rfl⟩ := (h2 x).1 hx
        have hne : zs.toArray[m]! ≠ zs.toArray[m - 1]! := by
          unfold keeps at hk
          have := of_decide_eq_true hk
          rcases this with c | c
          · omega
          · exact c
        have a1 := mono j (m - 1) (by omega) (by omega)
        have a2 := mono (m - 1) m (by omega) (by omega)
        show zs.toArray[j]! < zs.toArray[m]!
        omega
      · rw [List.mem_append, h2, List.mem_singleton]
        constructor
        · rintro (⟨j, hj, rfl⟩ | rfl)
          · exact ⟨j, by omega, rfl⟩
          · exact ⟨m, by omega, rfl⟩
        · rintro ⟨j, hj, rfl⟩
          by_cases c : j = m
          · subst c; exact .inr rfl
          · exact .inl ⟨j, by omega, rfl⟩
    · rw [if_neg hk, List.append_nil]
      refine ⟨h1, fun x => ?_⟩
      rw [h2]
      have hm0 : m ≠ 0 ∧ zs.toArray[m]! = zs.toArray[m - 1]! := by
        unfold keeps at hk
        have : ¬ (m = 0 ∨ zs.toArray[m]! ≠ zs.toArray[m - 1]!) := fun c => hk (decide_eq_true c)
        refine ⟨fun c => this (.inl c), ?_⟩
        by_cases c : zs.toArray[m]! = zs.toArray[m - 1]!
        · exact c
        · exact absurd (.inr c) this
      constructor
      · rintro ⟨j, hj, rfl⟩
        exact ⟨j, by omega, rfl⟩
      · rintro ⟨j, hj, rfl⟩
        by_cases c : j = m
        · subst c; exact ⟨j - 1, by omega, hm0.2.symm⟩
        · exact ⟨j, by omega, rfl⟩
theorem compact_mem {zs : List Int} (hs : zs.Pairwise (· ≤ ·)) : (compact zs).Pairwise (· < ·) ∧ ∀ x, x ∈ compact zs ↔ x ∈ zs := by
  obtain ⟨h1, h2⟩ := cmpt_inc hs zs.length (Nat.le_refl _)
  refine ⟨h1, fun x => ?_⟩
  unfold compact
  rw [h2]
  constructor
  · rintro ⟨j, hj, rfl⟩
    rw [show zs.toArray[j]! = zs[j] by simp [getElem!_pos, hj]]
    exact List.getElem_mem _
  · intro hx
    obtain ⟨j, hj, rfl⟩ := List.getElem_of_mem hx
    exact ⟨j, hj, by simp [getElem!_pos, hj]⟩
theorem vars_eq {f : Fm} (h : isG f = true) : compact ((gat f).mergeSort fun x y => decide (x ≤ y)) = vr f (gre f + 1).toNat := by
  have hs : ((gat f).mergeSort fun x y => decide (x ≤ y)).Pairwise (· ≤ ·) := by
    have := List.pairwise_mergeSort (le := fun x y : Int => decide (x ≤ y)) (fun a b c h1 h2 => by simp at *; omega) (fun a b => by simp; omega) (gat f)
    exact this.imp fun h => by simpa using h
  obtain ⟨h1, h2⟩ := compact_mem hs
  refine inc_ext h1 (vr_inc f _) fun x => ?_
  rw [h2, List.mem_mergeSort, vr_mem, hol_gat x f h]
  have hr := gre_rng f h
  constructor
  · intro hx
    have := gat_rng f h x hx
    have := gre_hol x f ((hol_gat x f h).2 hx)
    exact ⟨⟨by omega, by omega⟩, hx⟩
  · exact fun hx => hx.2
end Kl
end Go.Proofs.Ytmpmlccomgepjaa
