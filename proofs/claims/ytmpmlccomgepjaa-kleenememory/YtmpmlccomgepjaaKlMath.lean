/-
  MATHEMATICS of formulas: their order, which is total.
-/
import Derived.Test.YtmpmlccomgepjaaProg
import Derived.Shelf.SlicesG.Cmp
namespace Go.Proofs.Ytmpmlccomgepjaa
open Go.Lib
namespace Kl
/-- a formula -/
inductive Fm where
  | mk (op va n : Int) (ar : List Fm)
instance : Inhabited Fm := ⟨.mk 0 0 0 []⟩
def Fm.op : Fm → Int | .mk o _ _ _ => o
def Fm.va : Fm → Int | .mk _ v _ _ => v
def Fm.vr : Fm → Int | .mk _ _ n _ => n
def Fm.ar : Fm → List Fm | .mk _ _ _ l => l
/-- the first of three that is not zero -/
def fst3 (a b c : Int) : Int := if a ≠ 0 then a else if b ≠ 0 then b else c
mutual
/-- the order of formulas -/
def cmpF : Fm → Fm → Int
  | .mk o v n l, .mk o' v' n' l' => if fst3 (compareInt o o') (compareInt v v') (compareInt n n') ≠ 0 then fst3 (compareInt o o') (compareInt v v') (compareInt n n') else cmpL l l'
def cmpL : List Fm → List Fm → Int
  | [], [] => 0
  | [], _ :: _ => -1
  | _ :: _, [] => 1
  | a :: l, b :: m => if cmpF a b ≠ 0 then cmpF a b else cmpL l m
end
theorem ci_anti (a b : Int) : compareInt b a = - compareInt a b := by unfold compareInt; split <;> split <;> first | omega | (split <;> omega) | (split <;> split <;> omega)
theorem ci_zero {a b : Int} (h : compareInt a b = 0) : a = b := by
  unfold compareInt at h
  split at h
  · cases h
  · split at h
    · cases h
    · omega
theorem ci_self (a : Int) : compareInt a a = 0 := by unfold compareInt; rw [if_neg (by omega), if_neg (by omega)]
theorem ci_lt {a b : Int} : compareInt a b < 0 ↔ a < b := by
  unfold compareInt
  split
  · omega
  · split <;> omega
theorem ci_b (a b : Int) : -1 ≤ compareInt a b ∧ compareInt a b ≤ 1 := by unfold compareInt; split <;> (try split) <;> omega
theorem f3_neg (a b c : Int) : fst3 (-a) (-b) (-c) = - fst3 a b c := by unfold fst3; split <;> split <;> first | omega | (split <;> omega) | (split <;> split <;> omega)
theorem f3_b {a b c : Int} (ha : -1 ≤ a ∧ a ≤ 1) (hb : -1 ≤ b ∧ b ≤ 1) (hc : -1 ≤ c ∧ c ≤ 1) : -1 ≤ fst3 a b c ∧ fst3 a b c ≤ 1 := by unfold fst3; split <;> (try split) <;> assumption
theorem f3_zero {a b c : Int} (h : fst3 a b c = 0) : a = 0 ∧ b = 0 ∧ c = 0 := by
  unfold fst3 at h
  split at h
  · contradiction
  · split at h
    · contradiction
    · exact ⟨by omega, by omega, h⟩
mutual
theorem cmpF_anti : ∀ x y : Fm, cmpF y x = - cmpF x y
  | .mk o v n l, .mk o' v' n' l' => by
    have h := cmpL_anti l l'
    unfold cmpF
    rw [ci_anti o o', ci_anti v v', ci_anti n n', f3_neg]
    generalize fst3 (compareInt o o') (compareInt v v') (compareInt n n') = c
    by_cases hc : c = 0
    · rw [if_neg (by omega), if_neg (by omega), h]
    · rw [if_pos (by omega), if_pos (by omega)]
theorem cmpL_anti : ∀ l m : List Fm, cmpL m l = - cmpL l m
  | [], [] => by simp [cmpL]
  | [], _ :: _ => by simp [cmpL]
  | _ :: _, [] => by simp [cmpL]
  | a :: l, b :: m => by
    have h1 := cmpF_anti a b
    have h2 := cmpL_anti l m
    unfold cmpL
    rw [h1]
    generalize cmpF a b = c
    by_cases hc : c = 0
    · rw [if_neg (by omega), if_neg (by omega), h2]
    · rw [if_pos (by omega), if_pos (by omega)]
end
mutual
theorem cmpF_eq : ∀ {x y : Fm}, cmpF x y = 0 → x = y
  | .mk o v n l, .mk o' v' n' l', h => by
    unfold cmpF at h
    split at h
    · contradiction
    · rename_i hc
      obtain ⟨h1, h2, h3⟩ := f3_zero (Classical.not_not.1 hc)
      rw [ci_zero h1, ci_zero h2, ci_zero h3, cmpL_eq h]
theorem cmpL_eq : ∀ {l m : List Fm}, cmpL l m = 0 → l = m
  | [], [], _ => rfl
  | [], _ :: _, h => by simp [cmpL] at h
  | _ :: _, [], h => by simp [cmpL] at h
  | a :: l, b :: m, h => by
    unfold cmpL at h
    split at h
    · contradiction
    · rename_i hc
      rw [cmpF_eq (Classical.not_not.1 hc), cmpL_eq h]
end
mutual
theorem cmpF_self : ∀ x : Fm, cmpF x x = 0
  | .mk o v n l => by
    have h := cmpL_self l
    unfold cmpF
    rw [ci_self, ci_self, ci_self, h]
    simp [fst3]
theorem cmpL_self : ∀ l : List Fm, cmpL l l = 0
  | [] => by simp [cmpL]
  | a :: l => by
    have h1 := cmpF_self a
    have h2 := cmpL_self l
    unfold cmpL
    rw [h1, h2]
    simp
end
theorem cmpF_iff {x y : Fm} : cmpF x y = 0 ↔ x = y := ⟨cmpF_eq, fun h => by rw [h]; exact cmpF_self y⟩
theorem f3_trans {a b c a' b' c' : Int} (h : fst3 (compareInt a b) (compareInt a' b') (compareInt c c') < 0) {d d' e : Int} (h2 : fst3 (compareInt b d) (compareInt b' d') (compareInt c' e) < 0) : fst3 (compareInt a d) (compareInt a' d') (compareInt c e) < 0 := by
  unfold fst3 at *
  have k1 := ci_b a b
  have k2 := ci_b b d
  by_cases e1 : a < b
  · have e1' := ci_lt.2 e1
    by_cases e2 : b < d
    · have := ci_lt.2 (show a < d by omega); rw [if_pos (by omega)]; exact this
    · by_cases e3 : b = d
      · subst e3; rw [if_pos (by omega)]; exact e1'
      · have := ci_lt.2 (show d < b by omega)
        rw [ci_anti b d] at this
        rw [if_pos (by omega)] at h2
        omega
  · by_cases e0 : a = b
    · subst e0
      rw [ci_self, if_neg (by omega)] at h
      by_cases e2 : a < d
      · have := ci_lt.2 e2; rw [if_pos (by omega)]; exact this
      · by_cases e3 : a = d
        · subst e3
          rw [ci_self, if_neg (by omega)] at h2 ⊢
          by_cases f1 : a' < b'
          · have f1' := ci_lt.2 f1
            by_cases f2 : b' < d'
            · have := ci_lt.2 (show a' < d' by omega); rw [if_pos (by omega)]; exact this
            · by_cases f3 : b' = d'
              · subst f3; rw [if_pos (by omega)]; exact f1'
              · have := ci_lt.2 (show d' < b' by omega)
                rw [ci_anti b' d'] at this
                rw [if_pos (by omega)] at h2
                omega
          · by_cases f0 : a' = b'
            · subst f0
              rw [ci_self, if_neg (by omega)] at h
              by_cases f2 : a' < d'
              · have := ci_lt.2 f2; rw [if_pos (by omega)]; exact this
              · by_cases f3 : a' = d'
                · subst f3
                  rw [ci_self, if_neg (by omega)] at h2 ⊢
                  have g1 := ci_lt.1 h
                  have g2 := ci_lt.1 h2
                  exact ci_lt.2 (by omega)
                · have := ci_lt.2 (show d' < a' by omega)
                  rw [ci_anti a' d'] at this
                  rw [if_pos (by omega)] at h2
                  omega
            · have := ci_lt.2 (show b' < a' by omega)
              rw [ci_anti a' b'] at this
              rw [if_pos (by omega)] at h
              omega
        · have := ci_lt.2 (show d < a by omega)
          rw [ci_anti a d] at this
          rw [if_pos (by omega)] at h2
          omega
    · have := ci_lt.2 (show b < a by omega)
      rw [ci_anti a b] at this
      rw [if_pos (by omega)] at h
      omega
theorem f3_self0 {a b a' b' c c' : Int} (h : fst3 (compareInt a b) (compareInt a' b') (compareInt c c') = 0) : a = b ∧ a' = b' ∧ c = c' := by
  obtain ⟨h1, h2, h3⟩ := f3_zero h
  exact ⟨ci_zero h1, ci_zero h2, ci_zero h3⟩
mutual
theorem cmpF_trans : ∀ {x y z : Fm}, cmpF x y < 0 → cmpF y z < 0 → cmpF x z < 0
  | .mk o v n l, .mk o' v' n' l', .mk o2 v2 n2 l2, h1, h2 => by
    unfold cmpF at *
    by_cases c1 : fst3 (compareInt o o') (compareInt v v') (compareInt n n') = 0
    · obtain ⟨rfl, rfl, rfl⟩ := f3_self0 c1
      rw [if_neg (by omega)] at h1
      by_cases c2 : fst3 (compareInt o o2) (compareInt v v2) (compareInt n n2) = 0
      · rw [if_neg (by omega)] at h2 ⊢
        exact cmpL_trans h1 h2
      · rw [if_pos (by omega)] at h2 ⊢
        exact h2
    · rw [if_pos (by omega)] at h1
      by_cases c2 : fst3 (compareInt o' o2) (compareInt v' v2) (compareInt n' n2) = 0
      · obtain ⟨rfl, rfl, rfl⟩ := f3_self0 c2
        rw [if_pos (by omega)]
        exact h1
      · rw [if_pos (by omega)] at h2
        have := f3_trans h1 h2
        rw [if_pos (by omega)]
        exact this
theorem cmpL_trans : ∀ {x y z : List Fm}, cmpL x y < 0 → cmpL y z < 0 → cmpL x z < 0
  | [], [], _, h, _ => by simp [cmpL] at h
  | [], _ :: _, [], _, h => by simp [cmpL] at h
  | [], _ :: _, _ :: _, _, _ => by simp [cmpL]
  | _ :: _, [], _, h, _ => by simp [cmpL] at h
  | _ :: _, _ :: _, [], _, h => by simp [cmpL] at h
  | a :: l, b :: m, c :: k, h1, h2 => by
    unfold cmpL at *
    by_cases c1 : cmpF a b = 0
    · have := cmpF_eq c1
      subst this
      rw [if_neg (by omega)] at h1
      by_cases c2 : cmpF a c = 0
      · rw [if_neg (by omega)] at h2 ⊢
        exact cmpL_trans h1 h2
      · rw [if_pos (by omega)] at h2 ⊢
        exact h2
    · rw [if_pos (by omega)] at h1
      by_cases c2 : cmpF b c = 0
      · have := cmpF_eq c2
        subst this
        rw [if_pos (by omega)]
        exact h1
      · rw [if_pos (by omega)] at h2
        have := cmpF_trans h1 h2
        rw [if_pos (by omega)]
        exact this
end
theorem cmpF_tri (x y : Fm) : cmpF x y < 0 ∨ x = y ∨ cmpF y x < 0 := by
  have := cmpF_anti x y
  by_cases h : cmpF x y = 0
  · exact .inr (.inl (cmpF_eq h))
  · by_cases h2 : cmpF x y < 0
    · exact .inl h2
    · exact .inr (.inr (by omega))
/-- formulas that rise -/
def Rise (l : List Fm) : Prop := l.Pairwise fun a b => cmpF a b < 0
/-- a list that rises is told by its members -/
theorem Rise.only : ∀ {l m : List Fm}, Rise l → Rise m → (∀ x, x ∈ l ↔ x ∈ m) → l = m
  | [], [], _, _, _ => rfl
  | [], b :: m, _, _, h => by have := (h b).2 (by simp); cases this
  | a :: l, [], _, _, h => by have := (h a).1 (by simp); cases this
  | a :: l, b :: m, h1, h2, h => by
    obtain ⟨a1, a2⟩ := List.pairwise_cons.1 h1
    obtain ⟨b1, b2⟩ := List.pairwise_cons.1 h2
    have e : a = b := by
      rcases List.mem_cons.1 ((h a).1 (by simp)) with e | e
      · exact e
      · rcases List.mem_cons.1 ((h b).2 (by simp)) with e2 | e2
        · exact e2.symm
        · have k1 := b1 a e
          have k2 := a1 b e2
          have := cmpF_anti a b
          omega
    subst e
    refine congrArg _ (Rise.only a2 b2 fun x => ⟨fun hx => ?_, fun hx => ?_⟩)
    · rcases List.mem_cons.1 ((h x).1 (List.mem_cons_of_mem _ hx)) with e | e
      · have := a1 x hx
        rw [e, cmpF_self] at this
        omega
      · exact e
    · rcases List.mem_cons.1 ((h x).2 (List.mem_cons_of_mem _ hx)) with e | e
      · have := b1 x hx
        rw [e, cmpF_self] at this
        omega
      · exact e
/-- into a list that rises, where it is not there -/
def put (f : Fm) : List Fm → List Fm
  | [] => [f]
  | g :: l => if cmpF f g < 0 then f :: g :: l else if cmpF f g = 0 then g :: l else g :: put f l
theorem put_mem (f : Fm) : ∀ (l : List Fm) (x : Fm), x ∈ put f l ↔ x = f ∨ x ∈ l
  | [], x => by simp [put]
  | g :: l, x => by
    unfold put
    split
    · simp
    · split
      · rename_i h
        have := cmpF_eq h
        subst this
        simp
      · simp only [List.mem_cons, put_mem f l x]
        constructor
        · rintro (h | h | h)
          · exact .inr (.inl h)
          · exact .inl h
          · exact .inr (.inr h)
        · rintro (h | h | h)
          · exact .inr (.inl h)
          · exact .inl h
          · exact .inr (.inr h)
theorem put_rise (f : Fm) : ∀ {l : List Fm}, Rise l → Rise (put f l)
  | [], _ => by simp [put, Rise]
  | g :: l, h => by
    obtain ⟨h1, h2⟩ := List.pairwise_cons.1 h
    unfold put
    split
    · rename_i c
      refine List.pairwise_cons.2 ⟨fun x hx => ?_, h⟩
      rcases List.mem_cons.1 hx with e | e
      · rw [e]; exact c
      · exact cmpF_trans c (h1 x e)
    · split
      · exact h
      · rename_i c1 c2
        refine List.pairwise_cons.2 ⟨fun x hx => ?_, put_rise f h2⟩
        rcases (put_mem f l x).1 hx with e | e
        · rw [e, cmpF_anti f g]; omega
        · exact h1 x e
/-- in their order, each once -/
def sr (l : List Fm) : List Fm := l.foldl (fun a f => put f a) []
theorem sr_aux (l : List Fm) : ∀ a : List Fm, Rise a → Rise (l.foldl (fun a f => put f a) a) ∧ ∀ x, x ∈ l.foldl (fun a f => put f a) a ↔ x ∈ a ∨ x ∈ l := by
  induction l with
  | nil => intro a h; exact ⟨h, fun x => by simp⟩
  | cons f l ih =>
    intro a h
    obtain ⟨k1, k2⟩ := ih _ (put_rise f h)
    refine ⟨k1, fun x => ?_⟩
    rw [List.foldl_cons, k2, put_mem, List.mem_cons]
    constructor
    · rintro ((h | h) | h)
      · exact .inr (.inl h)
      · exact .inl h
      · exact .inr (.inr h)
    · rintro (h | h | h)
      · exact .inl (.inr h)
      · exact .inl (.inl h)
      · exact .inr h
theorem sr_rise (l : List Fm) : Rise (sr l) := (sr_aux l [] List.Pairwise.nil).1
theorem sr_mem (l : List Fm) (x : Fm) : x ∈ sr l ↔ x ∈ l := by rw [show (x ∈ sr l ↔ x ∈ l) = (x ∈ sr l ↔ x ∈ l) from rfl]; unfold sr; rw [(sr_aux l [] List.Pairwise.nil).2 x]; simp
theorem sr_only {l m : List Fm} (h1 : Rise m) (h2 : ∀ x, x ∈ m ↔ x ∈ l) : m = sr l := h1.only (sr_rise l) fun x => (h2 x).trans (sr_mem l x).symm
end Kl
end Go.Proofs.Ytmpmlccomgepjaa
