/-
  Plain mathematics: the runes of a text from a place on, as Go's range gives them; pieces, first unlike characters, order.
-/
import Derived.Test.YtcmjipgigkalcaaDoorRnCat
namespace Go.Proofs.YtcmjipgigkalcaaDoor.Wd
open Go.Lib

def rs (f : Nat → Nat) (n : Nat) : Nat → Nat → List Nat
  | 0, _ => []
  | fuel + 1, p => if p < n then (Rn.dec (Rn.off f p) (n - p)).1 :: rs f n fuel (p + (Rn.dec (Rn.off f p) (n - p)).2) else []
/-- the runes from a place on -/
def R (f : Nat → Nat) (n p : Nat) : List Nat := rs f n (n - p) p
theorem rs_end (f : Nat → Nat) (n fuel p : Nat) (h : ¬ p < n) : rs f n fuel p = [] := by
  cases fuel with
  | zero => rfl
  | succ m => unfold rs; rw [if_neg h]
theorem rs_fuel (f : Nat → Nat) (n : Nat) (hf : ∀ j, f j < 256) : ∀ a b p, n ≤ p + a → n ≤ p + b → rs f n a p = rs f n b p
  | 0, b, p, ha, _ => by rw [rs_end f n 0 p (by omega), rs_end f n b p (by omega)]
  | a + 1, b, p, ha, hb => by
    by_cases h : p < n
    · obtain ⟨c, rfl⟩ : ∃ c, b = c + 1 := ⟨b - 1, by omega⟩
      have := Rn.dec_pos (Rn.off f p) (n - p) (fun _ => hf _) (by omega)
      unfold rs
      rw [if_pos h, if_pos h, rs_fuel f n hf a c _ (by omega) (by omega)]
    · rw [rs_end f n _ p h, rs_end f n _ p h]
theorem R_end (f : Nat → Nat) (n p : Nat) (h : ¬ p < n) : R f n p = [] := rs_end f n _ p h
theorem R_step (f : Nat → Nat) (n p : Nat) (hf : ∀ j, f j < 256) (h : p < n) : R f n p = (Rn.dec (Rn.off f p) (n - p)).1 :: R f n (p + (Rn.dec (Rn.off f p) (n - p)).2) := by
  have := Rn.dec_pos (Rn.off f p) (n - p) (fun _ => hf _) (by omega)
  unfold R
  rw [rs_fuel f n hf (n - p) (n - p + 1) p (by omega) (by omega)]
  show (if p < n then _ else _) = _
  rw [if_pos h, rs_fuel f n hf (n - p) (n - (p + (Rn.dec (Rn.off f p) (n - p)).2)) _ (by omega) (by omega)]
theorem off_off (f : Nat → Nat) (a q : Nat) : Rn.off (Rn.off f a) q = Rn.off f (a + q) := by
  funext j
  simp [Rn.off, Nat.add_assoc]
theorem rs_shift (f : Nat → Nat) (n a : Nat) (ha : a ≤ n) : ∀ fuel q, rs (Rn.off f a) (n - a) fuel q = rs f n fuel (a + q)
  | 0, _ => rfl
  | fuel + 1, q => by
    unfold rs
    by_cases h : q < n - a
    · rw [if_pos h, if_pos (by omega), off_off, rs_shift f n a ha fuel, Nat.sub_sub, Nat.add_assoc]
    · rw [if_neg h, if_neg (by omega)]
theorem R_shift (f : Nat → Nat) (n a q : Nat) (hf : ∀ j, f j < 256) (ha : a ≤ n) : R (Rn.off f a) (n - a) q = R f n (a + q) := by
  unfold R
  rw [rs_shift f n a ha]
  exact rs_fuel f n hf _ _ _ (by omega) (by omega)
theorem rs_rl (f : Nat → Nat) (n : Nat) (hf : ∀ j, f j < 256) : ∀ fuel p, Rn.rl (Rn.chFrom f n hf fuel p) = rs f n fuel p
  | 0, _ => rfl
  | fuel + 1, p => by
    unfold Rn.chFrom rs
    by_cases h : p < n
    · rw [dif_pos h, if_pos h, ← rs_rl f n hf fuel]
      rfl
    · rw [dif_neg h, if_neg h]
      rfl
theorem R_rl (f : Nat → Nat) (n : Nat) (hf : ∀ j, f j < 256) : Rn.rl (Rn.chs f n hf) = R f n 0 := rs_rl f n hf n 0
theorem rs_scal (f : Nat → Nat) (n : Nat) (hf : ∀ j, f j < 256) : ∀ fuel p, ∀ r ∈ rs f n fuel p, Rn.scal r := fun fuel p => by
  rw [← rs_rl f n hf]
  exact Rn.chFrom_scal f n hf fuel p
theorem R_scal (f : Nat → Nat) (n p : Nat) (hf : ∀ j, f j < 256) : ∀ r ∈ R f n p, Rn.scal r := rs_scal f n hf _ p
theorem R_length (f : Nat → Nat) (n p : Nat) (hf : ∀ j, f j < 256) : (R f n p).length ≤ n - p := by
  unfold R
  rw [← rs_rl f n hf]
  simp only [Rn.rl, List.length_map]
  exact Rn.chFrom_length f n hf _ p
theorem R_cat (L : List Nat) (hL : ∀ r ∈ L, Rn.scal r) : R (Rn.lf (Rn.cat L)) (Rn.cat L).length 0 = L := by
  rw [← R_rl _ _ (Rn.lf_lt _), Rn.rl_cat L hL]
theorem R_nil (f : Nat → Nat) (n : Nat) (hf : ∀ j, f j < 256) : R f n 0 = [] ↔ n = 0 := by
  constructor
  · intro h
    by_cases e : 0 < n
    · rw [R_step f n 0 hf e] at h
      cases h
    · omega
  · rintro rfl
    exact R_end f 0 0 (by omega)

/-- the first characters by which two texts are unlike; -1: none is left -/
def fu : List Nat → List Nat → Int × Int
  | [], [] => (-1, -1)
  | [], b :: _ => (-1, b)
  | a :: _, [] => (a, -1)
  | a :: L, b :: M => if a = b then fu L M else (a, b)
def hd : List Nat → Int
  | [] => -1
  | a :: _ => a
theorem fu_nil (M : List Nat) : fu [] M = (-1, hd M) := by cases M <;> simp [fu, hd]
theorem fu_ne (a : Nat) (L M : List Nat) (h : (a : Int) ≠ hd M) : fu (a :: L) M = ((a : Int), hd M) := by
  cases M with
  | nil => simp [fu, hd]
  | cons b M =>
    simp only [hd] at h ⊢
    simp only [fu]
    rw [if_neg (by omega)]
theorem fu_eq (a : Nat) (L M : List Nat) : fu (a :: L) (a :: M) = fu L M := by simp [fu]
def cm (x y : Int) : Int := if x < y then -1 else if y < x then 1 else 0
/-- the order by characters -/
def cmp (L M : List Nat) : Int := cm (fu L M).1 (fu L M).2
def un (r : Int) : Int := if r ≤ 65535 then r * 65536 else (55296 + (r - 65536) / 1024) * 65536 + 56320 + (r - 65536) % 1024
/-- the order by units -/
def cmpU (L M : List Nat) : Int := cm (un (fu L M).1) (un (fu L M).2)
theorem fu_swap : ∀ L M, fu M L = ((fu L M).2, (fu L M).1)
  | [], [] => rfl
  | [], _ :: _ => rfl
  | _ :: _, [] => rfl
  | a :: L, b :: M => by
    simp only [fu]
    by_cases h : a = b
    · rw [if_pos h, if_pos h.symm, fu_swap L M]
    · rw [if_neg h, if_neg (fun e => h e.symm)]
theorem cm_swap (x y : Int) : cm y x = - cm x y := by
  unfold cm
  split <;> split <;> first | omega | rfl | (split <;> first | omega | rfl)
theorem cmp_swap (L M : List Nat) : cmp M L = - cmp L M := by
  unfold cmp
  rw [fu_swap L M]
  exact cm_swap _ _
theorem cmpU_swap (L M : List Nat) : cmpU M L = - cmpU L M := by
  unfold cmpU
  rw [fu_swap L M]
  exact cm_swap _ _
/-- where two texts part -/
inductive Part : List Nat → List Nat → Prop
  | same (P : List Nat) : Part P P
  | left (P : List Nat) (b : Nat) (M : List Nat) : Part P (P ++ b :: M)
  | right (P : List Nat) (a : Nat) (L : List Nat) : Part (P ++ a :: L) P
  | ne (P : List Nat) (a b : Nat) (L M : List Nat) (h : a ≠ b) : Part (P ++ a :: L) (P ++ b :: M)
theorem Part.cons {L M : List Nat} (c : Nat) (h : Part L M) : Part (c :: L) (c :: M) := by
  cases h with
  | same => exact .same _
  | left P b M => exact .left (c :: L) b M
  | right P a L => exact .right (c :: M) a L
  | ne P a b L M h => exact .ne (c :: P) a b L M h
theorem part : ∀ L M, Part L M
  | [], [] => .same _
  | [], b :: M => .left [] b M
  | a :: L, [] => .right [] a L
  | a :: L, b :: M => by
    by_cases h : a = b
    · subst h
      exact (part L M).cons a
    · exact .ne [] a b L M h
theorem fu_app : ∀ P L M, fu (P ++ L) (P ++ M) = fu L M
  | [], _, _ => rfl
  | c :: P, L, M => by
    rw [List.cons_append, List.cons_append, fu_eq]
    exact fu_app P L M
theorem fu_same (P : List Nat) : fu P P = (-1, -1) := by
  have := fu_app P [] []
  rwa [List.append_nil] at this
theorem fu_left (P : List Nat) (b : Nat) (M : List Nat) : fu P (P ++ b :: M) = (-1, (b : Int)) := by
  have := fu_app P [] (b :: M)
  rwa [List.append_nil] at this
theorem fu_right (P : List Nat) (a : Nat) (L : List Nat) : fu (P ++ a :: L) P = ((a : Int), -1) := by
  have := fu_app P (a :: L) []
  rwa [List.append_nil] at this
theorem fu_part (P : List Nat) (a b : Nat) (L M : List Nat) (h : a ≠ b) : fu (P ++ a :: L) (P ++ b :: M) = ((a : Int), (b : Int)) := by
  rw [fu_app]
  simp [fu, h]

/-- these from number 'from' on, so many of them -/
def sub (L : List Nat) (from' count : Int) : List Nat := (L.take (from' + count).toNat).drop from'.toNat
end Go.Proofs.YtcmjipgigkalcaaDoor.Wd
