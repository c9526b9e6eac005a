/-
  A number's digits, as gimletlaw05.digits writes them, and what Read makes of them.
-/
import Derived.Test.YtbbbokkfhfmoeabDoorRfFix
namespace Go.Proofs.YtbbbokkfhfmoeabDoor
open Go.RowKit Go.Lib

namespace Rf
/-- a digit's byte -/
def ch (k : Nat) : UInt8 := if k < 10 then UInt8.ofNat (48 + k) else UInt8.ofNat (87 + k)
theorem ch_dv0 : ∀ k : Fin 16, (dv (ch k.val).toNat = k.val ∧ isD 5 (ch k.val).toNat = true) ∧ (k.val < 10 → isD 4 (ch k.val).toNat = true) := by decide +kernel
theorem Bas.ch {base c k : Nat} (hb : Bas base c) (hk : k < base) : dv (ch k).toNat = k ∧ isD c (Rf.ch k).toNat = true := by
  rcases hb with ⟨rfl, rfl⟩ | ⟨rfl, rfl⟩
  · have := ch_dv0 ⟨k, by omega⟩
    exact ⟨this.1.1, this.2 hk⟩
  · have := ch_dv0 ⟨k, hk⟩
    exact this.1
/-- the digits of a number (none of nought) -/
def dd (base n : Nat) : List UInt8 := if _h : n = 0 ∨ base < 2 then [] else dd base (n / base) ++ [ch (n % base)]
termination_by n
decreasing_by exact Nat.div_lt_self (by omega) (by omega)
theorem dd_zero (base : Nat) : dd base 0 = [] := by rw [dd]; simp
theorem dd_pos {base n : Nat} (hb : 2 ≤ base) (hn : 0 < n) : dd base n = dd base (n / base) ++ [ch (n % base)] := by
  rw [dd, dif_neg (by omega)]
theorem dd_length {base : Nat} (hb : 2 ≤ base) : ∀ n, (dd base n).length ≤ n := by
  intro n
  induction n using Nat.strongRecOn with
  | ind n ih =>
    by_cases h : n = 0
    · subst h; rw [dd_zero]; simp
    · rw [dd_pos hb (by omega)]
      have h1 := ih (n / base) (Nat.div_lt_self (by omega) (by omega))
      have h2 := Nat.div_lt_self (n := n) (k := base) (by omega) (by omega)
      simp only [List.length_append, List.length_cons, List.length_nil]
      omega
/-- and of nought one -/
def dg (base n : Nat) : List UInt8 := if n = 0 then [48] else dd base n
/-- how many digits make it too great -/
def cnt (base n : Nat) : Nat := if _h : n ≤ 1114111 ∨ base < 2 then 0 else 1 + cnt base (n / base)
termination_by n
decreasing_by exact Nat.div_lt_self (by omega) (by omega)
theorem cnt_le {base n : Nat} (hn : n ≤ 1114111) : cnt base n = 0 := by rw [cnt, dif_pos (.inl hn)]
theorem cnt_gt {base n : Nat} (hb : 2 ≤ base) (hn : 1114111 < n) : cnt base n = 1 + cnt base (n / base) := by rw [cnt, dif_neg (by omega)]
theorem cnt_len {base : Nat} (hb : 2 ≤ base) : ∀ n, cnt base n ≤ (dd base n).length := by
  intro n
  induction n using Nat.strongRecOn with
  | ind n ih =>
    by_cases h : n ≤ 1114111
    · rw [cnt_le h]; omega
    · rw [cnt_gt hb (by omega), dd_pos hb (by omega)]
      have h1 := ih (n / base) (Nat.div_lt_self (by omega) (by omega))
      simp only [List.length_append, List.length_cons, List.length_nil]
      omega
/-- the same as rn, of a list -/
def rnL (base c : Nat) : List UInt8 → Nat → Nat → Nat × Nat × Nat
  | [], _, _ => (0, 0, 1)
  | x :: r, a, v => if isD c x.toNat = true then (if 1114111 < v * base + dv x.toNat then (0, a, 2) else rnL base c r (a + 1) (v * base + dv x.toNat)) else if x.toNat = 59 ∧ Ch.isT Ch.tab 0 (v : Int) = true then (v, a + 1, 0) else (0, a, 2)
/-- a list's bytes by their place -/
def lfn (l : List UInt8) : Nat → Nat := fun j => (l[j]?.getD 0).toNat
theorem lfn_lt (l : List UInt8) : ∀ j, lfn l j < 256 := fun j => (l[j]?.getD 0).toNat_lt
theorem rn_list (l : List UInt8) (base c : Nat) : ∀ (k a v : Nat), l.length - a = k → a ≤ l.length → rn (lfn l) base c k a v = rnL base c (l.drop a) a v
  | 0, a, v, hk, ha => by
    rw [List.drop_eq_nil_of_le (by omega)]
    rfl
  | k + 1, a, v, hk, ha => by
    have hal : a < l.length := by omega
    rw [rn_succ, List.drop_eq_getElem_cons hal]
    have e : lfn l a = (l[a]).toNat := by unfold lfn; rw [List.getElem?_eq_getElem hal]; rfl
    rw [e]
    show _ = (if _ then _ else _)
    rw [rn_list l base c k (a + 1) _ (by omega) (by omega)]
theorem rnL_dig {base c : Nat} (x : UInt8) (r : List UInt8) (a v : Nat) (hd : isD c x.toNat = true) : rnL base c (x :: r) a v = if 1114111 < v * base + dv x.toNat then (0, a, 2) else rnL base c r (a + 1) (v * base + dv x.toNat) := by
  show (if _ then _ else _) = _
  rw [if_pos hd]
theorem rnL_zeros {base c : Nat} (hb : Bas base c) (r : List UInt8) : ∀ (k a : Nat), rnL base c (List.replicate k 48 ++ r) a 0 = rnL base c r (a + k) 0
  | 0, a => rfl
  | k + 1, a => by
    have h48 := hb.ch (k := 0) (by rcases hb with ⟨rfl, _⟩ | ⟨rfl, _⟩ <;> omega)
    have hc : ch 0 = 48 := by decide
    rw [hc] at h48
    rw [List.replicate_succ, List.cons_append, rnL_dig _ _ _ _ h48.2, h48.1, if_neg (by omega), show 0 * base + 0 = 0 by omega, rnL_zeros hb r k (a + 1), show a + 1 + k = a + (k + 1) by omega]
theorem rnL_dd {base c : Nat} (hb : Bas base c) (a : Nat) : ∀ n, ∀ r, rnL base c (dd base n ++ r) a 0 = if n ≤ 1114111 then rnL base c r (a + (dd base n).length) n else (0, a + (dd base n).length - cnt base n, 2) := by
  have hb2 : 2 ≤ base := by rcases hb with ⟨rfl, _⟩ | ⟨rfl, _⟩ <;> omega
  intro n
  induction n using Nat.strongRecOn with
  | ind n ih =>
    intro r
    by_cases h : n = 0
    · subst h
      rw [dd_zero, if_pos (by omega)]
      rfl
    · have hlt := Nat.div_lt_self (n := n) (k := base) (by omega) (by omega)
      have hch := hb.ch (k := n % base) (Nat.mod_lt _ (by omega))
      have hdm : n / base * base + n % base = n := by rw [Nat.mul_comm]; exact Nat.div_add_mod n base
      rw [dd_pos hb2 (by omega), List.append_assoc, ih (n / base) hlt]
      simp only [List.length_append, List.length_cons, List.length_nil]
      by_cases h1 : n / base ≤ 1114111
      · rw [if_pos h1, List.cons_append, rnL_dig _ _ _ _ hch.2, hch.1, hdm]
        by_cases h2 : n ≤ 1114111
        · rw [if_neg (by omega), if_pos h2]
          rfl
        · rw [if_pos (by omega), if_neg h2, cnt_gt hb2 (by omega), cnt_le h1]
          congr 2
      · rw [if_neg h1, if_neg (by omega), cnt_gt (n := n) hb2 (by omega), show a + (dd base (n / base)).length - cnt base (n / base) = a + ((dd base (n / base)).length + (0 + 1)) - (1 + cnt base (n / base)) from by omega]
/-- noughts, the digits, and what stands behind them -/
def nums (base k n : Nat) : List UInt8 := List.replicate k 48 ++ dg base n
theorem rnL_nums {base c : Nat} (hb : Bas base c) (k n a : Nat) : rnL base c (nums base k n ++ [59, 120]) a 0 = if n ≤ 1114111 then (if Ch.isT Ch.tab 0 (n : Int) = true then (n, a + (nums base k n).length + 1, 0) else (0, a + (nums base k n).length, 2)) else (0, a + (nums base k n).length - cnt base n, 2) := by
  have h59 : isD c (59 : UInt8).toNat = false := by rcases hb with ⟨_, rfl⟩ | ⟨_, rfl⟩ <;> decide +kernel
  have hend : ∀ (a v : Nat), rnL base c [59, 120] a v = if Ch.isT Ch.tab 0 (v : Int) = true then (v, a + 1, 0) else (0, a, 2) := by
    intro a v
    show (if _ then _ else _) = _
    rw [if_neg (by rw [h59]; decide)]
    by_cases h : Ch.isT Ch.tab 0 (v : Int) = true
    · rw [if_pos ⟨rfl, h⟩, if_pos h]
    · rw [if_neg (fun q => h q.2), if_neg h]
  unfold nums dg
  rw [List.append_assoc, rnL_zeros hb, List.length_append, List.length_replicate]
  by_cases h : n = 0
  · subst h
    have h1 := rnL_zeros hb [59, 120] 1 (a + k)
    rw [if_pos rfl, if_pos (by omega)]
    rw [show ([48] : List UInt8) ++ [59, 120] = List.replicate 1 48 ++ [59, 120] from rfl, h1, hend]
    rfl
  · rw [if_neg h, rnL_dd hb _ n]
    by_cases h2 : n ≤ 1114111
    · rw [if_pos h2, if_pos h2, hend]
      simp only [Nat.add_assoc]
    · rw [if_neg h2, if_neg h2]
      simp only [Nat.add_assoc]
end Rf
end Go.Proofs.YtbbbokkfhfmoeabDoor
