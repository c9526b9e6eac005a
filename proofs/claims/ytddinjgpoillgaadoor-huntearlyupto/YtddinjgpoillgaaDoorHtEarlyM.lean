/-
  THE MATHEMATICS of gimletlaw16.HuntEarly.
-/
import Derived.Test.YtddinjgpoillgaaDoorHtOnceM
import Derived.Test.YtddinjgpoillgaaDoorHtWordsM
namespace Go.Proofs.YtddinjgpoillgaaDoor
open Go.RowKit Go.Lib
namespace Ht
/-- so many noughts -/
def nul (d : Int) : List Nat := if 0 < d ∧ d < 2000 then List.replicate d.toNat 0 else []
/-- what is added in the round i -/
def zi (T X : List Nat) (K : Int) (o : Nat) (i : Nat) : List Nat :=
  if i = 1 then T else if i = 2 then T.drop X.length else if i = 3 then nul (K - X.length) else if i = 4 then nul (K + 1 - X.length) else if i = 5 then [o] else []
/-- Truth behind it -/
def vi (c : Nat) (T X : List Nat) (K : Int) (o i : Nat) : Int := tru (cc c) (tdc c) (cn c K) T (X ++ zi T X K o i) true
def anyv (c : Nat) (T X : List Nat) (K : Int) (o : Nat) (u : Int) (i : Nat) : Bool := (List.range i).any fun j => vi c T X K o j == u
theorem anyv_zero (c : Nat) (T X : List Nat) (K : Int) (o : Nat) (u : Int) : anyv c T X K o u 0 = false := rfl
theorem anyv_succ (c : Nat) (T X : List Nat) (K : Int) (o : Nat) (u : Int) (i : Nat) : anyv c T X K o u (i + 1) = (anyv c T X K o u i || (vi c T X K o i == u)) := by
  unfold anyv
  rw [List.range_succ, List.any_append]
  simp
theorem early_known {c : Int} (hc : cok c) {td : Bool} {N : Int} {T X : List Nat} (h : tru c td N T X false ≠ 1) (Y : List Nat) : tru c td N T (X ++ Y) true = tru c td N T X false := by
  have h1 := tru_stay h Y
  rw [← h1]
  exact tru_end hc (by rw [h1]; exact h)
theorem vi_two {c : Nat} (hc : c < 9) {T X : List Nat} {K : Int} {o i : Nat} (h : wantP c T (X ++ zi T X K o i) K) : vi c T X K o i = 2 := by
  unfold vi
  rw [tru_want hc T _ K true (by simpa using h)]
  rfl
theorem vi_nought {c : Nat} (hc : c < 9) {T X : List Nat} {K : Int} {o i : Nat} (h : ¬ wantP c T (X ++ zi T X K o i) K) : vi c T X K o i = 0 := by
  unfold vi
  rw [tru_want hc T _ K false (by simpa using h)]
  rfl
theorem anyv_of {c : Nat} {T X : List Nat} {K : Int} {o : Nat} {u : Int} {i : Nat} (hi : i < 6) (h : vi c T X K o i = u) : anyv c T X K o u 6 = true := by
  unfold anyv
  rw [List.any_eq_true]
  exact ⟨i, List.mem_range.2 hi, by simp [h]⟩
theorem pre_rest {T X : List Nat} (h : X <+: T) : X ++ T.drop X.length = T := by
  obtain ⟨t, rfl⟩ := h
  simp
theorem nul_len {d : Int} (h0 : 0 ≤ d) (h1 : d < 2000) : ((nul d).length : Int) = d := by
  unfold nul
  by_cases e : 0 < d
  · simp [e, h1]; omega
  · have : d = 0 := by omega
    simp [this]
theorem early_open {c : Nat} (hc : c < 9) {T X : List Nat} {K : Int} {o : Nat} (hu : tru (cc c) (tdc c) (cn c K) T X false = 1) (h4 : c = 4 → T ≠ []) (ho : ¬ [o] <:+ T) (hK : K < 1900) :
    anyv c T X K o 2 6 = true ∧ anyv c T X K o 0 6 = true := by
  have z0 : X ++ zi T X K o 0 = X := by simp [zi]
  have z1 : zi T X K o 1 = T := by simp [zi]
  have z2 : zi T X K o 2 = T.drop X.length := by simp [zi]
  have z3 : zi T X K o 3 = nul (K - X.length) := by simp [zi]
  have z4 : zi T X K o 4 = nul (K + 1 - X.length) := by simp [zi]
  have z5 : zi T X K o 5 = [o] := by simp [zi]
  have hne : X ++ [o] ≠ T := fun e => ho ⟨X, e⟩
  have n1 : ∀ t : Int, (t = 0 ∨ t = 1 ∨ t = 2) → no t = 1 → t = 1 := fun t h => by rcases h with rfl | rfl | rfl <;> simp [no]
  rcases (show c = 0 ∨ c = 1 ∨ c = 2 ∨ c = 3 ∨ c = 4 ∨ c = 5 ∨ c = 6 ∨ c = 7 ∨ c = 8 by omega) with rfl | rfl | rfl | rfl | rfl | rfl | rfl | rfl | rfl
  · simp [tru, cc, tdc, opn] at hu
  · simp only [tru, cc, tdc, cn, opn] at hu
    by_cases e : X <+: T
    · exact ⟨anyv_of (i := 2) (by omega) (vi_two hc (by rw [z2, pre_rest e]; simp [wantP])), anyv_of (i := 5) (by omega) (vi_nought hc (by rw [z5]; simpa [wantP] using hne))⟩
    · simp [e] at hu
  · have hu2 : opn 1 T K X = 1 := n1 _ (opn_rng _ _ _ _) (by simpa [tru, cc, tdc, cn] using hu)
    simp only [opn] at hu2
    by_cases e : X <+: T
    · exact ⟨anyv_of (i := 5) (by omega) (vi_two hc (by rw [z5]; simpa [wantP] using hne)), anyv_of (i := 2) (by omega) (vi_nought hc (by rw [z2, pre_rest e]; simp [wantP]))⟩
    · simp [e] at hu2
  · simp only [tru, cc, tdc, cn, opn] at hu
    by_cases e : T <+: X
    · simp [e] at hu
    · by_cases k : X <+: T
      · exact ⟨anyv_of (i := 2) (by omega) (vi_two hc (by rw [z2, pre_rest k]; simp [wantP])), anyv_of (i := 0) (by omega) (vi_nought hc (by rw [z0]; simpa [wantP] using e))⟩
      · simp [e, k] at hu
  · refine ⟨anyv_of (i := 1) (by omega) (vi_two hc (by rw [z1]; simp [wantP])), anyv_of (i := 5) (by omega) (vi_nought hc (by
      rw [z5]
      simp only [wantP]
      simp
      intro h
      rcases List.suffix_concat_iff.1 h with e | ⟨t, e, _⟩
      · exact h4 rfl e
      · exact ho ⟨t, e.symm⟩))⟩
  · simp only [tru, cc, tdc, cn, opn] at hu
    by_cases e : T <:+: X
    · simp [e] at hu
    · exact ⟨anyv_of (i := 1) (by omega) (vi_two hc (by rw [z1]; simp [wantP]; exact (List.suffix_append X T).isInfix)), anyv_of (i := 0) (by omega) (vi_nought hc (by rw [z0]; simpa [wantP] using e))⟩
  · simp only [tru, cc, tdc, cn, opn] at hu
    by_cases e : K < X.length
    · simp [e] at hu
    · have l3 := nul_len (d := K - X.length) (by omega) (by omega)
      have l4 := nul_len (d := K + 1 - X.length) (by omega) (by omega)
      exact ⟨anyv_of (i := 3) (by omega) (vi_two hc (by rw [z3]; simp [wantP]; omega)), anyv_of (i := 4) (by omega) (vi_nought hc (by rw [z4]; simp [wantP]; omega))⟩
  · simp only [tru, cc, tdc, cn, opn] at hu
    by_cases e : K < X.length
    · simp [e] at hu
    · have l4 := nul_len (d := K + 1 - X.length) (by omega) (by omega)
      exact ⟨anyv_of (i := 4) (by omega) (vi_two hc (by rw [z4]; simp [wantP]; omega)), anyv_of (i := 0) (by omega) (vi_nought hc (by rw [z0]; simp [wantP]; omega))⟩
  · have hu2 : opn 7 T (K - 1) X = 1 := n1 _ (opn_rng _ _ _ _) (by simpa [tru, cc, tdc, cn] using hu)
    simp only [opn] at hu2
    by_cases e : K - 1 < X.length
    · simp [e] at hu2
    · have l3 := nul_len (d := K - X.length) (by omega) (by omega)
      exact ⟨anyv_of (i := 0) (by omega) (vi_two hc (by rw [z0]; simp [wantP]; omega)), anyv_of (i := 3) (by omega) (vi_nought hc (by rw [z3]; simp [wantP]; omega))⟩
/-- the last character is another one -/
theorem ends_two {T : List Nat} (h : [1] <:+ T) : ¬ [2] <:+ T := fun k => by
  obtain ⟨s, rfl⟩ := h
  obtain ⟨t, e⟩ := k
  have := congrArg List.getLast? e
  simp at this
theorem enc_nought : Lib.encodeRune 0 = [0] := by decide +kernel
theorem cat_nul : ∀ n : Nat, Rn.cat (List.replicate n 0) = List.replicate n 0
  | 0 => rfl
  | n + 1 => by rw [List.replicate_succ, Rn.cat_cons, cat_nul n]; simp [enc_nought, List.replicate_succ]
theorem arr_nul (n : Nat) : Rn.arr (fun _ => 0) n = Rn.arr (Rn.lf (Rn.cat (List.replicate n 0))) (Rn.cat (List.replicate n 0)).length := by
  rw [Rn.arr_lf, cat_nul]
  unfold Rn.arr
  congr 1
  apply Array.ext
  · simp
  · intro i h1 h2
    simp
theorem R_nul (n : Nat) : Wd.R (Rn.lf (Rn.cat (List.replicate n 0))) (Rn.cat (List.replicate n 0)).length 0 = List.replicate n 0 := Wd.R_cat _ fun r hr => by
  rw [List.eq_of_mem_replicate hr]
  simp [Rn.scal]
end Ht
end Go.Proofs.YtddinjgpoillgaaDoor
