/-
  THE WALK over gimletlaw05.RefsNumbers.
-/
import Derived.Test.YtbbbokkfhfmoeabDoorRfDigits
namespace Go.Proofs.YtbbbokkfhfmoeabDoor
open Go.RowKit Go.Lib

theorem arr_lfn (l : List UInt8) : Rn.arr (Rf.lfn l) l.length = ⟨l.toArray⟩ := by
  have e : (Rn.arr (Rf.lfn l) l.length).data = l.toArray := by
    apply Array.ext
    · simp [Rn.arr]
    · intro i h1 h2
      simp [Rn.arr, Rf.lfn]
  exact congrArg ByteArray.mk e
theorem rfConv (l : List UInt8) (w : World) (hbig : l.length ≤ 9223372036854775807) :
    ∃ cap W, (convert 9 22 (.string ⟨l.toArray⟩)).run Tryd.prog w = .ok (.slice (some ⟨w.heap.size, 0, none⟩) l.length cap) W ∧ l.length ≤ cap ∧ cap ≤ maxLen ∧ Bytes W w.heap.size 0 l.length (Rf.lfn l) ∧ Below w.heap.size w W ∧ W.heap.size = w.heap.size + 1 := by
  have h := Lib.run_convert_string_bytes (P := Tryd.prog) w 9 22 5 (Rn.arr (Rf.lfn l) l.length) Tryd.underlying9 Tryd.underlying22 Tryd.underlying5
  rw [Rn.arr_size, arr_lfn] at h
  have hb := bytes_bytesWorld w 5 (Rf.lfn l) l.length (Rf.lfn_lt l)
  rw [arr_lfn] at hb
  exact ⟨_, _, h, grownCap_ge _ _ _ _, grownCap_le_maxLen _ _ _ _ (by unfold maxLen; omega), hb, below_bytesWorld w 5 _, Lib.bytesWorld_size _ _ _⟩

namespace Rf
theorem isT_le {c : Int} {n : Nat} (h : Ch.isT Ch.tab c (n : Int) = true) : n ≤ 1114111 := by
  have hall : ∀ s ∈ Ch.tab, s.2.2 ≤ 1114111 := by decide +kernel
  revert h hall
  generalize Ch.tab = t
  induction t with
  | nil => intro h; cases h
  | cons s t ih =>
    intro h hall
    rw [Ch.isT_cons] at h
    split at h
    · next q =>
      have := hall s (List.mem_cons_self ..)
      omega
    · exact ih h (fun x hx => hall x (List.mem_cons_of_mem _ hx))
/-- what Read answers of such a number -/
def ans (base k n a : Nat) : Nat × Nat × Nat := if n ≤ 1114111 then (if Ch.isT Ch.tab 0 (n : Int) = true then (n, a + (nums base k n).length + 1, 0) else (0, a + (nums base k n).length, 2)) else (0, a + (nums base k n).length - cnt base n, 2)
theorem nums_len (base k n : Nat) (hb : 2 ≤ base) : (nums base k n).length ≤ k + n + 1 ∧ 0 < (nums base k n).length ∧ cnt base n ≤ (nums base k n).length := by
  have h1 := dd_length hb n
  have h2 := cnt_len hb n
  unfold nums dg
  rw [List.length_append, List.length_replicate]
  by_cases h : n = 0
  · subst h
    rw [if_pos rfl, cnt_le (by omega)]
    simp
  · have h3 : 0 < (dd base n).length := by rw [dd_pos hb (by omega)]; simp
    rw [if_neg h]
    omega
theorem nums_head0 : ∀ k : Fin 10, (ch k.val).toNat ≠ 120 := by decide +kernel
theorem dd_head (n : Nat) (hn : 0 < n) : ∃ x r, dd 10 n = x :: r ∧ x.toNat ≠ 120 := by
  induction n using Nat.strongRecOn with
  | ind n ih =>
    rw [dd_pos (by omega) hn]
    by_cases h : n / 10 = 0
    · rw [h, dd_zero]
      exact ⟨_, _, rfl, nums_head0 ⟨n % 10, Nat.mod_lt _ (by omega)⟩⟩
    · obtain ⟨x, r, e, hx⟩ := ih (n / 10) (Nat.div_lt_self hn (by omega)) (by omega)
      rw [e]
      exact ⟨x, _, rfl, hx⟩
theorem nums_head (k n : Nat) : ∃ x r, nums 10 k n = x :: r ∧ x.toNat ≠ 120 := by
  unfold nums
  cases k with
  | succ k => exact ⟨48, _, rfl, by decide⟩
  | zero =>
    unfold dg
    by_cases h : n = 0
    · rw [if_pos h]; exact ⟨48, [], rfl, by decide⟩
    · rw [if_neg h]; exact dd_head n (by omega)
theorem rd_dec (k n : Nat) (l : List UInt8) (hl : l = [38, 35] ++ (nums 10 k n ++ [59, 120])) : rdN (lfn l) l.length = ans 10 k n 2 := by
  obtain ⟨x, r, e, hx⟩ := nums_head k n
  have h2 : lfn l 2 ≠ 120 := by subst hl; rw [e]; exact hx
  unfold rdN
  rw [if_neg (fun h => h2 h.2), rn_list l 10 4 _ 2 0 rfl (by subst hl; simp), show l.drop 2 = nums 10 k n ++ [59, 120] by subst hl; rfl, rnL_nums (.inl ⟨rfl, rfl⟩)]
  rfl
theorem rd_hex (k n : Nat) (l : List UInt8) (hl : l = [38, 35, 120] ++ (nums 16 k n ++ [59, 120])) : rdN (lfn l) l.length = ans 16 k n 3 := by
  unfold rdN
  rw [if_pos ⟨by subst hl; simp, by subst hl; rfl⟩, rn_list l 16 5 _ 3 0 rfl (by subst hl; simp), show l.drop 3 = nums 16 k n ++ [59, 120] by subst hl; rfl, rnL_nums (.inr ⟨rfl, rfl⟩)]
  rfl
end Rf


end Go.Proofs.YtbbbokkfhfmoeabDoor
