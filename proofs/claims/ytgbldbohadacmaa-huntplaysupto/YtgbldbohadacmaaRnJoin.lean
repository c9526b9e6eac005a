/-
  WALKS over runes.Join; Mend, MendParts and Good of texts that are characters all through; a text's bytes.
-/
import Derived.Test.YtgbldbohadacmaaRnMm
import Derived.Test.YtgbldbohadacmaaRnTk
namespace Go.Proofs.Ytgbldbohadacmaa
open Go.RowKit Go.Shelf

namespace Rn
theorem encode_scal (r : Nat) (hr : scal r) : Utf8.encode (r : Int) = ⟨(Lib.encodeRune r).toArray⟩ := by
  have hw : want r = r := by
    unfold want
    unfold scal at hr
    rw [if_neg (by omega)]
  have h := encode_arr r
  rw [hw] at h
  rw [h, ← arr_lf, enc_length]
  unfold arr
  apply congrArg ByteArray.mk
  apply congrArg Array.ofFn
  funext i
  rw [enc_get]
theorem runesBytes_from : ∀ (L : List Nat), (∀ r ∈ L, scal r) → ∀ s : List UInt8, (L.map (fun r : Nat => (r : Int))).foldl (fun r n => r ++ Utf8.encode n) (⟨s.toArray⟩ : ByteArray) = ⟨(s ++ cat L).toArray⟩
  | [], _, s => by simp [cat]
  | r :: L, hL, s => by
    rw [List.map_cons, List.foldl_cons, encode_scal r (hL r (by simp)), cat_cons]
    have := runesBytes_from L (fun q hq => hL q (by simp [hq])) (s ++ Lib.encodeRune r)
    rw [← List.append_assoc, ← this]
    rfl
theorem runesBytes_tx (L : List Nat) (hL : ∀ r ∈ L, scal r) : runesBytes (L.map (fun r : Nat => (r : Int))) = tx L := by
  have := runesBytes_from L hL []
  rw [tx, arr_lf]
  exact this
end Rn

/-- a text's bytes, in new memory -/
theorem conv_bytes (f : Nat → Nat) (n : Nat) (w : World) (hf : ∀ j, f j < 256) (hbig : n ≤ 70368744177664) :
    ∃ cap W, (convert 9 62 (.string (Rn.arr f n))).run Try.prog w = .ok (.slice (some ⟨w.heap.size, 0, none⟩) n cap) W ∧ n ≤ cap ∧ cap ≤ maxLen ∧ Bytes W w.heap.size 0 n f ∧ Below w.heap.size w W ∧ W.heap.size = w.heap.size + 1 := by
  have h := Lib.run_convert_string_bytes (P := Try.prog) w 9 62 5 (Rn.arr f n) Try.underlying9 Try.underlying62 Try.underlying5
  rw [Rn.arr_size] at h
  exact ⟨_, _, h, grownCap_ge _ _ _ _, grownCap_le_maxLen _ _ _ _ (by unfold maxLen; omega), bytes_bytesWorld w 5 f n hf, below_bytesWorld w 5 _, Lib.bytesWorld_size _ _ _⟩
end Go.Proofs.Ytgbldbohadacmaa
