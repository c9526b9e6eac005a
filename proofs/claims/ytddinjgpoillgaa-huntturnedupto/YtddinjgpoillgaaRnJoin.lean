/-
  WALKS over runes.Join; Mend, MendParts and Good of texts that are characters all through; a text's bytes.
-/
import Derived.Test.YtddinjgpoillgaaRnMm
import Derived.Test.YtddinjgpoillgaaRnTk
namespace Go.Proofs.Ytddinjgpoillgaa
open Go.RowKit Go.Shelf

namespace Rn
theorem encode_scal (r : Nat) (hr : scal r) : Utf8.encode (r : Int) = ⟨(Lib.encodeRune r).toArray⟩ := by
  have hw : want r = r := by
    unfold want
    unfold scal at hr
    rw [if_neg (by omega)]
  have h := encode_arr r
  rw [hw] at h
  rw [h, ← arr_lf, enc_length]
  unfold arr
  apply congrArg ByteArray.mk
  apply congrArg Array.ofFn
  funext i
  rw [enc_get]
theorem runesBytes_from : ∀ (L : List Nat), (∀ r ∈ L, scal r) → ∀ s : List UInt8, (L.map (fun r : Nat => (r : Int))).foldl (fun r n => r ++ Utf8.encode n) (⟨s.toArray⟩ : ByteArray) = ⟨(s ++ cat L).toArray⟩
  | [], _, s => by simp [cat]
  | r :: L, hL, s => by
    rw [List.map_cons, List.foldl_cons, encode_scal r (hL r (by simp)), cat_cons]
    have := runesBytes_from L (fun q hq => hL q (by simp [hq])) (s ++ Lib.encodeRune r)
    rw [← List.append_assoc, ← this]
    rfl
theorem runesBytes_tx (L : List Nat) (hL : ∀ r ∈ L, scal r) : runesBytes (L.map (fun r : Nat => (r : Int))) = tx L := by
  have := runesBytes_from L hL []
  rw [tx, arr_lf]
  exact this
end Rn

set_option maxHeartbeats 1000000 in
theorem join_any (zs : List Int) (g o cap : Nat) (w : World) (hc : ∀ j, j < zs.length → w.cell? ⟨g, o + j, none⟩ = some (.int .i32 (zs.getD j 0))) :
    Calls Try.prog 18 #[.slice (some ⟨g, o, none⟩) zs.length cap] w fun e w' => e = .returned (.string (runesBytes zs)) ∧ w' = w := by
  have h := run_convert_runes (P := Try.prog) w 46 9 21 ⟨g, o, none⟩ zs.length cap zs (Nat.le_refl _) Try.underlying46 Try.underlying21 Try.underlying9 (fun j hj => by
    have e : (Addr.add ⟨g, o, none⟩ j) = ⟨g, o + j, none⟩ := by simp [Addr.add]
    rw [e]
    exact hc j hj)
  rw [List.take_length] at h
  go_enter Try.func18, Try.ntmps18
  go_wp2
  go_ret
  exact ⟨rfl, rfl⟩
theorem join_cat (L : List Nat) (hL : ∀ r ∈ L, Rn.scal r) (g cap : Nat) (w : World) (h : Lie w g L) :
    Calls Try.prog 18 #[.slice (some ⟨g, 0, none⟩) L.length cap] w fun e w' => e = .returned (.string (Rn.tx L)) ∧ w' = w := by
  have c := join_any (L.map (fun r : Nat => (r : Int))) g 0 cap w (fun j hj => by
    rw [List.length_map] at hj
    rw [h j hj]
    simp [hj])
  rw [List.length_map, Rn.runesBytes_tx L hL] at c
  exact c

/-- a text's bytes, in new memory -/
theorem conv_bytes (f : Nat → Nat) (n : Nat) (w : World) (hf : ∀ j, f j < 256) (hbig : n ≤ 70368744177664) :
    ∃ cap W, (convert 9 71 (.string (Rn.arr f n))).run Try.prog w = .ok (.slice (some ⟨w.heap.size, 0, none⟩) n cap) W ∧ n ≤ cap ∧ cap ≤ maxLen ∧ Bytes W w.heap.size 0 n f ∧ Below w.heap.size w W ∧ W.heap.size = w.heap.size + 1 := by
  have h := Lib.run_convert_string_bytes (P := Try.prog) w 9 71 5 (Rn.arr f n) Try.underlying9 Try.underlying71 Try.underlying5
  rw [Rn.arr_size] at h
  exact ⟨_, _, h, grownCap_ge _ _ _ _, grownCap_le_maxLen _ _ _ _ (by unfold maxLen; omega), bytes_bytesWorld w 5 f n hf, below_bytesWorld w 5 _, Lib.bytesWorld_size _ _ _⟩
end Go.Proofs.Ytddinjgpoillgaa
