import Derived.Test.YtcmjipgigkalcaaDoorRnBeg
import Derived.Lib.SmallJoins
import Derived.Test.YtcmjipgigkalcaaDoorRnCat
import Derived.Test.YtcmjipgigkalcaaDoorRnAt
import Derived.Laws.CopyRow
import Derived.Test.YtcmjipgigkalcaaDoorRnMm
/-
  THE WALK over runes.Good.
-/
namespace Go.Proofs.YtcmjipgigkalcaaDoor
open Go.RowKit Go.Lib
end Go.Proofs.YtcmjipgigkalcaaDoor
/-
  WALKS over runes.New, (*Decoder).Take and (*Decoder).Pending.
-/
namespace Go.Proofs.YtcmjipgigkalcaaDoor
open Go.RowKit Go.Lib

namespace Rn
def upd (x : Nat → Nat) (n v : Nat) : Nat → Nat := fun j => if j = n then v else x j
theorem upd_lt {x : Nat → Nat} {n v : Nat} (hx : ∀ j, x j < 256) (hv : v < 256) : ∀ j, upd x n v j < 256 := by
  intro j
  unfold upd
  split
  · exact hv
  · exact hx j
end Rn

structure But (D : Nat) (w w' : World) : Prop where
  os : w'.os = w.os
  tape : w'.tape = w.tape
  output : w'.output = w.output
  size : w.heap.size ≤ w'.heap.size
  block : ∀ k, k < w.heap.size → k ≠ D → w'.heap[k]? = w.heap[k]?
theorem But.of_below {D : Nat} {w w' : World} (h : Below w.heap.size w w') : But D w w' :=
  ⟨h.os, h.tape, h.output, h.size, fun k hk _ => h.block k hk⟩
theorem But.of_alloc {D : Nat} {w w' : World} {o : Obj} (h : Below (w.alloc o).heap.size (w.alloc o) w') : But D w w' :=
  But.of_below (((Below.refl w.heap.size w).alloc (Nat.le_refl _) o).trans (h.mono (by simp)))
theorem But.trans {D : Nat} {a b c : World} (h : But D a b) (k : But D b c) : But D a c :=
  ⟨k.os.trans h.os, k.tape.trans h.tape, k.output.trans h.output, Nat.le_trans h.size k.size, fun i hi hn => (k.block i (Nat.lt_of_lt_of_le hi h.size) hn).trans (h.block i hi hn)⟩
theorem But.setCell {D : Nat} {w w' : World} {p : Addr} (h : But D w w') (hp : p.block = D) (v : Value) : But D w (w'.setCell p v) := by
  have hb := (Below.refl 0 w').setCell (p := p) (Nat.zero_le _) v
  exact ⟨hb.os.trans h.os, hb.tape.trans h.tape, hb.output.trans h.output, Nat.le_trans h.size hb.size, fun k hk hn => (Below.heap_setCell w' p v k (by rw [hp]; exact hn)).trans (h.block k hk hn)⟩
theorem But.below {D B : Nat} {w w' : World} (h : But D w w') (hB : B ≤ D) (hw : B ≤ w.heap.size) : Below B w w' :=
  ⟨h.os, h.tape, h.output, h.size, fun k hk => h.block k (by omega) (by omega)⟩

theorem But.set {D : Nat} {w w' : World} (h : But D w w') (v0 v1 v2 v3 v4 : Value) :
    But D w (((((w'.setCell ⟨D, 0, none⟩ v0).setCell ⟨D, 1, none⟩ v1).setCell ⟨D, 2, none⟩ v2).setCell ⟨D, 3, none⟩ v3).setCell ⟨D, 4, none⟩ v4) :=
  ((((h.setCell (p := ⟨D, 0, none⟩) rfl _).setCell (p := ⟨D, 1, none⟩) rfl _).setCell (p := ⟨D, 2, none⟩) rfl _).setCell (p := ⟨D, 3, none⟩) rfl _).setCell (p := ⟨D, 4, none⟩) rfl _

end Go.Proofs.YtcmjipgigkalcaaDoor
/-
  WALKS over runes.Put of no bytes.
-/
namespace Go.Proofs.YtcmjipgigkalcaaDoor
open Go.RowKit Go.Lib

theorem infoByte : (Tryd.prog.info? 5).map (fun i => (i.zero, i.size, i.bytes)) = some (some (.int .u8 0), 1, 1) := by kernel_rfl
end Go.Proofs.YtcmjipgigkalcaaDoor
/-
  Take, in the words of the bytes that come: it waits, or a character is whole.
-/
namespace Go.Proofs.YtcmjipgigkalcaaDoor
open Go.RowKit Go.Lib

namespace Rn
/-- the first k bytes, then noughts -/
def cut (f : Nat → Nat) (k : Nat) : Nat → Nat := fun j => if j < k then f j else 0
theorem cut_zero (f : Nat → Nat) : cut f 0 = fun _ => 0 := by funext j; simp [cut]
theorem cut_succ (f : Nat → Nat) (k : Nat) : upd (cut f k) k (f k) = cut f (k + 1) := by
  funext j
  unfold upd cut
  by_cases h : j = k
  · subst h; simp
  · by_cases h2 : j < k
    · rw [if_neg h, if_pos h2, if_pos (by omega)]
    · rw [if_neg h, if_neg h2, if_neg (by omega)]
theorem cut_eq (f : Nat → Nat) (k : Nat) : ∀ j, j < k → f j = cut f k j := fun j hj => by simp [cut, hj]
theorem cut_lt {f : Nat → Nat} (hf : ∀ j, f j < 256) (k : Nat) : ∀ j, cut f k j < 256 := by
  intro j
  unfold cut
  split
  · exact hf j
  · omega
/-- 'string(r)' is the bytes that Put writes -/
theorem encode_arr (r : Int) : Utf8.encode (want r) = arr (eb r) (el r) := by
  have h := eb_enc r
  have hv : Utf8.valid (want r) = true := by
    unfold Utf8.valid want
    split
    · rfl
    · simp; omega
  have hw : 0 ≤ want r := by
    unfold want
    split <;> omega
  unfold Utf8.encode
  rw [if_pos hv]
  dsimp only
  generalize (want r).toNat = v at *
  cases h with
  | one hn h0 hv =>
    rw [if_pos hv, hn]
    apply congrArg ByteArray.mk
    apply Array.ext
    · simp
    · intro i h1 h2
      simp at h1
      subst h1
      simp [h0]
  | two hn h0 h1 hv hv2 =>
    rw [if_neg (by omega), if_pos hv2, hn]
    apply congrArg ByteArray.mk
    apply Array.ext
    · simp
    · intro i g1 g2
      have : i = 0 ∨ i = 1 := by simp at g1; omega
      rcases this with rfl | rfl
      · simp [h0]
      · simp [h1]
  | three hn h0 h1 h2 hv hv2 hv3 =>
    rw [if_neg (by omega), if_neg (by omega), if_pos hv2, hn]
    apply congrArg ByteArray.mk
    apply Array.ext
    · simp
    · intro i g1 g2
      have : i = 0 ∨ i = 1 ∨ i = 2 := by simp at g1; omega
      rcases this with rfl | rfl | rfl
      · simp [h0]
      · simp [h1]
      · simp [h2]
  | four hn h0 h1 h2 h3 hv hv2 =>
    rw [if_neg (by omega), if_neg (by omega), if_neg (by omega), hn]
    apply congrArg ByteArray.mk
    apply Array.ext
    · simp
    · intro i g1 g2
      have : i = 0 ∨ i = 1 ∨ i = 2 ∨ i = 3 := by simp at g1; omega
      rcases this with rfl | rfl | rfl | rfl
      · simp [h0]
      · simp [h1]
      · simp [h2]
      · simp [h3]
end Rn

end Go.Proofs.YtcmjipgigkalcaaDoor
/-
  WALKS over runes.Join; Mend, MendParts and Good of texts that are characters all through; a text's bytes.
-/
namespace Go.Proofs.YtcmjipgigkalcaaDoor
open Go.RowKit Go.Shelf

namespace Rn
theorem encode_scal (r : Nat) (hr : scal r) : Utf8.encode (r : Int) = ⟨(Lib.encodeRune r).toArray⟩ := by
  have hw : want r = r := by
    unfold want
    unfold scal at hr
    rw [if_neg (by omega)]
  have h := encode_arr r
  rw [hw] at h
  rw [h, ← arr_lf, enc_length]
  unfold arr
  apply congrArg ByteArray.mk
  apply congrArg Array.ofFn
  funext i
  rw [enc_get]
theorem runesBytes_from : ∀ (L : List Nat), (∀ r ∈ L, scal r) → ∀ s : List UInt8, (L.map (fun r : Nat => (r : Int))).foldl (fun r n => r ++ Utf8.encode n) (⟨s.toArray⟩ : ByteArray) = ⟨(s ++ cat L).toArray⟩
  | [], _, s => by simp [cat]
  | r :: L, hL, s => by
    rw [List.map_cons, List.foldl_cons, encode_scal r (hL r (by simp)), cat_cons]
    have := runesBytes_from L (fun q hq => hL q (by simp [hq])) (s ++ Lib.encodeRune r)
    rw [← List.append_assoc, ← this]
    rfl
theorem runesBytes_tx (L : List Nat) (hL : ∀ r ∈ L, scal r) : runesBytes (L.map (fun r : Nat => (r : Int))) = tx L := by
  have := runesBytes_from L hL []
  rw [tx, arr_lf]
  exact this
end Rn

/-- a text's bytes, in new memory -/
theorem conv_bytes (f : Nat → Nat) (n : Nat) (w : World) (hf : ∀ j, f j < 256) (hbig : n ≤ 70368744177664) :
    ∃ cap W, (convert 9 69 (.string (Rn.arr f n))).run Tryd.prog w = .ok (.slice (some ⟨w.heap.size, 0, none⟩) n cap) W ∧ n ≤ cap ∧ cap ≤ maxLen ∧ Bytes W w.heap.size 0 n f ∧ Below w.heap.size w W ∧ W.heap.size = w.heap.size + 1 := by
  have h := Lib.run_convert_string_bytes (P := Tryd.prog) w 9 69 5 (Rn.arr f n) Tryd.underlying9 Tryd.underlying69 Tryd.underlying5
  rw [Rn.arr_size] at h
  exact ⟨_, _, h, grownCap_ge _ _ _ _, grownCap_le_maxLen _ _ _ _ (by unfold maxLen; omega), bytes_bytesWorld w 5 f n hf, below_bytesWorld w 5 _, Lib.bytesWorld_size _ _ _⟩
end Go.Proofs.YtcmjipgigkalcaaDoor
