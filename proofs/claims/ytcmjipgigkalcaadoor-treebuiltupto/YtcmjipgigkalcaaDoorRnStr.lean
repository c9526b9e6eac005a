/-
  WALKS over (*strings.Builder).copyCheck and WriteRune (over this program; the shelf's own proofs are of another body of copyCheck), and over runes.pieceWidth.
-/
import Derived.Test.YtcmjipgigkalcaaDoorRnAt
import Derived.Lib.ConvBytes
import Derived.Shelf.Strings.BuilderRune
namespace Go.Proofs.YtcmjipgigkalcaaDoor
open Go.RowKit Go.Lib

theorem sizeBuilder : (Tryd.prog.info? 71).map (·.size) = some 2 := by kernel_rfl
theorem liesBuilder : liesAt Tryd.prog Tryd.prog.depth 71 (2 / Tryd.prog.cellsOf 71) 0 71 1 = true := by kernel_rfl

set_option maxHeartbeats 1000000 in
set_option maxRecDepth 100000 in
theorem copyCheck_used (b : Nat) (w : World) (h0 : w.cell? ⟨b, 0, none⟩ = some (.pointer (some ⟨b, 0, none⟩))) :
    Calls Tryd.prog 45 #[.pointer (some ⟨b, 0, none⟩)] w fun e w' => e = .returned (.tuple #[]) ∧ w' = w := by
  obtain ⟨j, hj, _⟩ := Option.map_eq_some_iff.1 sizeBuilder
  go_enter Tryd.func45, Tryd.ntmps45
  go_wp2
  rw [Lib.run_neq_ptr_same w _ Tryd.underlying68 hj]
  go_wp2
  go_end0
  exact ⟨rfl, rfl⟩

set_option maxHeartbeats 1000000 in
set_option maxRecDepth 100000 in
theorem copyCheck_fresh (b : Nat) (w : World) (h0 : w.cell? ⟨b, 0, none⟩ = some (.pointer none)) (hsh : w.shape? b = some (71, 2)) (hfz : w.frozen? ⟨b, 0, none⟩ = false) :
    Calls Tryd.prog 45 #[.pointer (some ⟨b, 0, none⟩)] w fun e w' => e = .returned (.tuple #[]) ∧ w' = w.setCell ⟨b, 0, none⟩ (.pointer (some ⟨b, 0, none⟩)) := by
  obtain ⟨j, hj, hjs⟩ := Option.map_eq_some_iff.1 sizeBuilder
  go_enter Tryd.func45, Tryd.ntmps45
  go_wp2
  rw [Lib.run_to_unsafe w ⟨b, 0, none⟩ Tryd.underlying68 Tryd.underlying100 hj (by rw [hjs]; decide) hsh (Nat.zero_lt_succ 1)]
  simp only [Result.andThen]
  rw [Oper.upon_value]
  go_wp2
  rw [run_callFunc_extern Tryd.func57 (by kernel_rfl) (by kernel_rfl) (by kernel_rfl) (e := Extern.AbiNoEscape.same) (by kernel_rfl)]
  rw [Lib.run_noEscape]
  simp only [Result.andThen]
  rw [Oper.upon_value]
  go_wp2
  rw [Lib.run_from_unsafe w ⟨b, 0, none⟩ Tryd.underlying100 Tryd.underlying68 hj hsh liesBuilder]
  simp only [Result.andThen]
  rw [Oper.upon_value]
  go_wp2
  go_end0
  exact ⟨rfl, rfl⟩

theorem copyCheck_k (B b : Nat) (bs : List Value) (w : World) (h : Lib.IsBuilderF 71 5 B b bs w) :
    Calls Tryd.prog 45 #[.pointer (some ⟨b, 0, none⟩)] w fun e w' => e = .returned (.tuple #[]) ∧ (Lib.BuilderAtF 71 5 B b (.pointer (some ⟨b, 0, none⟩)) bs w' ∧ Below B w w' ∧ Lib.OthersKept 5 (some b) w w') := by
  rcases h with h | h
  · refine (copyCheck_fresh b w h.cell0 h.shape h.frozen0).mono ?_
    rintro e w' ⟨rfl, rfl⟩
    exact ⟨rfl, h.used _, (Below.refl B w).setCell (p := ⟨b, 0, none⟩) h.1 _, (Lib.OthersKept.refl _ _ w).setCell ⟨b, 0, none⟩ rfl _⟩
  · refine (copyCheck_used b w h.cell0).mono ?_
    rintro e w' ⟨rfl, rfl⟩
    exact ⟨rfl, h, Below.refl B _, Lib.OthersKept.refl _ _ _⟩

namespace Rn
/-- how many bytes the U+FFFD stands for that range gives at the front -/
def pw (f : Nat → Nat) (n : Nat) : Nat := if whole f n then fs f n else max 1 (fk f n)
theorem arr_extract (f : Nat → Nat) (n a b : Nat) (ha : a ≤ b) (hb : b ≤ n) : (arr f n).extract a b = arr (off f a) (b - a) := by
  have e : ((arr f n).extract a b).data = (arr (off f a) (b - a)).data := by
    rw [ByteArray.data_extract]
    apply Array.ext
    · simp [arr]; omega
    · intro i h1 h2
      simp [arr, off]
  exact congrArg ByteArray.mk e
theorem whole_le {f : Nat → Nat} {m n : Nat} (h : m ≤ n) (hw : whole f n = false) : whole f m = false := by
  by_cases h0 : m = 0
  · subst h0; simp [whole, fs]
  have e0 : fs f n = size (f 0) := by unfold fs; rw [if_neg (by omega)]
  have e1 : fs f m = size (f 0) := by unfold fs; rw [if_neg (by omega)]
  simp only [whole, decide_eq_false_iff_not, e0, e1] at hw ⊢
  intro ⟨c1, c2⟩
  have e2 := fk_min f h c1
  have a1 := fk_le_fs f n
  omega
theorem fk_three {f : Nat → Nat} {n : Nat} (hw : whole f n = false) : fk f (min n 3) = fk f n := by
  have a1 := fk_le_fs f n
  have a2 := fs_le f n
  have a3 := fk_le f n
  by_cases h0 : n = 0
  · subst h0; rfl
  have e0 : fs f n = size (f 0) := by unfold fs; rw [if_neg (by omega)]
  by_cases hs : size (f 0) = 0
  · rw [fk_zero _ _ hs, fk_zero _ _ hs]
  have e2 := fk_min f (m := min n 3) (n := n) (by omega) (by omega)
  simp only [whole, decide_eq_false_iff_not] at hw
  omega
end Rn

theorem ret_int {k : IntKind} {a b : Int} (h : a = b) : Ending.returned (.int k a) = .returned (.int k b) := by rw [h]
theorem below_bytesWorld (w : World) (e : TypeId) (s : ByteArray) : Below w.heap.size w (Lib.bytesWorld w e s) :=
  ⟨rfl, rfl, rfl, by rw [Lib.bytesWorld_size]; omega, fun k hk => Lib.bytesWorld_at_old w e s k hk⟩
theorem bytes_bytesWorld (w : World) (e : TypeId) (f : Nat → Nat) (m : Nat) (hf : ∀ j, f j < 256) : Bytes (Lib.bytesWorld w e (Rn.arr f m)) w.heap.size 0 m f := by
  intro j hj
  have h := Lib.bytesWorld_cell w e (Rn.arr f m) j (by rw [Rn.arr_size]; exact hj)
  rw [Nat.zero_add, h]
  have e1 : (((Rn.arr f m).data.toList.getD j 0).toNat : Nat) = f j := by
    have := hf j
    simp [Rn.arr, List.getD, hj]
    omega
  rw [e1]

end Go.Proofs.YtcmjipgigkalcaaDoor
