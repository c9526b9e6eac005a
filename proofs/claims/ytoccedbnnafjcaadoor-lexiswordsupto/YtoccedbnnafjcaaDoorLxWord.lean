/-
  THE WALK over utf8.word at a slice of bytes: eight bytes as one number; where it has no high bits they are all below 128.
-/
import Derived.Test.YtoccedbnnafjcaaDoorLxValM
import Derived.Lib.ValidAsc
import Derived.Lib.EndianBits
import Derived.Deep.QuietTactic
import Derived.Deep.Draws
namespace Go.Proofs.YtoccedbnnafjcaaDoor
open Go.RowKit Go.Lib
namespace Lx
def w8 (f : Nat → Nat) : Nat := f 0 + f 1 * 256 + f 2 * 65536 + f 3 * 16777216 + f 4 * 4294967296 + f 5 * 1099511627776 + f 6 * 281474976710656 + f 7 * 72057594037927936
theorem w8_le (f : Nat → Nat) (hf : ∀ j, f j < 256) : w8 f = Lib.leNat [(Rn.arr f 8).get! 0, (Rn.arr f 8).get! 1, (Rn.arr f 8).get! 2, (Rn.arr f 8).get! 3, (Rn.arr f 8).get! 4, (Rn.arr f 8).get! 5, (Rn.arr f 8).get! 6, (Rn.arr f 8).get! 7] := by
  simp only [Lib.leNat, Rn.arr_get f 8 0 (by omega) (hf 0), Rn.arr_get f 8 1 (by omega) (hf 1), Rn.arr_get f 8 2 (by omega) (hf 2), Rn.arr_get f 8 3 (by omega) (hf 3), Rn.arr_get f 8 4 (by omega) (hf 4), Rn.arr_get f 8 5 (by omega) (hf 5), Rn.arr_get f 8 6 (by omega) (hf 6), Rn.arr_get f 8 7 (by omega) (hf 7)]
  unfold w8
  omega
theorem w8_lt (f : Nat → Nat) (hf : ∀ j, f j < 256) : w8 f < 18446744073709551616 := by
  rw [w8_le f hf]
  exact Lib.word_lt _
/-- no high bits: all eight are below 128 -/
theorem w8_asc (f : Nat → Nat) (hf : ∀ j, f j < 256) (h : w8 f &&& 9259542123273814144 = 0) : ∀ j, j < 8 → f j < 128 := by
  rw [w8_le f hf] at h
  have hz : 8 ≤ (Rn.arr f 8).size := by rw [Rn.arr_size]; omega
  have ha := (Lib.word_asc (Rn.arr f 8) hz).1 h
  intro j hj
  have hb := ha (f j).toUInt8 (by
    rw [List.mem_iff_getElem?]
    refine ⟨j, ?_⟩
    rw [List.getElem?_take, if_pos hj]
    exact (arr_get? f 8 hf j (f j) (hf j)).2 ⟨hj, rfl⟩)
  have := hf j
  simp at hb
  omega
end Lx
set_option maxHeartbeats 8000000 in
set_option maxRecDepth 100000 in
theorem word_any (f : Nat → Nat) (b o m : Nat) (w : World) (hf : ∀ j, f j < 256) (h8 : 8 ≤ m) (hp : Bytes w b o m f) :
    Calls Tryd.prog 41 #[.slice (some ⟨b, o, none⟩) m m] w fun e w' => e = .returned (.int .u64 (Lx.w8 f)) ∧ ∃ q, w' = w.drewN q := by
  unfold Lx.w8
  have c0 : w.cell? ⟨b, o, none⟩ = some (.int .u8 (f 0)) := by simpa using hp 0 (by omega)
  have c1 := hp 1 (by omega)
  have c2 := hp 2 (by omega)
  have c3 := hp 3 (by omega)
  have c4 := hp 4 (by omega)
  have c5 := hp 5 (by omega)
  have c6 := hp 6 (by omega)
  have c7 := hp 7 (by omega)
  have l0 := hf 0
  have l1 := hf 1
  have l2 := hf 2
  have l3 := hf 3
  have l4 := hf 4
  have l5 := hf 5
  have l6 := hf 6
  have l7 := hf 7
  have i0 : (0 : Int) < m := by omega
  have i1 : (1 : Int) < m := by omega
  have i2 : (2 : Int) < m := by omega
  have i3 : (3 : Int) < m := by omega
  have i4 : (4 : Int) < m := by omega
  have i5 : (5 : Int) < m := by omega
  have i6 : (6 : Int) < m := by omega
  have i7 : (7 : Int) < m := by omega
  clear hp hf h8
  generalize f 0 = x0 at *
  generalize f 1 = x1 at *
  generalize f 2 = x2 at *
  generalize f 3 = x3 at *
  generalize f 4 = x4 at *
  generalize f 5 = x5 at *
  generalize f 6 = x6 at *
  generalize f 7 = x7 at *
  have hv : ((x0 + x1 * 256 + x2 * 65536 + x3 * 16777216 + x4 * 4294967296 + x5 * 1099511627776 + x6 * 281474976710656 + x7 * 72057594037927936 : Nat) : Int) = (x0 : Int) + (x1 : Int) * 256 + (x2 : Int) * 65536 + (x3 : Int) * 16777216 + (x4 : Int) * 4294967296 + (x5 : Int) * 1099511627776 + (x6 : Int) * 281474976710656 + (x7 : Int) * 72057594037927936 := by omega
  rw [hv]
  clear hv
  go_enter Tryd.func41, Tryd.ntmps41
  go_wp2
  go_quiet (fail)
  go_wp2
  go_ret
  refine ⟨?_, _, rfl⟩
  simp (disch := omega) only [u64_or8, u64_or16, u64_or24, u64_or32, u64_or40, u64_or48, u64_or56]
  rfl
end Go.Proofs.YtoccedbnnafjcaaDoor
