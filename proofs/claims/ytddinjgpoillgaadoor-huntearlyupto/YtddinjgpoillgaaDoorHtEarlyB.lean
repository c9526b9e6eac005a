/-
  GROUND of gimletlaw16.HuntEarly's walk (gen_early.py).
-/
import Derived.Test.YtddinjgpoillgaaDoorHtEarlyM
import Derived.Test.YtddinjgpoillgaaDoorHtAwake
import Derived.Test.YtddinjgpoillgaaDoorWdLawFound
import Derived.Test.YtddinjgpoillgaaDoorWdSub
import Derived.Laws.MakeOwn
namespace Go.Proofs.YtddinjgpoillgaaDoor
open Go.RowKit Go.Lib
theorem htInfoB : (Tryd.prog.info? 5).map (fun i => (i.zero, i.size, i.bytes)) = some (some (.int .u8 0), 1, 1) := by kernel_rfl
/-- so many noughts, made -/
theorem htMake (k : Nat) (hk : k ≤ 1099511627776) (u : World) : (Instr.makeSlice 40 (.int .i64 (k : Int)) (.int .i64 (k : Int))).run Tryd.prog u = .ok (.slice (some ⟨u.heap.size, 0, none⟩) k k) (u.alloc (.cells (madeCells #[.int .u8 0] k) 5)) := by
  obtain ⟨i0, hi, hz0, hz1, hz2⟩ := info_parts htInfoB
  have h := run_make (P := Tryd.prog) u 40 5 i0 (.int .u8 0) Tryd.underlying40 hi hz0 .i64 .i64 (k : Int) (k : Int) (by omega) (Int.le_refl _) (by rw [hz2]; omega) (by omega)
  have e : ((k : Int)).toNat = k := by omega
  rw [e] at h
  simpa [hz1, Value.cells] using h
/-- .. and turned into a text -/
theorem htNulText (k : Nat) (u : World) : (convert 40 9 (.slice (some ⟨u.heap.size, 0, none⟩) k k)).run Tryd.prog (u.alloc (.cells (madeCells #[.int .u8 0] k) 5)) = .ok (.string (Rn.arr (fun _ => 0) k)) (u.alloc (.cells (madeCells #[.int .u8 0] k) 5)) := by
  refine bytes_string _ u.heap.size 0 k k (fun _ => 0) (fun _ => by show 0 < 256; omega) fun j hj => ?_
  have hh : (u.alloc (.cells (madeCells #[.int .u8 0] k) 5)).heap[u.heap.size]? = some _ := World.alloc_heap_new u _
  rw [Lib.cell_of_heap hh, Nat.zero_add]
  simp [madeCells, hj, Nat.mod_one]
theorem htAddNul {w : World} {b : Nat} {c : Int} {td : Bool} {M : Int} {T L : List Nat} (h : Ht.Hu w b c td M T L false) (k : Nat) (hk : L.length + k ≤ 4611686018427387904) :
    Calls Tryd.prog 7 #[.pointer (some ⟨b, 0, none⟩), .string (Rn.arr (fun _ => 0) k)] w fun e w' => e = .returned (.int .i64 0) ∧ Ht.Hu w' b c td M T (L ++ List.replicate k 0) false ∧ Ht.Hb b w w' := by
  rw [Ht.arr_nul]
  have hl : (Rn.cat (List.replicate k 0)).length = k := by rw [Ht.cat_nul]; simp
  have := htAdd h (Rn.lf (Rn.cat (List.replicate k 0))) (Rn.cat (List.replicate k 0)).length (Rn.lf_lt _) (by rw [hl]; exact hk)
  rw [Ht.R_nul] at this
  exact this
theorem htAddText {w : World} {b : Nat} {c : Int} {td : Bool} {M : Int} {T L : List Nat} (h : Ht.Hu w b c td M T L false) (P : List Nat) (hP : ∀ r ∈ P, Rn.scal r) (hk : L.length + 4 * P.length ≤ 4611686018427387904) :
    Calls Tryd.prog 7 #[.pointer (some ⟨b, 0, none⟩), .string (Rn.tx P)] w fun e w' => e = .returned (.int .i64 0) ∧ Ht.Hu w' b c td M T (L ++ P) false ∧ Ht.Hb b w w' := by
  have h1 := Ht.cat_le P
  have := htAdd h (Rn.lf (Rn.cat P)) (Rn.cat P).length (Rn.lf_lt _) (by omega)
  rw [Wd.R_cat P hP] at this
  exact this
theorem htSubDrop (T : List Nat) (x : Nat) : Wd.sub T x T.length = T.drop x := by
  unfold Wd.sub
  rw [show ((x : Int) + (T.length : Int)).toNat = x + T.length by omega, Int.toNat_natCast, List.take_of_length_le (by omega)]
theorem htWrap (z : Int) : IntKind.i64.wrap z = wrap64 z := by
  simp [IntKind.wrap, wrap64, IntKind.signed, IntKind.bits]
  split <;> omega
theorem keep1 {w w' : World} {a : Addr} {x : Value} (h : w.cell? a = some x) (k : Below w.heap.size w w') : w'.cell? a = some x := (k.cell (p := a) (block_lt_of_cell h)).trans h
end Go.Proofs.YtddinjgpoillgaaDoor
