/-
  WALKS over gimletlaw16.into, asked.
-/
import Derived.Test.YtddinjgpoillgaaDoorHtNew
import Derived.Test.YtddinjgpoillgaaDoorHtClose
import Derived.Deep.RegionHeld
namespace Go.Proofs.YtddinjgpoillgaaDoor
open Go.RowKit Go.Lib
namespace Ht
/-- brought to 0 .. m - 1 -/
def inz (x : Int) (m : Nat) : Nat := (Int.tmod (Int.tmod x m + m) m).toNat
theorem inz_lt (x : Int) {m : Nat} (h : 0 < m) : inz x m < m := by
  have b4 : Int.tmod (Int.tmod x m + m) m < m := Int.tmod_lt_of_pos _ (by omega)
  unfold inz
  omega
end Ht
set_option maxHeartbeats 400000 in
theorem htInto (x : Int) (m : Nat) (w : World) (hm : 0 < m) (hm2 : m ≤ 1099511627776) :
    Calls Tryd.prog 10 #[.int .i64 x, .int .i64 m] w fun e w' => e = .returned (.int .i64 (Ht.inz x m : Nat)) ∧ w' = w := by
  have h1 : ((m : Int) == 0) = false := by simp; omega
  have h1' : ¬ (m : Int) = 0 := by omega
  have b1 : -(m : Int) < Int.tmod x m := Int.lt_tmod_of_pos x (b := (m : Int)) (by omega)
  have b2 : Int.tmod x m < m := Int.tmod_lt_of_pos x (by omega)
  have hz : (Ht.inz x m : Int) = Int.tmod (Int.tmod x m + m) m := by
    have b3 : 0 ≤ Int.tmod (Int.tmod x m + m) m := Int.tmod_nonneg _ (by omega)
    unfold Ht.inz
    omega
  have hlt := Ht.inz_lt x hm
  generalize Ht.inz x m = y at *
  obtain ⟨t, ht⟩ : ∃ t, Int.tmod x m = t := ⟨_, rfl⟩
  rw [ht] at b1 b2 hz
  have hz2 := hz.symm
  clear hz
  go_enter Tryd.func10, Tryd.ntmps10
  go_wp2
  go_ret
  exact ⟨rfl, rfl⟩
namespace Ht
theorem keep3 {w w' : World} {a b c : Addr} {x y z : Value} (h : w.cell? a = some x ∧ w.cell? b = some y ∧ w.cell? c = some z) (k : Below w.heap.size w w') : w'.cell? a = some x ∧ w'.cell? b = some y ∧ w'.cell? c = some z :=
  ⟨(k.cell (p := a) (block_lt_of_cell h.1)).trans h.1, (k.cell (p := b) (block_lt_of_cell h.2.1)).trans h.2.1, (k.cell (p := c) (block_lt_of_cell h.2.2)).trans h.2.2⟩
/-- what asked answers of a comparison c, a text T, a number N -/
def AskE (w : World) (C : Int) (T : List Nat) (N : Int) (e : Ending) (w' : World) : Prop :=
  ∃ b, e = .returned (.tuple #[.pointer (some ⟨b, 0, none⟩), .bool true]) ∧ w.heap.size ≤ b ∧ Hu w' b (cc (inz C 9)) (tdc (inz C 9)) (cn (inz C 9) (max N 0)) T [] false ∧ Below w.heap.size w w'
end Ht
set_option maxRecDepth 100000 in
set_option maxHeartbeats 4000000 in
theorem htAsked (C N : Int) (f : Nat → Nat) (n : Nat) (w : World) (hf : ∀ j, f j < 256) (hn : n ≤ 1099511627776) (hN2 : N ≤ 9223372036854775807) :
    Calls Tryd.prog 6 #[.agg #[.int .i64 C, .string (Rn.arr f n), .int .i64 N]] w (Ht.AskE w C (Wd.R f n 0) N) := by
  have hlt := Ht.inz_lt C (m := 9) (by omega)
  have CI := hide' (fun w1 => htInto C 9 w1 (by omega) (by omega))
  obtain ⟨W, hW⟩ : ∃ W, w.alloc (.cells #[.int .i64 C, .string (Rn.arr f n), .int .i64 N] 23) = W := ⟨_, rfl⟩
  have HBW : Hid (Below w.heap.size w W) := by rw [← hW]; exact (Below.refl _ _).alloc (Nat.le_refl _) _
  have q0 : W.cell? ⟨w.heap.size, 0, none⟩ = some (.int .i64 C) := by rw [← hW]; simp
  have q1 : W.cell? ⟨w.heap.size, 1, none⟩ = some (.string (Rn.arr f n)) := by rw [← hW]; simp
  have q2 : W.cell? ⟨w.heap.size, 2, none⟩ = some (.int .i64 N) := by rw [← hW]; simp
  have HWd := hide' hW
  obtain ⟨K, hK⟩ : ∃ K : Int, max N 0 = K := ⟨_, rfl⟩
  obtain ⟨c, hc⟩ : ∃ c, Ht.inz C 9 = c := ⟨_, rfl⟩
  have CN := hide' (fun w1 => htNew c K f n w1 hf hn (by omega) (by omega) (by omega) (by omega))
  have hK2 : max N 0 = K := hK
  unfold Ht.AskE
  rw [hc] at CI hlt ⊢
  rw [hK]
  clear hW hc
  go_enter Tryd.func6, Tryd.ntmps6
  go_wp2_with fail
  rw [HWd.out]
  have xx : W.drew.cell? ⟨w.heap.size, 0, none⟩ = some (.int .i64 C) ∧ W.drew.cell? ⟨w.heap.size, 1, none⟩ = some (.string (Rn.arr f n)) ∧ W.drew.cell? ⟨w.heap.size, 2, none⟩ = some (.int .i64 N) := ⟨q0, q1, q2⟩
  clear q0 q1 q2 hlt
  go_region_held (fun w' => w'.cell? ⟨w.heap.size, 0, none⟩ = some (.int .i64 C) ∧ w'.cell? ⟨w.heap.size, 1, none⟩ = some (.string (Rn.arr f n)) ∧ w'.cell? ⟨w.heap.size, 2, none⟩ = some (.int .i64 N)) (first | (with_reducible exact xx) | (with_reducible exact zz)) (first | (go_at_call 10; refine (CI.out _).mono ?_; rintro r w' ⟨rfl, rfl⟩) | (go_at_call 17; refine (CN.out _).mono ?_; rintro r w1 ⟨b, rfl, hb1, hu1, hbb⟩; have zz := Ht.keep3 xx hbb))
  all_goals
    have HU := hide' hu1
    have HB := hide' hbb
    have H1 := hide' hb1
    clear hu1 hbb hb1 xx zz
    go_wp2_with fail
    refine bodyPost_ret (v := .tuple #[.pointer (some ⟨b, 0, none⟩), .bool true]) (by simp [results, Tryd.results6, go_sem]) rfl ?_
    exact ⟨b, rfl, Nat.le_trans HBW.out.size H1.out, HU.out, HBW.out.drew.trans (HB.out.mono HBW.out.size)⟩
end Go.Proofs.YtddinjgpoillgaaDoor
