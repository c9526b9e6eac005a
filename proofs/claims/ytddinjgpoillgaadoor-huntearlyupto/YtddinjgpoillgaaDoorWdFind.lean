/-
  THE WALK over words.Find: the least number from which on the other text stands.
-/
import Derived.Test.YtddinjgpoillgaaDoorWdFu
import Derived.Test.YtddinjgpoillgaaDoorWdExt
import Derived.Test.YtddinjgpoillgaaDoorRnRunes
namespace Go.Proofs.YtddinjgpoillgaaDoor
open Go.RowKit Go.Lib

namespace Wd
/-- a list's numbers, by their place -/
def lg (L : List Nat) : Nat → Nat := fun j => L[j]?.getD 0
theorem drop_cons {L M : List Nat} {k r : Nat} (h : L.drop k = r :: M) : k < L.length ∧ lg L k = r ∧ L.drop (k + 1) = M := by
  have hk : k < L.length := by
    rcases Nat.lt_or_ge k L.length with h' | h'
    · exact h'
    · rw [List.drop_eq_nil_of_le h'] at h
      cases h
  rw [List.drop_eq_getElem_cons hk] at h
  simp only [List.cons.injEq] at h
  exact ⟨hk, by simp [lg, hk, h.1], h.2⟩
theorem drop_nil {L : List Nat} {k : Nat} (h : L.drop k = []) : L.length ≤ k := List.drop_eq_nil_iff.1 h
end Wd
theorem Lie.row {w : World} {g : Nat} {l : List Nat} (h : Lie w g l) : Row .i32 w g 0 l.length (Wd.lg l) := fun j hj => by
  rw [h j hj]
  simp [Wd.lg, hj]

set_option maxRecDepth 100000 in
set_option maxHeartbeats 2000000 in
theorem find_any (f : Nat → Nat) (n : Nat) (g : Nat → Nat) (m : Nat) (w : World) (hf : ∀ j, f j < 256) (hg : ∀ j, g j < 256) (hn : n ≤ 4611686018427387904) (hm : m ≤ 17592186044416) :
    Calls Tryd.prog 14 #[.string (Rn.arr f n), .string (Rn.arr g m)] w fun e w' =>
      (∃ z : Int, e = .returned (.int .i64 z) ∧ Wd.FIs (Wd.lg (Wd.R f n 0)) (Wd.R f n 0).length (Wd.lg (Wd.R g m 0)) (Wd.R g m 0).length z) ∧ Below w.heap.size w w' := by
  have hem := wd_empty g m
  by_cases h0 : m = 0
  · rw [show decide (m = 0) = true from by simp [h0]] at hem
    have hR := hide' ((Wd.R_nil g m hg).2 h0)
    clear h0
    go_enter Tryd.func14, Tryd.ntmps14
    go_wp2
    go_ret
    refine ⟨⟨0, rfl, .inr ⟨0, rfl, ?_, ?_, ?_⟩⟩, Below.refl _ _⟩
    · rw [hR.out]; simp
    · rw [hR.out]
      intro i hi
      exact absurd hi (Nat.not_lt_zero _)
    · intro k hk
      exact absurd hk (Nat.not_lt_zero _)
  · rw [show decide (m = 0) = false from by simp [h0]] at hem
    have cR := runes_any g m w hg (by omega)
    rw [Wd.R_rl] at cR
    have hmm : 0 < (Wd.R g m 0).length := by
      rcases Nat.eq_zero_or_pos (Wd.R g m 0).length with h | h
      · exact absurd ((Wd.R_nil g m hg).1 (List.length_eq_zero_iff.1 h)) h0
      · exact h
    have hml := Wd.R_length g m 0 hg
    have hsz := Rn.arr_size f n
    generalize Wd.R g m 0 = P at *
    clear h0
    go_enter Tryd.func14, Tryd.ntmps14
    go_wp2_with fail
    refine cR.mono ?_
    rintro e w1 ⟨cap, rfl, hc1, hc2, hlie, hb1, hs1, _⟩
    go_wp2_with fail
    refine (borders_any (Wd.lg P) P.length w.heap.size 0 cap w1 (by omega) hc2 hlie.row).mono ?_
    rintro e w2 ⟨rfl, cur, hw2, hcs, bf, hBd⟩
    have hb12 : Below w1.heap.size w1 w2 := by
      rw [hw2]
      exact (Below.refl _ _).alloc (Nat.le_refl _) _
    have hrow : Row .i32 w2 w.heap.size 0 P.length (Wd.lg P) := hlie.row.below hb12 (Nat.le_refl _)
    have hbor : Row .i64 w2 w1.heap.size 0 P.length bf := by
      intro j hj
      have := World.alloc_heap_new w1 (.cells cur 3)
      rw [hw2, Lib.cell_of_heap this, Nat.zero_add]
      exact hBd.get j hj
    have hb2 : Below w.heap.size w w2 := hb1.trans (hb12.mono (by omega))
    have hbd := hBd.bd
    clear hw2 hcs hBd hb12 hlie hb1 cR
    obtain ⟨b1, hbb⟩ : ∃ b1, b1 = w1.heap.size := ⟨_, rfl⟩
    rw [← hbb] at hbor ⊢
    clear hbb
    have cE : ∀ wr (l : Nat → Nat) (k q : Nat), Below w2.heap.size w2 wr → Wd.Lps (Wd.lg P) P.length l k q → q < P.length → _ := fun wr l k q hb hL hq =>
      extend_any (Wd.lg P) bf l P.length w.heap.size 0 cap b1 0 P.length q (l k) k wr hc2 (Nat.le_refl _) (by unfold maxLen; omega) (hrow.below hb (Nat.le_refl _)) (fun j hj => (hbor.below hb (Nat.le_refl _)) j (by omega)) (fun j hj => hbd j (by omega)) hL hq rfl
    clear hrow hbor hbd
    go_wp2_with fail
    go_loopw [7, 8] (fun a b wr => ∃ (pos k q : Nat), a = .int .i64 k ∧ b = .int .i64 q ∧ wr.heap[w2.heap.size]? = some (.stringIter (Rn.arr f n) pos) ∧ Hid ((Wd.R f n 0).drop k = Wd.R f n pos) ∧ k ≤ pos ∧ Hid (Wd.Lps (Wd.lg P) P.length (Wd.lg (Wd.R f n 0)) k q) ∧ q < P.length ∧
        Hid (∀ j, j + P.length ≤ k → ¬ Wd.St (Wd.lg (Wd.R f n 0)) (Wd.lg P) P.length j) ∧ Below w2.heap.size w2 wr)
      (fun _ _ wr => n - wr.iterPos w2.heap.size)
    case atStart => exact ⟨0, 0, 0, rfl, rfl, World.iter_heap w2 _ 0, rfl, Nat.le_refl _, Wd.lps_zero _ _ _, hmm, fun j hj => by omega, (Below.refl _ _).alloc (Nat.le_refl _) _⟩
    case round =>
      obtain ⟨pos, k, q, rfl, rfl, hit, hdr, hkp, hL, hq, hno, hB⟩ := hrel
      by_cases hlt : pos < n
      · have hnx : ∀ ty, (Instr.next (.pointer (some ⟨w2.heap.size, 0, none⟩)) true ty).run Tryd.prog wr = _ := fun ty => Lib.run_next_any_at wr w2.heap.size (Rn.arr f n) pos ty hit (by rw [hsz]; exact hlt)
        rw [Rn.arr_decode f n pos hf hlt] at hnx
        obtain ⟨hd1, hd2, hd3⟩ := Rn.dec_pos (Rn.off f pos) (n - pos) (fun _ => hf _) (by omega)
        have hit2 := Lib.iterAt_heap wr w2.heap.size (Rn.arr f n) pos (pos + (Rn.dec (Rn.off f pos) (n - pos)).2) hit
        have hB2 := Lib.below_iterAt hB (Nat.le_refl _) (Rn.arr f n) (pos + (Rn.dec (Rn.off f pos) (n - pos)).2)
        obtain ⟨hk1, hk2, hk3⟩ := Wd.drop_cons (hdr.out.trans (Wd.R_step f n pos hf hlt))
        have c := cE _ (Wd.lg (Wd.R f n 0)) k q hB2 hL.out hq
        rw [hk2] at c
        have H3 := hide' hk3
        clear cE hk2 hk3
        generalize (Rn.dec (Rn.off f pos) (n - pos)).1 = r at *
        generalize (Rn.dec (Rn.off f pos) (n - pos)).2 = d at *
        go_wp2_with fail
        refine c.mono ?_
        rintro e w3 ⟨x, rfl, hx, rfl⟩
        have hxl := hx.1
        have HX := hide' hx
        clear hx c
        by_cases he : x = P.length
        · have hei : ((x : Int) == (P.length : Int)) = true := by simp [he]
          have HE := hide' he
          have hxk := HX.out.2.1.1
          clear he
          go_wp2_with fail
          go_ret
          have e := HE.out
          refine ⟨⟨((k + 1 - P.length : Nat) : Int), ret_int (by omega), .inr ⟨k + 1 - P.length, rfl, by omega, ?_, fun j hj => hno.out j (by omega)⟩⟩, hb2.trans (hB2.mono hb2.size)⟩
          have hs := HX.out.2.1
          rw [e] at hs
          exact (Wd.suf_st (by omega)).1 hs
        · have hei : ((x : Int) == (P.length : Int)) = false := by simp; omega
          have HE := hide' he
          clear he
          go_wp2_with fail
          go_roundw
          case rel =>
            have e := HE.out
            refine ⟨pos + d, k + 1, x, by go_num, rfl, hit2, H3, by omega, HX, by omega, fun j hj hs => ?_, hB2⟩
            by_cases e2 : j + P.length ≤ k
            · exact hno.out j e2 hs
            · have h := HX.out.2.2 P.length (Nat.le_refl _) ((Wd.suf_st (by omega)).2 (by rwa [show k + 1 - P.length = j by omega]))
              omega
          case measure => simp only [World.iterPos, hit2, hit]; omega
      · have hnx : ∀ ty, (Instr.next (.pointer (some ⟨w2.heap.size, 0, none⟩)) true ty).run Tryd.prog wr = _ := fun ty => Lib.run_next_end_at wr w2.heap.size (Rn.arr f n) pos ty hit (by rw [hsz]; exact hlt)
        have hk := Wd.drop_nil (hdr.out.trans (Wd.R_end f n pos hlt))
        clear cE
        go_wp2_with fail
        go_ret
        exact ⟨⟨-1, rfl, .inl ⟨rfl, fun j hj => hno.out j (by omega)⟩⟩, hb2.trans (hB.mono hb2.size)⟩
end Go.Proofs.YtddinjgpoillgaaDoor
