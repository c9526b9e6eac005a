/-
  THE WALK over words.Sub.
-/
import Derived.Test.YtddinjgpoillgaaDoorWdFind
import Derived.Test.YtddinjgpoillgaaDoorRnJoin
import Derived.Test.YtddinjgpoillgaaDoorRnMend
namespace Go.Proofs.YtddinjgpoillgaaDoor
open Go.RowKit Go.Shelf

namespace Wd
/-- what has been written when k characters have been gone through -/
def sb (L : List Nat) (a X k : Nat) : List Nat := (L.take (min k X)).drop a
theorem sb_skip (L : List Nat) (a X k : Nat) (h : k < a) : sb L a X (k + 1) = sb L a X k := by
  unfold sb
  rw [List.drop_eq_nil_of_le (by simp; omega), List.drop_eq_nil_of_le (by simp; omega)]
theorem sb_put {L M : List Nat} {a X k r : Nat} (h1 : a ≤ k) (h2 : k < X) (h : L.drop k = r :: M) : sb L a X (k + 1) = sb L a X k ++ [r] := by
  obtain ⟨hk, hr, _⟩ := drop_cons h
  unfold sb
  rw [show min (k + 1) X = k + 1 by omega, show min k X = k by omega, List.take_succ_eq_append_getElem hk, List.drop_append_of_le_length (by simp; omega)]
  congr 2
  simp [lg, hk] at hr
  exact hr
theorem sb_past (L : List Nat) (a X k : Nat) (h : X ≤ k) : sb L a X k = (L.take X).drop a := by
  unfold sb
  rw [show min k X = X by omega]
theorem sb_end (L : List Nat) (a X k : Nat) (h : L.length ≤ k) : sb L a X k = (L.take X).drop a := by
  unfold sb
  by_cases e : X ≤ k
  · rw [show min k X = X by omega]
  · rw [show min k X = k by omega, List.take_of_length_le h, List.take_of_length_le (by omega)]
theorem sb_zero (L : List Nat) (a X : Nat) : sb L a X 0 = [] := by simp [sb]
theorem sb_length (L : List Nat) (a X k : Nat) : (sb L a X k).length ≤ k := by simp [sb]; omega
theorem cat_length (L : List Nat) : (Rn.cat L).length ≤ 4 * L.length := by
  induction L with
  | nil => simp [Rn.cat]
  | cons r L ih =>
    rw [Rn.cat_cons, List.length_append, Rn.enc_length]
    have h := Lib.runeCells_le (r : Int)
    rw [Lib.runeCells_length] at h
    rw [Rn.enc_length] at h
    simp
    omega
theorem sub_neg (L : List Nat) (from' count : Int) (h : count ≤ 0) : sub L from' count = [] := by
  unfold sub
  rw [List.drop_eq_nil_of_le (by simp; omega)]
end Wd

theorem tx_eq (L : List Nat) : Rn.tx L = ⟨(Rn.cat L).toArray⟩ := by rw [Rn.tx, Rn.arr_lf]

theorem builder_iterAt {N b K p : Nat} {bs : List Value} {W : World} {s s' : ByteArray} {q : Nat} (h : Lib.IsBuilderF 62 5 N b bs W) (hit : W.heap[K]? = some (.stringIter s' q)) : Lib.IsBuilderF 62 5 N b bs (W.iterAt K s p) :=
  builder_kept h (fun k o h1 h2 => by
    rw [Lib.iterAt_other W K k s p (fun e => by subst e; rw [hit] at h1; cases h1; cases h2)]
    exact h1)

set_option maxRecDepth 100000 in
set_option maxHeartbeats 2000000 in
theorem sub_any (f : Nat → Nat) (n : Nat) (from' count : Int) (w : World) (hf : ∀ j, f j < 256) (hn : n ≤ 1099511627776) (hf1 : -9223372036854775808 ≤ from') (hf2 : from' ≤ 9223372036854775807) (hc1 : -9223372036854775808 ≤ count) (hc2 : count ≤ 9223372036854775807) :
    Calls Tryd.prog 16 #[.string (Rn.arr f n), .int .i64 from', .int .i64 count] w fun e w' => e = .returned (.string (Rn.tx (Wd.sub (Wd.R f n 0) from' count))) ∧ Below w.heap.size w w' := by
  by_cases h0 : count ≤ 0
  · rw [Wd.sub_neg _ _ _ h0]
    go_enter Tryd.func16, Tryd.ntmps16
    go_wp2
    go_ret
    exact ⟨by rw [tx_eq]; rfl, Below.refl _ _⟩
  · have hsz := Rn.arr_size f n
    by_cases h1 : from' < 0
    · have hsub : Hid (Wd.sub (Wd.R f n 0) from' count = ((Wd.R f n 0).take (from' + count).toNat).drop 0) := by
        show Wd.sub _ _ _ = _
        unfold Wd.sub
        rw [show from'.toNat = 0 by omega]
      obtain ⟨c, hc⟩ : ∃ c, from' + count = c := ⟨_, rfl⟩
      have hcl : c ≤ 9223372036854775807 := by omega
      rw [hc] at hsub
      go_enter Tryd.func16, Tryd.ntmps16
      go_wp2_with fail
      obtain ⟨W0, hW0⟩ : ∃ W0, (w.alloc (.cells #[.pointer none, .slice none 0 0] 62)) = W0 := ⟨_, rfl⟩
      have hs0 : W0.heap.size = w.heap.size + 1 := by
        subst hW0
        simp
      have hI0 : Lib.IsBuilderF 62 5 w.heap.size w.heap.size (Lib.byteCells (Rn.cat [])) W0 := by
        subst hW0
        exact Lib.IsBuilderF.of (Lib.fresh_isBuilder 62 5 w)
      have hb0 : Below w.heap.size w W0 := by
        subst hW0
        exact (Below.refl _ _).alloc (Nat.le_refl _) _
      rw [hW0]
      clear hW0
      go_loopw [8] (fun b wr => ∃ (pos k : Nat), b = .int .i64 k ∧ wr.heap[w.heap.size + 1]? = some (.stringIter (Rn.arr f n) pos) ∧ Hid ((Wd.R f n 0).drop k = Wd.R f n pos) ∧ k ≤ pos ∧ Lib.IsBuilderF 62 5 w.heap.size w.heap.size (Lib.byteCells (Rn.cat (Wd.sb (Wd.R f n 0) 0 c.toNat k))) wr ∧ Below w.heap.size w wr)
        (fun _ wr => n - wr.iterPos (w.heap.size + 1))
      case atStart =>
        refine ⟨0, 0, rfl, ?_, rfl, Nat.le_refl _, ?_, hb0.alloc (by omega) _⟩
        · have := World.alloc_heap_new W0 (.stringIter (Rn.arr f n) 0)
          rwa [hs0] at this
        · rw [Wd.sb_zero]
          exact hI0.alloc _
      case round =>
        clear hI0 hb0
        obtain ⟨pos, k, rfl, hit, hdr, hkp, hO, hB⟩ := hrel
        have hlen := Wd.cat_length (Wd.sb (Wd.R f n 0) 0 c.toNat k)
        have hlen2 := Wd.sb_length (Wd.R f n 0) 0 c.toNat k
        have hwr : w.heap.size + 1 < wr.heap.size := (Array.getElem?_eq_some_iff.1 hit).1
        by_cases hlt : pos < n
        · have hnx : ∀ ty, (Instr.next (.pointer (some ⟨w.heap.size + 1, 0, none⟩)) true ty).run Tryd.prog wr = _ := fun ty => Lib.run_next_any_at wr (w.heap.size + 1) (Rn.arr f n) pos ty hit (by rw [hsz]; exact hlt)
          rw [Rn.arr_decode f n pos hf hlt] at hnx
          obtain ⟨hd1, hd2, hd3⟩ := Rn.dec_pos (Rn.off f pos) (n - pos) (fun _ => hf _) (by omega)
          have hr2 := Rn.dec_lt (Rn.off f pos) (n - pos) (fun _ => hf _) (by omega)
          have hit2 := Lib.iterAt_heap wr (w.heap.size + 1) (Rn.arr f n) pos (pos + (Rn.dec (Rn.off f pos) (n - pos)).2) hit
          have hB2 := Lib.below_iterAt hB (by omega : w.heap.size ≤ w.heap.size + 1) (Rn.arr f n) (pos + (Rn.dec (Rn.off f pos) (n - pos)).2)
          have hO2 := builder_iterAt (s := Rn.arr f n) (p := pos + (Rn.dec (Rn.off f pos) (n - pos)).2) hO hit
          have hdr2 := hdr.out.trans (Wd.R_step f n pos hf hlt)
          have H3 := hide' (Wd.drop_cons hdr2).2.2
          have HD := hide' hdr2
          have hW2 : w.heap.size + 1 < (wr.iterAt (w.heap.size + 1) (Rn.arr f n) (pos + (Rn.dec (Rn.off f pos) (n - pos)).2)).heap.size := (Array.getElem?_eq_some_iff.1 hit2).1
          clear hdr hdr2 hO hB
          generalize (Rn.dec (Rn.off f pos) (n - pos)).1 = r at *
          generalize (Rn.dec (Rn.off f pos) (n - pos)).2 = d at *
          generalize wr.iterAt (w.heap.size + 1) (Rn.arr f n) (pos + d) = W2 at *
          by_cases hc : c ≤ (k : Int)
          · have hck : c ≤ (k : Int) := hc
            rw [Wd.sb_past _ _ _ _ (by omega)] at hO2
            clear hlen hlen2 HD
            go_wp2_with fail
            refine (Tryd.Builder_String_any_k w.heap.size w.heap.size _ W2 hO2 (by omega)).mono ?_
            rintro e W3 ⟨rfl, _, b3, _⟩
            go_wp2_with fail
            go_ret
            exact ⟨by rw [hsub.out, tx_eq]; rfl, hB2.trans b3⟩
          · have hck : (k : Int) < c := by omega
            have HP := hide' (Wd.sb_put (a := 0) (X := c.toNat) (by omega) (by omega) HD.out)
            clear HD
            go_wp2_with fail
            refine (writeRune_k w.heap.size w.heap.size _ (r : Int) (by omega) (by omega) W2 hO2 (by rw [Lib.byteCells_length]; omega) (by omega)).mono ?_
            rintro e W3 ⟨rfl, h3, b3, k3⟩
            have hO3 : Lib.IsBuilderF 62 5 w.heap.size w.heap.size (Lib.byteCells (Rn.cat (Wd.sb (Wd.R f n 0) 0 c.toNat (k + 1)))) W3 := by
              rw [HP.out, Rn.cat_append, Lib.byteCells_append, show Rn.cat [r] = Lib.encodeRune r from by simp [Rn.cat], Lib.byteCells_encodeRune]
              exact .inr h3
            have hit3 : W3.heap[w.heap.size + 1]? = some (.stringIter (Rn.arr f n) (pos + d)) := k3 _ _ hit2 (fun e => by have := Option.some.inj e; omega) (fun c fz e => by cases e)
            have hB3 := hB2.trans b3
            clear hO2 h3 b3 k3 hB2 hlen hlen2
            go_wp2_with fail
            go_roundw
            case rel => exact ⟨pos + d, k + 1, by go_num, hit3, H3, by omega, hO3, hB3⟩
            case measure => simp only [World.iterPos, hit3, hit]; omega
        · have hnx : ∀ ty, (Instr.next (.pointer (some ⟨w.heap.size + 1, 0, none⟩)) true ty).run Tryd.prog wr = _ := fun ty => Lib.run_next_end_at wr (w.heap.size + 1) (Rn.arr f n) pos ty hit (by rw [hsz]; exact hlt)
          have hk := Wd.drop_nil (hdr.out.trans (Wd.R_end f n pos hlt))
          rw [Wd.sb_end _ _ _ _ hk] at hO
          clear hlen hlen2 hk
          go_wp2_with fail
          refine (Tryd.Builder_String_any_k w.heap.size w.heap.size _ wr hO (by omega)).mono ?_
          rintro e W3 ⟨rfl, _, b3, _⟩
          go_wp2_with fail
          go_ret
          exact ⟨by rw [hsub.out, tx_eq]; rfl, hB.trans b3⟩
    · obtain ⟨a, rfl⟩ : ∃ a : Nat, from' = a := ⟨from'.toNat, by omega⟩
      have hsub : Hid (Wd.sub (Wd.R f n 0) a count = ((Wd.R f n 0).take (count + a).toNat).drop a) := by
        show Wd.sub _ _ _ = _
        unfold Wd.sub
        rw [Int.add_comm, Int.toNat_natCast]
      generalize count = c at *
      go_enter Tryd.func16, Tryd.ntmps16
      go_wp2_with fail
      obtain ⟨W0, hW0⟩ : ∃ W0, (w.alloc (.cells #[.pointer none, .slice none 0 0] 62)) = W0 := ⟨_, rfl⟩
      have hs0 : W0.heap.size = w.heap.size + 1 := by
        subst hW0
        simp
      have hI0 : Lib.IsBuilderF 62 5 w.heap.size w.heap.size (Lib.byteCells (Rn.cat [])) W0 := by
        subst hW0
        exact Lib.IsBuilderF.of (Lib.fresh_isBuilder 62 5 w)
      have hb0 : Below w.heap.size w W0 := by
        subst hW0
        exact (Below.refl _ _).alloc (Nat.le_refl _) _
      rw [hW0]
      clear hW0
      go_loopw [8] (fun b wr => ∃ (pos k : Nat), b = .int .i64 k ∧ wr.heap[w.heap.size + 1]? = some (.stringIter (Rn.arr f n) pos) ∧ Hid ((Wd.R f n 0).drop k = Wd.R f n pos) ∧ k ≤ pos ∧ Lib.IsBuilderF 62 5 w.heap.size w.heap.size (Lib.byteCells (Rn.cat (Wd.sb (Wd.R f n 0) a (c + a).toNat k))) wr ∧ Below w.heap.size w wr)
        (fun _ wr => n - wr.iterPos (w.heap.size + 1))
      case atStart =>
        refine ⟨0, 0, rfl, ?_, rfl, Nat.le_refl _, ?_, hb0.alloc (by omega) _⟩
        · have := World.alloc_heap_new W0 (.stringIter (Rn.arr f n) 0)
          rwa [hs0] at this
        · rw [Wd.sb_zero]
          exact hI0.alloc _
      case round =>
        clear hI0 hb0
        obtain ⟨pos, k, rfl, hit, hdr, hkp, hO, hB⟩ := hrel
        have hlen := Wd.cat_length (Wd.sb (Wd.R f n 0) a (c + a).toNat k)
        have hlen2 := Wd.sb_length (Wd.R f n 0) a (c + a).toNat k
        have hwr : w.heap.size + 1 < wr.heap.size := (Array.getElem?_eq_some_iff.1 hit).1
        by_cases hlt : pos < n
        · have hnx : ∀ ty, (Instr.next (.pointer (some ⟨w.heap.size + 1, 0, none⟩)) true ty).run Tryd.prog wr = _ := fun ty => Lib.run_next_any_at wr (w.heap.size + 1) (Rn.arr f n) pos ty hit (by rw [hsz]; exact hlt)
          rw [Rn.arr_decode f n pos hf hlt] at hnx
          obtain ⟨hd1, hd2, hd3⟩ := Rn.dec_pos (Rn.off f pos) (n - pos) (fun _ => hf _) (by omega)
          have hr2 := Rn.dec_lt (Rn.off f pos) (n - pos) (fun _ => hf _) (by omega)
          have hit2 := Lib.iterAt_heap wr (w.heap.size + 1) (Rn.arr f n) pos (pos + (Rn.dec (Rn.off f pos) (n - pos)).2) hit
          have hB2 := Lib.below_iterAt hB (by omega : w.heap.size ≤ w.heap.size + 1) (Rn.arr f n) (pos + (Rn.dec (Rn.off f pos) (n - pos)).2)
          have hO2 := builder_iterAt (s := Rn.arr f n) (p := pos + (Rn.dec (Rn.off f pos) (n - pos)).2) hO hit
          have hdr2 := hdr.out.trans (Wd.R_step f n pos hf hlt)
          have H3 := hide' (Wd.drop_cons hdr2).2.2
          have HD := hide' hdr2
          have hW2 : w.heap.size + 1 < (wr.iterAt (w.heap.size + 1) (Rn.arr f n) (pos + (Rn.dec (Rn.off f pos) (n - pos)).2)).heap.size := (Array.getElem?_eq_some_iff.1 hit2).1
          clear hdr hdr2 hO hB
          generalize (Rn.dec (Rn.off f pos) (n - pos)).1 = r at *
          generalize (Rn.dec (Rn.off f pos) (n - pos)).2 = d at *
          generalize wr.iterAt (w.heap.size + 1) (Rn.arr f n) (pos + d) = W2 at *
          by_cases hk : (a : Int) ≤ (k : Int)
          · by_cases hc : c ≤ (k : Int) - (a : Int)
            · have hck : c ≤ (k : Int) - (a : Int) := hc
              rw [Wd.sb_past _ _ _ _ (by omega)] at hO2
              clear hlen hlen2 HD
              go_wp2_with fail
              refine (Tryd.Builder_String_any_k w.heap.size w.heap.size _ W2 hO2 (by omega)).mono ?_
              rintro e W3 ⟨rfl, _, b3, _⟩
              go_wp2_with fail
              go_ret
              exact ⟨by rw [hsub.out, tx_eq]; rfl, hB2.trans b3⟩
            · have hck : (k : Int) - (a : Int) < c := by omega
              have HP := hide' (Wd.sb_put (a := a) (X := (c + a).toNat) (by omega) (by omega) HD.out)
              clear HD
              go_wp2_with fail
              refine (writeRune_k w.heap.size w.heap.size _ (r : Int) (by omega) (by omega) W2 hO2 (by rw [Lib.byteCells_length]; omega) (by omega)).mono ?_
              rintro e W3 ⟨rfl, h3, b3, k3⟩
              have hO3 : Lib.IsBuilderF 62 5 w.heap.size w.heap.size (Lib.byteCells (Rn.cat (Wd.sb (Wd.R f n 0) a (c + a).toNat (k + 1)))) W3 := by
                rw [HP.out, Rn.cat_append, Lib.byteCells_append, show Rn.cat [r] = Lib.encodeRune r from by simp [Rn.cat], Lib.byteCells_encodeRune]
                exact .inr h3
              have hit3 : W3.heap[w.heap.size + 1]? = some (.stringIter (Rn.arr f n) (pos + d)) := k3 _ _ hit2 (fun e => by have := Option.some.inj e; omega) (fun c fz e => by cases e)
              have hB3 := hB2.trans b3
              clear hO2 h3 b3 k3 hB2 hlen hlen2
              go_wp2_with fail
              go_roundw
              case rel => exact ⟨pos + d, k + 1, by go_num, hit3, H3, by omega, hO3, hB3⟩
              case measure => simp only [World.iterPos, hit3, hit]; omega
          · have hk' : (k : Int) < (a : Int) := by omega
            have HP := hide' (Wd.sb_skip (Wd.R f n 0) a (c + a).toNat k (by omega))
            clear HD
            go_wp2_with fail
            go_roundw
            case rel => exact ⟨pos + d, k + 1, by go_num, hit2, H3, by omega, by rw [HP.out]; exact hO2, hB2⟩
            case measure => simp only [World.iterPos, hit2, hit]; omega
        · have hnx : ∀ ty, (Instr.next (.pointer (some ⟨w.heap.size + 1, 0, none⟩)) true ty).run Tryd.prog wr = _ := fun ty => Lib.run_next_end_at wr (w.heap.size + 1) (Rn.arr f n) pos ty hit (by rw [hsz]; exact hlt)
          have hk := Wd.drop_nil (hdr.out.trans (Wd.R_end f n pos hlt))
          rw [Wd.sb_end _ _ _ _ hk] at hO
          clear hlen hlen2 hk
          go_wp2_with fail
          refine (Tryd.Builder_String_any_k w.heap.size w.heap.size _ wr hO (by omega)).mono ?_
          rintro e W3 ⟨rfl, _, b3, _⟩
          go_wp2_with fail
          go_ret
          exact ⟨by rw [hsub.out, tx_eq]; rfl, hB.trans b3⟩
end Go.Proofs.YtddinjgpoillgaaDoor
