/-
  WALKS over (*Hunt).Add, .Close, .Truth, .Kept.
-/
import Derived.Test.YtgbldbohadacmaaHtTake
namespace Go.Proofs.Ytgbldbohadacmaa
open Go.RowKit Go.Lib
namespace Ht
/-- what Truth answers -/
def tru (c : Int) (td : Bool) (N : Int) (T L : List Nat) (wh : Bool) : Int :=
  if td then no (if wh then fin c T N L else opn c T N L) else (if wh then fin c T N L else opn c T N L)
/-- the state while the text comes -/
def Add1 (w : World) (b : Nat) (c : Int) (td : Bool) (N : Int) (xt xb : Value) (T L : List Nat) (w' : World) : Prop :=
  ∃ q, HC w' b c td N xt xb false q (opn c T N L) ∧ (opn c T N L = 1 → qat c T L q) ∧ q ≤ L.length ∧ Hb b w w'
theorem below_iter {B : Nat} {w w' : World} (h : Below w.heap.size w w') : Hb B w w' := Hb.of_below h
/-- a Hunt's own cells, the values of its rows told -/
def Hq (w : World) (b : Nat) (c : Int) (td : Bool) (N : Int) (xt xb : Value) (T L : List Nat) (wh : Bool) : Prop :=
  ∃ q t, HC w b c td N xt xb wh q t ∧ t = (if wh then fin c T N L else opn c T N L) ∧ (opn c T N L = 1 → qat c T L q) ∧ q ≤ L.length
theorem Hq.hu {w : World} {b : Nat} {c : Int} {td : Bool} {N : Int} {xt xb : Value} {T L : List Nat} {wh : Bool} (hc : cok c) (h : Hq w b c td N xt xb T L wh) (hR : Rws w c T xt xb) : Hu w b c td N T L wh := by
  obtain ⟨q, t, h1, h2, h3, h4⟩ := h
  exact ⟨hc, xt, xb, q, t, h1, hR, h2, h3, h4⟩
theorem Hu.hq {w : World} {b : Nat} {c : Int} {td : Bool} {N : Int} {T L : List Nat} {wh : Bool} (h : Hu w b c td N T L wh) : cok c ∧ ∃ xt xb, Hq w b c td N xt xb T L wh ∧ Rws w c T xt xb := by
  obtain ⟨hc, xt, xb, q, t, h1, hR, h2, h3, h4⟩ := h
  exact ⟨hc, xt, xb, ⟨q, t, h1, h2, h3, h4⟩, hR⟩
theorem Hq.up {w w' : World} {b : Nat} {c : Int} {td : Bool} {N : Int} {xt xb : Value} {T L L' : List Nat} {wh wh' : Bool} (hc : cok c) (h : Hq w b c td N xt xb T L wh) (hR : Rws w c T xt xb) (k : Hq w' b c td N xt xb T L' wh') (e : Hb b w w') : Hu w' b c td N T L' wh' := by
  obtain ⟨q, t, h1, _⟩ := h
  exact k.hu hc (hR.hb e h1)
/-- the iterator goes on -/
theorem Hb.iter {b I : Nat} {w w' : World} (h : Hb b w w') (hI : w.heap.size ≤ I) (s : ByteArray) (p : Nat) : Hb b w (w'.iterAt I s p) := by
  have := Lib.below_iterAt (B := w.heap.size) (Below.refl w.heap.size w') hI s p
  exact ⟨this.os.trans h.os, this.tape.trans h.tape, this.output.trans h.output, Nat.le_trans h.size this.size, fun k hk hn => (this.block k hk).trans (h.block k hk hn)⟩
end Ht
set_option maxRecDepth 100000 in
set_option maxHeartbeats 4000000 in
theorem htAddX {w : World} {b : Nat} {c : Int} {td : Bool} {N : Int} {xt xb : Value} {T L : List Nat} (hc : Ht.cok c) (h : Ht.Hq w b c td N xt xb T L false) (h2 : Ht.Rws w c T xt xb) (f : Nat → Nat) (n : Nat) (hf : ∀ j, f j < 256) (hL : L.length + n ≤ 4611686018427387904) :
    Calls Try.prog 10 #[.pointer (some ⟨b, 0, none⟩), .string (Rn.arr f n)] w fun e w' => e = .returned (.int .i64 0) ∧ Ht.Hq w' b c td N xt xb T (L ++ Wd.R f n 0) false ∧ Ht.Hb b w w' := by
  obtain ⟨q, t, h1, rfl, h4, h5⟩ := h
  simp only [Bool.false_eq_true, if_false] at h1
  have hsz := Rn.arr_size f n
  have hlt := h1.lt
  obtain ⟨_, _, _, _, _, c5, _, _, _⟩ := h1.cells
  have HX := hide' h1
  have CT := hide' (fun (wr : World) (M : List Nat) (r q : Nat) (x : Ht.HC wr b c td N xt xb false q 1) (hb : Ht.Hb b w wr) ho hq hl => htTake (r := r) (T := T) (L := M) hc x (h2.hb hb h1) ho hq hl)
  have HST := hide' (fun M M' (k : Ht.opn c T N M ≠ 1) => Ht.opn_stay k M')
  have H4 := hide' h4
  have HRL := hide' (fun p => Wd.R_length f n p hf)
  clear h1 h2 h4 hc
  go_enter Try.func10, Try.ntmps10
  go_wp2_with fail
  go_loopw [] (fun wr => ∃ (pos : Nat) (M : List Nat), pos ≤ n ∧ wr.heap[w.heap.size]? = some (.stringIter (Rn.arr f n) pos) ∧ Hid (M ++ Wd.R f n pos = L ++ Wd.R f n 0) ∧ Hid (Ht.Add1 w b c td N xt xb T M wr)) (fun wr => n - wr.iterPos w.heap.size)
  case atStart => exact ⟨0, L, Nat.zero_le _, World.iter_heap w _ 0, rfl, q, HX.out.below ((Below.refl _ _).alloc (Nat.le_refl _) _), H4.out, h5, (Ht.Hb.refl _ _).alloc _⟩
  case round =>
    obtain ⟨pos, M, hpn, hit, HM, HA⟩ := hrel
    have hml : M.length + (Wd.R f n pos).length = L.length + (Wd.R f n 0).length := by have := congrArg List.length HM.out; simpa using this
    have hm2 : M.length ≤ 4611686018427387904 := by have := HRL.out 0; omega
    obtain ⟨k, hk1, hk2, hk3, hk4⟩ := HA.out
    by_cases hlp : pos < n
    · have hnx : ∀ ty, (Instr.next (.pointer (some ⟨w.heap.size, 0, none⟩)) true ty).run Try.prog wr = _ := fun ty => Lib.run_next_any_at wr w.heap.size (Rn.arr f n) pos ty hit (by rw [hsz]; exact hlp)
      rw [Rn.arr_decode f n pos hf hlp] at hnx
      obtain ⟨hd1, hd2, hd3⟩ := Rn.dec_pos (Rn.off f pos) (n - pos) (fun _ => hf _) (by omega)
      have hit2 := Lib.iterAt_heap wr w.heap.size (Rn.arr f n) pos (pos + (Rn.dec (Rn.off f pos) (n - pos)).2) hit
      have HR := hide' (Wd.R_step f n pos hf hlp)
      have hI : w.heap.size < wr.heap.size := (Array.getElem?_eq_some_iff.1 hit).1
      have hbI : Ht.Hb b w (wr.iterAt w.heap.size (Rn.arr f n) (pos + (Rn.dec (Rn.off f pos) (n - pos)).2)) := hk4.iter (Nat.le_refl _) _ _
      have hcI : Ht.HC (wr.iterAt w.heap.size (Rn.arr f n) (pos + (Rn.dec (Rn.off f pos) (n - pos)).2)) b c td N xt xb false k (Ht.opn c T N M) := hk1.of_block ((Lib.below_iterAt (B := w.heap.size) (Below.refl w.heap.size wr) (Nat.le_refl _) _ _).block b hlt)
      generalize (Rn.dec (Rn.off f pos) (n - pos)).1 = r at *
      generalize (Rn.dec (Rn.off f pos) (n - pos)).2 = d at *
      obtain ⟨WI, hWI⟩ : ∃ WI, wr.iterAt w.heap.size (Rn.arr f n) (pos + d) = WI := ⟨_, rfl⟩
      rw [hWI] at hit2 hbI hcI
      simp only [hWI] at hnx
      obtain ⟨_, _, _, _, _, _, _, d7, _⟩ := hcI.cells
      have HCI := hide' hcI
      have HBI := hide' hbI
      have HIT2 := hide' hit2
      have HPD : Hid (pos + d ≤ n ∧ 0 < d) := ⟨by omega, by omega⟩
      clear hk1 hk4 hbI hcI hWI hit2 hml hd1 hd2 hd3 HA
      by_cases ho : Ht.opn c T N M = 1
      · have o1 : (Ht.opn c T N M != 1) = false := by simp [ho]
        rw [ho] at d7 HCI
        have CT1 := hide' (CT.out WI M r k HCI.out HBI.out ho (hk2 ho) hm2)
        clear ho o1 hk2 CT
        go_wp2_with fail
        refine CT1.out.mono ?_
        rintro e w2 ⟨⟨u, rfl⟩, k', a1, a2, a3, a4⟩
        have hit3 : w2.heap[w.heap.size]? = some (.stringIter (Rn.arr f n) (pos + d)) := (a4.block _ (Array.getElem?_eq_some_iff.1 HIT2.out).1 (by omega)).trans HIT2.out
        have HAD : Hid (Ht.Add1 w b c td N xt xb T (M ++ [r]) w2) := ⟨k', a1, a2, by rw [List.length_append]; exact a3, HBI.out.trans a4⟩
        have HML : Hid ((M ++ [r]) ++ Wd.R f n (pos + d) = L ++ Wd.R f n 0) := by show _ = _; rw [← HM.out, HR.out]; simp
        clear a1 a2 a3 a4 CT1
        go_wp2_with fail
        go_roundw
        case rel => exact ⟨pos + d, M ++ [r], HPD.out.1, hit3, HML, HAD⟩
        case measure => have := HPD.out; simp only [World.iterPos, hit3, hit]; omega
      · have o1 : (Ht.opn c T N M != 1) = true := by simp [ho]
        have HNO := hide' ho
        clear ho CT hk2
        go_wp2_with fail
        go_ret
        have hs := HST.out M (Wd.R f n pos) HNO.out
        rw [HM.out] at hs
        refine ⟨rfl, ⟨k, _, HCI.out, ?_, fun x => ?_, by rw [List.length_append]; have := congrArg List.length HM.out; simp at this; omega⟩, HBI.out⟩
        · simp [hs]
        · rw [hs] at x; exact absurd x HNO.out
    · have hnx : ∀ ty, (Instr.next (.pointer (some ⟨w.heap.size, 0, none⟩)) true ty).run Try.prog wr = _ := fun ty => Lib.run_next_end_at wr w.heap.size (Rn.arr f n) pos ty hit (by rw [hsz]; exact hlp)
      have hend : M = L ++ Wd.R f n 0 := by have := HM.out; rwa [Wd.R_end f n pos hlp, List.append_nil] at this
      have HE := hide' hend
      have HK1 := hide' hk1
      have HK4 := hide' hk4
      clear hend hk1 hk4 CT
      go_wp2_with fail
      go_ret
      rw [← HE.out]
      exact ⟨rfl, ⟨k, _, HK1.out, by simp, hk2, hk3⟩, HK4.out⟩
theorem htAdd {w : World} {b : Nat} {c : Int} {td : Bool} {N : Int} {T L : List Nat} (h : Ht.Hu w b c td N T L false) (f : Nat → Nat) (n : Nat) (hf : ∀ j, f j < 256) (hL : L.length + n ≤ 4611686018427387904) :
    Calls Try.prog 10 #[.pointer (some ⟨b, 0, none⟩), .string (Rn.arr f n)] w fun e w' => e = .returned (.int .i64 0) ∧ Ht.Hu w' b c td N T (L ++ Wd.R f n 0) false ∧ Ht.Hb b w w' := by
  obtain ⟨hc, xt, xb, hq, hR⟩ := h.hq
  exact (htAddX hc hq hR f n hf hL).mono fun e w' ⟨h1, h2, h3⟩ => ⟨h1, hq.up hc hR h2 h3, h3⟩
end Go.Proofs.Ytgbldbohadacmaa
