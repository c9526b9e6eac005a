/-
  THE WALK over hunt.New (gen_new.py).
-/
import Derived.Test.YtgbldbohadacmaaHtTake
namespace Go.Proofs.Ytgbldbohadacmaa
open Go.RowKit Go.Lib
namespace Ht
/-- the comparison that is kept, is it turned, and its number -/
def cc (c : Int) : Int := if c = 2 then 1 else if c = 8 then 7 else c
def tdc (c : Int) : Bool := c == 2 || c == 8
def cn (c N : Int) : Int := if c = 8 then N - 1 else N
theorem HC.set3 {w : World} {b : Nat} {c : Int} {td : Bool} {N : Int} {xt xb : Value} {wh : Bool} {q : Nat} {t : Int} (h : HC w b c td N xt xb wh q t) (v : Value) : HC (w.setCell ⟨b, 3, none⟩ v) b c td N v xb wh q t := (Go.Joins.block_setCell (i := 3) h _).trans rfl
theorem HC.set4 {w : World} {b : Nat} {c : Int} {td : Bool} {N : Int} {xt xb : Value} {wh : Bool} {q : Nat} {t : Int} (h : HC w b c td N xt xb wh q t) (v : Value) : HC (w.setCell ⟨b, 4, none⟩ v) b c td N xt v wh q t := (Go.Joins.block_setCell (i := 4) h _).trans rfl
theorem HC.new (w : World) (c : Int) (td : Bool) (N : Int) : HC (w.alloc (.cells #[.int .i64 c, .bool td, .int .i64 N, .slice none 0 0, .slice none 0 0, .bool false, .int .i64 0, .int .i64 0] 48)) w.heap.size c td N (.slice none 0 0) (.slice none 0 0) false 0 0 := World.alloc_heap_new w _
/-- what New answers -/
def NewE (w : World) (c N : Int) (T : List Nat) (e : Ending) (w' : World) : Prop :=
  ∃ b, e = .returned (.tuple #[.pointer (some ⟨b, 0, none⟩), .int .i64 0]) ∧ w.heap.size ≤ b ∧ Hu w' b (cc c) (tdc c) (cn c N) T [] false ∧ Below w.heap.size w w'
theorem newFin {w W : World} {c : Int} {td : Bool} {N : Int} {T : List Nat} {p : Option Addr} {m cap : Nat} {xb : Value} (hc : cok c) (h : HC W w.heap.size c td N (.slice p m cap) xb false 0 0) (hR : Rws W c T (.slice p m cap) xb) (hb : Below w.heap.size w W) (hm : c = 3 ∨ c = 5 → m = T.length) (k : Nat) :
    Hu ((W.drewN k).setCell ⟨w.heap.size, 7, none⟩ (.int .i64 (cmg c N m 0))) w.heap.size c td N T [] false ∧ Below w.heap.size w ((W.drewN k).setCell ⟨w.heap.size, 7, none⟩ (.int .i64 (cmg c N m 0))) := by
  have e : cmg c N m 0 = opn c T N [] := by
    rw [opn_start hc]
    unfold cmg
    by_cases k : c = 3 ∨ c = 5
    · rw [hm k]
    · simp [k]
  have hb2 : Hb w.heap.size W ((W.drewN k).setCell ⟨w.heap.size, 7, none⟩ (.int .i64 (cmg c N m 0))) := ((Hb.refl _ W).drewN k).setCell _ _
  refine ⟨⟨hc, _, _, 0, _, (h.drewN k).set7 _, hR.hb hb2 h, by simpa using e, fun _ => ?_, Nat.zero_le _⟩, (Below.setCell (⟨hb.os, hb.tape, hb.output, hb.size, hb.block⟩ : Below w.heap.size w (W.drewN k)) (Nat.le_refl _) _)⟩
  unfold qat
  split
  · exact lps_nil T
  · rfl
end Ht
set_option maxRecDepth 100000 in
set_option maxHeartbeats 4000000 in
theorem htNew0 (N : Int) (f : Nat → Nat) (n : Nat) (w : World) (_hf : ∀ j, f j < 256) (_hn : n ≤ 1099511627776) (hN : 0 ≤ N) (hN2 : N ≤ 9223372036854775807) :
    Calls Try.prog 5 #[.int .i64 0, .string (Rn.arr f n), .int .i64 N] w (Ht.NewE w 0 N (Wd.R f n 0)) := by
  have h1 : Ht.HC (w.alloc (.cells #[.int .i64 0, .bool false, .int .i64 N, .slice none 0 0, .slice none 0 0, .bool false, .int .i64 0, .int .i64 0] 48)) w.heap.size 0 false N (.slice none 0 0) (.slice none 0 0) false 0 0 := Ht.HC.new w 0 false N
  have b1 : Below w.heap.size w (w.alloc (.cells #[.int .i64 0, .bool false, .int .i64 N, .slice none 0 0, .slice none 0 0, .bool false, .int .i64 0, .int .i64 0] 48)) := (Below.refl w.heap.size w).alloc (Nat.le_refl _) _
  have R1 : Hid (Ht.Rws (w.alloc (.cells #[.int .i64 0, .bool false, .int .i64 N, .slice none 0 0, .slice none 0 0, .bool false, .int .i64 0, .int .i64 0] 48)) 0 (Wd.R f n 0) (.slice none 0 0) (.slice none 0 0)) := ⟨⟨_, _, _, rfl, by omega, by unfold maxLen; omega⟩, (fun k => by simp at k), (fun k => by simp at k)⟩
  have CM := hide' (htComing h1 (by simp [Ht.cok]))
  obtain ⟨_, _, _, _, _, _, _, d7, f7⟩ := h1.cells
  have H1 := hide' h1
  have B1 := hide' b1
  clear h1 b1
  go_enter Try.func5, Try.ntmps5
  go_wp2_with fail
  refine CM.out.mono ?_
  rintro e w1 ⟨rfl, k, rfl⟩
  have K := Ht.newFin (by simp [Ht.cok]) H1.out R1.out B1.out (fun k => by simp at k) k
  go_wp2_with fail
  refine bodyPost_ret (v := .tuple #[.pointer (some ⟨w.heap.size, 0, none⟩), .int .i64 0]) (by simp [results, Try.results5, go_sem]) rfl ?_
  exact ⟨_, rfl, Nat.le_refl _, K⟩
set_option maxRecDepth 100000 in
set_option maxHeartbeats 4000000 in
theorem htNew1 (N : Int) (f : Nat → Nat) (n : Nat) (w : World) (hf : ∀ j, f j < 256) (hn : n ≤ 1099511627776) (hN : 0 ≤ N) (hN2 : N ≤ 9223372036854775807) :
    Calls Try.prog 5 #[.int .i64 1, .string (Rn.arr f n), .int .i64 N] w (Ht.NewE w 1 N (Wd.R f n 0)) := by
  have h1 : Ht.HC (w.alloc (.cells #[.int .i64 1, .bool false, .int .i64 N, .slice none 0 0, .slice none 0 0, .bool false, .int .i64 0, .int .i64 0] 48)) w.heap.size 1 false N (.slice none 0 0) (.slice none 0 0) false 0 0 := Ht.HC.new w 1 false N
  have b1 : Below w.heap.size w (w.alloc (.cells #[.int .i64 1, .bool false, .int .i64 N, .slice none 0 0, .slice none 0 0, .bool false, .int .i64 0, .int .i64 0] 48)) := (Below.refl w.heap.size w).alloc (Nat.le_refl _) _
  have s1 : (w.alloc (.cells #[.int .i64 1, .bool false, .int .i64 N, .slice none 0 0, .slice none 0 0, .bool false, .int .i64 0, .int .i64 0] 48)).heap.size = w.heap.size + 1 := by simp
  obtain ⟨cap, W2, hcv, r1, r2, r3, r4, _, r6⟩ := conv_runes f n (w.alloc (.cells #[.int .i64 1, .bool false, .int .i64 N, .slice none 0 0, .slice none 0 0, .bool false, .int .i64 0, .int .i64 0] 48)) hf (by omega)
  rw [Wd.R_rl] at hcv r1 r3
  have hl := Wd.R_length f n 0 hf
  have h2 := h1.below (by rw [s1] at r4 ⊢; exact r4)
  rw [s1] at hcv r3 r4 r6
  have b2 := hide' (b1.trans (r4.mono (Nat.le_succ _)))
  obtain ⟨cs, r6, r7⟩ := r6
  obtain ⟨T, hT⟩ : ∃ T, Wd.R f n 0 = T := ⟨_, rfl⟩
  rw [hT] at hcv r1 r3 hl
  have t2 : Ht.TR W2 T (.slice (some ⟨w.heap.size + 1, 0, none⟩) T.length cap) := ⟨_, cap, cs, rfl, r1, r2, r3, r6⟩
  obtain ⟨m, hm⟩ : ∃ m, T.length = m := ⟨_, rfl⟩
  rw [hm] at t2
  simp only [hm] at hcv
  rw [hT]
  obtain ⟨_, _, _, d3, _, _, _, _, f3⟩ := h2.cells
  have h3 := h2.set3 (.slice (some ⟨w.heap.size + 1, 0, none⟩) m cap)
  have hb3 : Ht.Hb w.heap.size W2 (W2.setCell ⟨w.heap.size, 3, none⟩ (.slice (some ⟨w.heap.size + 1, 0, none⟩) m cap)) := (Ht.Hb.refl _ _).setCell _ _
  have R3 : Hid (Ht.Rws (W2.setCell ⟨w.heap.size, 3, none⟩ (.slice (some ⟨w.heap.size + 1, 0, none⟩) m cap)) 1 T (.slice (some ⟨w.heap.size + 1, 0, none⟩) m cap) (.slice none 0 0)) := ⟨⟨_, _, _, rfl, by omega, r2⟩, (fun _ => t2.hb hb3 h2), (fun k => by simp at k)⟩
  have b3 : Hid (Below w.heap.size w (W2.setCell ⟨w.heap.size, 3, none⟩ (.slice (some ⟨w.heap.size + 1, 0, none⟩) m cap))) := b2.out.setCell (Nat.le_refl _) _
  have CM := hide' (htComing h3 (by simp [Ht.cok]))
  obtain ⟨_, _, _, _, _, _, _, d7, f7⟩ := h3.cells
  have H3 := hide' h3
  have HM := hide' hm
  clear h1 h2 h3 hm hT r1 r2 r3 r4 r6 r7 t2 hb3 b1 b2 hl
  go_enter Try.func5, Try.ntmps5
  go_wp2_with fail
  refine CM.out.mono ?_
  rintro e w1 ⟨rfl, k, rfl⟩
  have K := Ht.newFin (by simp [Ht.cok]) H3.out R3.out b3.out (fun _ => HM.out.symm) k
  go_wp2_with fail
  refine bodyPost_ret (v := .tuple #[.pointer (some ⟨w.heap.size, 0, none⟩), .int .i64 0]) (by simp [results, Try.results5, go_sem]) rfl ?_
  exact ⟨_, rfl, Nat.le_refl _, K⟩
set_option maxRecDepth 100000 in
set_option maxHeartbeats 4000000 in
theorem htNew2 (N : Int) (f : Nat → Nat) (n : Nat) (w : World) (hf : ∀ j, f j < 256) (hn : n ≤ 1099511627776) (hN : 0 ≤ N) (hN2 : N ≤ 9223372036854775807) :
    Calls Try.prog 5 #[.int .i64 2, .string (Rn.arr f n), .int .i64 N] w (Ht.NewE w 2 N (Wd.R f n 0)) := by
  have h1 : Ht.HC (w.alloc (.cells #[.int .i64 1, .bool true, .int .i64 N, .slice none 0 0, .slice none 0 0, .bool false, .int .i64 0, .int .i64 0] 48)) w.heap.size 1 true N (.slice none 0 0) (.slice none 0 0) false 0 0 := Ht.HC.new w 1 true N
  have b1 : Below w.heap.size w (w.alloc (.cells #[.int .i64 1, .bool true, .int .i64 N, .slice none 0 0, .slice none 0 0, .bool false, .int .i64 0, .int .i64 0] 48)) := (Below.refl w.heap.size w).alloc (Nat.le_refl _) _
  have s1 : (w.alloc (.cells #[.int .i64 1, .bool true, .int .i64 N, .slice none 0 0, .slice none 0 0, .bool false, .int .i64 0, .int .i64 0] 48)).heap.size = w.heap.size + 1 := by simp
  obtain ⟨cap, W2, hcv, r1, r2, r3, r4, _, r6⟩ := conv_runes f n (w.alloc (.cells #[.int .i64 1, .bool true, .int .i64 N, .slice none 0 0, .slice none 0 0, .bool false, .int .i64 0, .int .i64 0] 48)) hf (by omega)
  rw [Wd.R_rl] at hcv r1 r3
  have hl := Wd.R_length f n 0 hf
  have h2 := h1.below (by rw [s1] at r4 ⊢; exact r4)
  rw [s1] at hcv r3 r4 r6
  have b2 := hide' (b1.trans (r4.mono (Nat.le_succ _)))
  obtain ⟨cs, r6, r7⟩ := r6
  obtain ⟨T, hT⟩ : ∃ T, Wd.R f n 0 = T := ⟨_, rfl⟩
  rw [hT] at hcv r1 r3 hl
  have t2 : Ht.TR W2 T (.slice (some ⟨w.heap.size + 1, 0, none⟩) T.length cap) := ⟨_, cap, cs, rfl, r1, r2, r3, r6⟩
  obtain ⟨m, hm⟩ : ∃ m, T.length = m := ⟨_, rfl⟩
  rw [hm] at t2
  simp only [hm] at hcv
  rw [hT]
  obtain ⟨_, _, _, d3, _, _, _, _, f3⟩ := h2.cells
  have h3 := h2.set3 (.slice (some ⟨w.heap.size + 1, 0, none⟩) m cap)
  have hb3 : Ht.Hb w.heap.size W2 (W2.setCell ⟨w.heap.size, 3, none⟩ (.slice (some ⟨w.heap.size + 1, 0, none⟩) m cap)) := (Ht.Hb.refl _ _).setCell _ _
  have R3 : Hid (Ht.Rws (W2.setCell ⟨w.heap.size, 3, none⟩ (.slice (some ⟨w.heap.size + 1, 0, none⟩) m cap)) 1 T (.slice (some ⟨w.heap.size + 1, 0, none⟩) m cap) (.slice none 0 0)) := ⟨⟨_, _, _, rfl, by omega, r2⟩, (fun _ => t2.hb hb3 h2), (fun k => by simp at k)⟩
  have b3 : Hid (Below w.heap.size w (W2.setCell ⟨w.heap.size, 3, none⟩ (.slice (some ⟨w.heap.size + 1, 0, none⟩) m cap))) := b2.out.setCell (Nat.le_refl _) _
  have CM := hide' (htComing h3 (by simp [Ht.cok]))
  obtain ⟨_, _, _, _, _, _, _, d7, f7⟩ := h3.cells
  have H3 := hide' h3
  have HM := hide' hm
  clear h1 h2 h3 hm hT r1 r2 r3 r4 r6 r7 t2 hb3 b1 b2 hl
  go_enter Try.func5, Try.ntmps5
  go_wp2_with fail
  refine CM.out.mono ?_
  rintro e w1 ⟨rfl, k, rfl⟩
  have K := Ht.newFin (by simp [Ht.cok]) H3.out R3.out b3.out (fun _ => HM.out.symm) k
  go_wp2_with fail
  refine bodyPost_ret (v := .tuple #[.pointer (some ⟨w.heap.size, 0, none⟩), .int .i64 0]) (by simp [results, Try.results5, go_sem]) rfl ?_
  exact ⟨_, rfl, Nat.le_refl _, K⟩
set_option maxRecDepth 100000 in
set_option maxHeartbeats 4000000 in
theorem htNew3 (N : Int) (f : Nat → Nat) (n : Nat) (w : World) (hf : ∀ j, f j < 256) (hn : n ≤ 1099511627776) (hN : 0 ≤ N) (hN2 : N ≤ 9223372036854775807) :
    Calls Try.prog 5 #[.int .i64 3, .string (Rn.arr f n), .int .i64 N] w (Ht.NewE w 3 N (Wd.R f n 0)) := by
  have h1 : Ht.HC (w.alloc (.cells #[.int .i64 3, .bool false, .int .i64 N, .slice none 0 0, .slice none 0 0, .bool false, .int .i64 0, .int .i64 0] 48)) w.heap.size 3 false N (.slice none 0 0) (.slice none 0 0) false 0 0 := Ht.HC.new w 3 false N
  have b1 : Below w.heap.size w (w.alloc (.cells #[.int .i64 3, .bool false, .int .i64 N, .slice none 0 0, .slice none 0 0, .bool false, .int .i64 0, .int .i64 0] 48)) := (Below.refl w.heap.size w).alloc (Nat.le_refl _) _
  have s1 : (w.alloc (.cells #[.int .i64 3, .bool false, .int .i64 N, .slice none 0 0, .slice none 0 0, .bool false, .int .i64 0, .int .i64 0] 48)).heap.size = w.heap.size + 1 := by simp
  obtain ⟨cap, W2, hcv, r1, r2, r3, r4, _, r6⟩ := conv_runes f n (w.alloc (.cells #[.int .i64 3, .bool false, .int .i64 N, .slice none 0 0, .slice none 0 0, .bool false, .int .i64 0, .int .i64 0] 48)) hf (by omega)
  rw [Wd.R_rl] at hcv r1 r3
  have hl := Wd.R_length f n 0 hf
  have h2 := h1.below (by rw [s1] at r4 ⊢; exact r4)
  rw [s1] at hcv r3 r4 r6
  have b2 := hide' (b1.trans (r4.mono (Nat.le_succ _)))
  obtain ⟨cs, r6, r7⟩ := r6
  obtain ⟨T, hT⟩ : ∃ T, Wd.R f n 0 = T := ⟨_, rfl⟩
  rw [hT] at hcv r1 r3 hl
  have t2 : Ht.TR W2 T (.slice (some ⟨w.heap.size + 1, 0, none⟩) T.length cap) := ⟨_, cap, cs, rfl, r1, r2, r3, r6⟩
  obtain ⟨m, hm⟩ : ∃ m, T.length = m := ⟨_, rfl⟩
  rw [hm] at t2
  simp only [hm] at hcv
  rw [hT]
  obtain ⟨_, _, _, d3, _, _, _, _, f3⟩ := h2.cells
  have h3 := h2.set3 (.slice (some ⟨w.heap.size + 1, 0, none⟩) m cap)
  have hb3 : Ht.Hb w.heap.size W2 (W2.setCell ⟨w.heap.size, 3, none⟩ (.slice (some ⟨w.heap.size + 1, 0, none⟩) m cap)) := (Ht.Hb.refl _ _).setCell _ _
  have R3 : Hid (Ht.Rws (W2.setCell ⟨w.heap.size, 3, none⟩ (.slice (some ⟨w.heap.size + 1, 0, none⟩) m cap)) 3 T (.slice (some ⟨w.heap.size + 1, 0, none⟩) m cap) (.slice none 0 0)) := ⟨⟨_, _, _, rfl, by omega, r2⟩, (fun _ => t2.hb hb3 h2), (fun k => by simp at k)⟩
  have b3 : Hid (Below w.heap.size w (W2.setCell ⟨w.heap.size, 3, none⟩ (.slice (some ⟨w.heap.size + 1, 0, none⟩) m cap))) := b2.out.setCell (Nat.le_refl _) _
  have CM := hide' (htComing h3 (by simp [Ht.cok]))
  obtain ⟨_, _, _, _, _, _, _, d7, f7⟩ := h3.cells
  have H3 := hide' h3
  have HM := hide' hm
  clear h1 h2 h3 hm hT r1 r2 r3 r4 r6 r7 t2 hb3 b1 b2 hl
  go_enter Try.func5, Try.ntmps5
  go_wp2_with fail
  refine CM.out.mono ?_
  rintro e w1 ⟨rfl, k, rfl⟩
  have K := Ht.newFin (by simp [Ht.cok]) H3.out R3.out b3.out (fun _ => HM.out.symm) k
  go_wp2_with fail
  refine bodyPost_ret (v := .tuple #[.pointer (some ⟨w.heap.size, 0, none⟩), .int .i64 0]) (by simp [results, Try.results5, go_sem]) rfl ?_
  exact ⟨_, rfl, Nat.le_refl _, K⟩
set_option maxRecDepth 100000 in
set_option maxHeartbeats 4000000 in
theorem htNew4 (N : Int) (f : Nat → Nat) (n : Nat) (w : World) (hf : ∀ j, f j < 256) (hn : n ≤ 1099511627776) (hN : 0 ≤ N) (hN2 : N ≤ 9223372036854775807) :
    Calls Try.prog 5 #[.int .i64 4, .string (Rn.arr f n), .int .i64 N] w (Ht.NewE w 4 N (Wd.R f n 0)) := by
  have h1 : Ht.HC (w.alloc (.cells #[.int .i64 4, .bool false, .int .i64 N, .slice none 0 0, .slice none 0 0, .bool false, .int .i64 0, .int .i64 0] 48)) w.heap.size 4 false N (.slice none 0 0) (.slice none 0 0) false 0 0 := Ht.HC.new w 4 false N
  have b1 : Below w.heap.size w (w.alloc (.cells #[.int .i64 4, .bool false, .int .i64 N, .slice none 0 0, .slice none 0 0, .bool false, .int .i64 0, .int .i64 0] 48)) := (Below.refl w.heap.size w).alloc (Nat.le_refl _) _
  have s1 : (w.alloc (.cells #[.int .i64 4, .bool false, .int .i64 N, .slice none 0 0, .slice none 0 0, .bool false, .int .i64 0, .int .i64 0] 48)).heap.size = w.heap.size + 1 := by simp
  obtain ⟨cap, W2, hcv, r1, r2, r3, r4, _, r6⟩ := conv_runes f n (w.alloc (.cells #[.int .i64 4, .bool false, .int .i64 N, .slice none 0 0, .slice none 0 0, .bool false, .int .i64 0, .int .i64 0] 48)) hf (by omega)
  rw [Wd.R_rl] at hcv r1 r3
  have hl := Wd.R_length f n 0 hf
  have h2 := h1.below (by rw [s1] at r4 ⊢; exact r4)
  rw [s1] at hcv r3 r4 r6
  have b2 := hide' (b1.trans (r4.mono (Nat.le_succ _)))
  obtain ⟨cs, r6, r7⟩ := r6
  obtain ⟨T, hT⟩ : ∃ T, Wd.R f n 0 = T := ⟨_, rfl⟩
  rw [hT] at hcv r1 r3 hl
  have t2 : Ht.TR W2 T (.slice (some ⟨w.heap.size + 1, 0, none⟩) T.length cap) := ⟨_, cap, cs, rfl, r1, r2, r3, r6⟩
  have cb := border_any f n W2 hf hn
  rw [hT] at cb
  obtain ⟨m, hm⟩ : ∃ m, T.length = m := ⟨_, rfl⟩
  have CB := hide' cb
  clear cb
  rw [hT]
  have HM := hide' hm
  have H2 := hide' h2
  have R12 := hide' (show m ≤ cap ∧ cap ≤ maxLen from ⟨by omega, r2⟩)
  have T2 := hide' t2
  simp only [hm] at hcv
  clear h1 h2 hm hT r1 r2 r3 r4 r6 r7 t2 b1 hl
  go_enter Try.func5, Try.ntmps5
  go_wp2_with fail
  refine CB.out.mono ?_
  rintro e W3 ⟨gb, rfl, g1, ⟨bf, ⟨cur, g2⟩, g3⟩, g4⟩
  have h3 := H2.out.below g4
  have b3 := hide' (b2.out.trans (g4.mono b2.out.size))
  have t3 := T2.out.below g4
  have r3 : Ht.BR W3 T (.slice (some ⟨gb, 0, none⟩) T.length T.length) := ⟨gb, bf, cur, rfl, g2, fun j hj => by rw [← Ht.lg_eq]; exact g3 j hj⟩
  rw [HM.out] at t3 r3 ⊢
  obtain ⟨_, _, _, d3, d4, _, _, _, f3⟩ := h3.cells
  have h4 := (h3.set3 (.slice (some ⟨w.heap.size + 1, 0, none⟩) m cap)).set4 (.slice (some ⟨gb, 0, none⟩) m m)
  have hb4 : Ht.Hb w.heap.size W3 ((W3.setCell ⟨w.heap.size, 3, none⟩ (.slice (some ⟨w.heap.size + 1, 0, none⟩) m cap)).setCell ⟨w.heap.size, 4, none⟩ (.slice (some ⟨gb, 0, none⟩) m m)) := ((Ht.Hb.refl _ _).setCell _ _).setCell _ _
  have R4 : Hid (Ht.Rws ((W3.setCell ⟨w.heap.size, 3, none⟩ (.slice (some ⟨w.heap.size + 1, 0, none⟩) m cap)).setCell ⟨w.heap.size, 4, none⟩ (.slice (some ⟨gb, 0, none⟩) m m)) 4 T (.slice (some ⟨w.heap.size + 1, 0, none⟩) m cap) (.slice (some ⟨gb, 0, none⟩) m m)) := ⟨⟨_, _, _, rfl, R12.out.1, R12.out.2⟩, (fun _ => t3.hb hb4 h3), (fun _ => r3.hb hb4 h3)⟩
  have b4 : Hid (Below w.heap.size w ((W3.setCell ⟨w.heap.size, 3, none⟩ (.slice (some ⟨w.heap.size + 1, 0, none⟩) m cap)).setCell ⟨w.heap.size, 4, none⟩ (.slice (some ⟨gb, 0, none⟩) m m))) := (b3.out.setCell (Nat.le_refl _) _).setCell (Nat.le_refl _) _
  have CM := hide' (htComing h4 (by simp [Ht.cok]))
  obtain ⟨_, _, _, _, _, _, _, d7, f7⟩ := h4.cells
  have H4 := hide' h4
  clear h3 h4 hb4 t3 r3 g1 g2 g3 g4 b3
  go_wp2_with fail
  refine CM.out.mono ?_
  rintro e w1 ⟨rfl, k, rfl⟩
  have K := Ht.newFin (by simp [Ht.cok]) H4.out R4.out b4.out (fun _ => HM.out.symm) k
  go_wp2_with fail
  refine bodyPost_ret (v := .tuple #[.pointer (some ⟨w.heap.size, 0, none⟩), .int .i64 0]) (by simp [results, Try.results5, go_sem]) rfl ?_
  exact ⟨_, rfl, Nat.le_refl _, K⟩
set_option maxRecDepth 100000 in
set_option maxHeartbeats 4000000 in
theorem htNew5 (N : Int) (f : Nat → Nat) (n : Nat) (w : World) (hf : ∀ j, f j < 256) (hn : n ≤ 1099511627776) (hN : 0 ≤ N) (hN2 : N ≤ 9223372036854775807) :
    Calls Try.prog 5 #[.int .i64 5, .string (Rn.arr f n), .int .i64 N] w (Ht.NewE w 5 N (Wd.R f n 0)) := by
  have h1 : Ht.HC (w.alloc (.cells #[.int .i64 5, .bool false, .int .i64 N, .slice none 0 0, .slice none 0 0, .bool false, .int .i64 0, .int .i64 0] 48)) w.heap.size 5 false N (.slice none 0 0) (.slice none 0 0) false 0 0 := Ht.HC.new w 5 false N
  have b1 : Below w.heap.size w (w.alloc (.cells #[.int .i64 5, .bool false, .int .i64 N, .slice none 0 0, .slice none 0 0, .bool false, .int .i64 0, .int .i64 0] 48)) := (Below.refl w.heap.size w).alloc (Nat.le_refl _) _
  have s1 : (w.alloc (.cells #[.int .i64 5, .bool false, .int .i64 N, .slice none 0 0, .slice none 0 0, .bool false, .int .i64 0, .int .i64 0] 48)).heap.size = w.heap.size + 1 := by simp
  obtain ⟨cap, W2, hcv, r1, r2, r3, r4, _, r6⟩ := conv_runes f n (w.alloc (.cells #[.int .i64 5, .bool false, .int .i64 N, .slice none 0 0, .slice none 0 0, .bool false, .int .i64 0, .int .i64 0] 48)) hf (by omega)
  rw [Wd.R_rl] at hcv r1 r3
  have hl := Wd.R_length f n 0 hf
  have h2 := h1.below (by rw [s1] at r4 ⊢; exact r4)
  rw [s1] at hcv r3 r4 r6
  have b2 := hide' (b1.trans (r4.mono (Nat.le_succ _)))
  obtain ⟨cs, r6, r7⟩ := r6
  obtain ⟨T, hT⟩ : ∃ T, Wd.R f n 0 = T := ⟨_, rfl⟩
  rw [hT] at hcv r1 r3 hl
  have t2 : Ht.TR W2 T (.slice (some ⟨w.heap.size + 1, 0, none⟩) T.length cap) := ⟨_, cap, cs, rfl, r1, r2, r3, r6⟩
  have cb := border_any f n W2 hf hn
  rw [hT] at cb
  obtain ⟨m, hm⟩ : ∃ m, T.length = m := ⟨_, rfl⟩
  have CB := hide' cb
  clear cb
  rw [hT]
  have HM := hide' hm
  have H2 := hide' h2
  have R12 := hide' (show m ≤ cap ∧ cap ≤ maxLen from ⟨by omega, r2⟩)
  have T2 := hide' t2
  simp only [hm] at hcv
  clear h1 h2 hm hT r1 r2 r3 r4 r6 r7 t2 b1 hl
  go_enter Try.func5, Try.ntmps5
  go_wp2_with fail
  refine CB.out.mono ?_
  rintro e W3 ⟨gb, rfl, g1, ⟨bf, ⟨cur, g2⟩, g3⟩, g4⟩
  have h3 := H2.out.below g4
  have b3 := hide' (b2.out.trans (g4.mono b2.out.size))
  have t3 := T2.out.below g4
  have r3 : Ht.BR W3 T (.slice (some ⟨gb, 0, none⟩) T.length T.length) := ⟨gb, bf, cur, rfl, g2, fun j hj => by rw [← Ht.lg_eq]; exact g3 j hj⟩
  rw [HM.out] at t3 r3 ⊢
  obtain ⟨_, _, _, d3, d4, _, _, _, f3⟩ := h3.cells
  have h4 := (h3.set3 (.slice (some ⟨w.heap.size + 1, 0, none⟩) m cap)).set4 (.slice (some ⟨gb, 0, none⟩) m m)
  have hb4 : Ht.Hb w.heap.size W3 ((W3.setCell ⟨w.heap.size, 3, none⟩ (.slice (some ⟨w.heap.size + 1, 0, none⟩) m cap)).setCell ⟨w.heap.size, 4, none⟩ (.slice (some ⟨gb, 0, none⟩) m m)) := ((Ht.Hb.refl _ _).setCell _ _).setCell _ _
  have R4 : Hid (Ht.Rws ((W3.setCell ⟨w.heap.size, 3, none⟩ (.slice (some ⟨w.heap.size + 1, 0, none⟩) m cap)).setCell ⟨w.heap.size, 4, none⟩ (.slice (some ⟨gb, 0, none⟩) m m)) 5 T (.slice (some ⟨w.heap.size + 1, 0, none⟩) m cap) (.slice (some ⟨gb, 0, none⟩) m m)) := ⟨⟨_, _, _, rfl, R12.out.1, R12.out.2⟩, (fun _ => t3.hb hb4 h3), (fun _ => r3.hb hb4 h3)⟩
  have b4 : Hid (Below w.heap.size w ((W3.setCell ⟨w.heap.size, 3, none⟩ (.slice (some ⟨w.heap.size + 1, 0, none⟩) m cap)).setCell ⟨w.heap.size, 4, none⟩ (.slice (some ⟨gb, 0, none⟩) m m))) := (b3.out.setCell (Nat.le_refl _) _).setCell (Nat.le_refl _) _
  have CM := hide' (htComing h4 (by simp [Ht.cok]))
  obtain ⟨_, _, _, _, _, _, _, d7, f7⟩ := h4.cells
  have H4 := hide' h4
  clear h3 h4 hb4 t3 r3 g1 g2 g3 g4 b3
  go_wp2_with fail
  refine CM.out.mono ?_
  rintro e w1 ⟨rfl, k, rfl⟩
  have K := Ht.newFin (by simp [Ht.cok]) H4.out R4.out b4.out (fun _ => HM.out.symm) k
  go_wp2_with fail
  refine bodyPost_ret (v := .tuple #[.pointer (some ⟨w.heap.size, 0, none⟩), .int .i64 0]) (by simp [results, Try.results5, go_sem]) rfl ?_
  exact ⟨_, rfl, Nat.le_refl _, K⟩
set_option maxRecDepth 100000 in
set_option maxHeartbeats 4000000 in
theorem htNew6 (N : Int) (f : Nat → Nat) (n : Nat) (w : World) (_hf : ∀ j, f j < 256) (_hn : n ≤ 1099511627776) (hN : 0 ≤ N) (hN2 : N ≤ 9223372036854775807) :
    Calls Try.prog 5 #[.int .i64 6, .string (Rn.arr f n), .int .i64 N] w (Ht.NewE w 6 N (Wd.R f n 0)) := by
  have h1 : Ht.HC (w.alloc (.cells #[.int .i64 6, .bool false, .int .i64 N, .slice none 0 0, .slice none 0 0, .bool false, .int .i64 0, .int .i64 0] 48)) w.heap.size 6 false N (.slice none 0 0) (.slice none 0 0) false 0 0 := Ht.HC.new w 6 false N
  have b1 : Below w.heap.size w (w.alloc (.cells #[.int .i64 6, .bool false, .int .i64 N, .slice none 0 0, .slice none 0 0, .bool false, .int .i64 0, .int .i64 0] 48)) := (Below.refl w.heap.size w).alloc (Nat.le_refl _) _
  have R1 : Hid (Ht.Rws (w.alloc (.cells #[.int .i64 6, .bool false, .int .i64 N, .slice none 0 0, .slice none 0 0, .bool false, .int .i64 0, .int .i64 0] 48)) 6 (Wd.R f n 0) (.slice none 0 0) (.slice none 0 0)) := ⟨⟨_, _, _, rfl, by omega, by unfold maxLen; omega⟩, (fun k => by simp at k), (fun k => by simp at k)⟩
  have CM := hide' (htComing h1 (by simp [Ht.cok]))
  obtain ⟨_, _, _, _, _, _, _, d7, f7⟩ := h1.cells
  have H1 := hide' h1
  have B1 := hide' b1
  clear h1 b1
  go_enter Try.func5, Try.ntmps5
  go_wp2_with fail
  refine CM.out.mono ?_
  rintro e w1 ⟨rfl, k, rfl⟩
  have K := Ht.newFin (by simp [Ht.cok]) H1.out R1.out B1.out (fun k => by simp at k) k
  go_wp2_with fail
  refine bodyPost_ret (v := .tuple #[.pointer (some ⟨w.heap.size, 0, none⟩), .int .i64 0]) (by simp [results, Try.results5, go_sem]) rfl ?_
  exact ⟨_, rfl, Nat.le_refl _, K⟩
set_option maxRecDepth 100000 in
set_option maxHeartbeats 4000000 in
theorem htNew7 (N : Int) (f : Nat → Nat) (n : Nat) (w : World) (_hf : ∀ j, f j < 256) (_hn : n ≤ 1099511627776) (hN : 0 ≤ N) (hN2 : N ≤ 9223372036854775807) :
    Calls Try.prog 5 #[.int .i64 7, .string (Rn.arr f n), .int .i64 N] w (Ht.NewE w 7 N (Wd.R f n 0)) := by
  have h1 : Ht.HC (w.alloc (.cells #[.int .i64 7, .bool false, .int .i64 N, .slice none 0 0, .slice none 0 0, .bool false, .int .i64 0, .int .i64 0] 48)) w.heap.size 7 false N (.slice none 0 0) (.slice none 0 0) false 0 0 := Ht.HC.new w 7 false N
  have b1 : Below w.heap.size w (w.alloc (.cells #[.int .i64 7, .bool false, .int .i64 N, .slice none 0 0, .slice none 0 0, .bool false, .int .i64 0, .int .i64 0] 48)) := (Below.refl w.heap.size w).alloc (Nat.le_refl _) _
  have R1 : Hid (Ht.Rws (w.alloc (.cells #[.int .i64 7, .bool false, .int .i64 N, .slice none 0 0, .slice none 0 0, .bool false, .int .i64 0, .int .i64 0] 48)) 7 (Wd.R f n 0) (.slice none 0 0) (.slice none 0 0)) := ⟨⟨_, _, _, rfl, by omega, by unfold maxLen; omega⟩, (fun k => by simp at k), (fun k => by simp at k)⟩
  have CM := hide' (htComing h1 (by simp [Ht.cok]))
  obtain ⟨_, _, _, _, _, _, _, d7, f7⟩ := h1.cells
  have H1 := hide' h1
  have B1 := hide' b1
  clear h1 b1
  go_enter Try.func5, Try.ntmps5
  go_wp2_with fail
  refine CM.out.mono ?_
  rintro e w1 ⟨rfl, k, rfl⟩
  have K := Ht.newFin (by simp [Ht.cok]) H1.out R1.out B1.out (fun k => by simp at k) k
  go_wp2_with fail
  refine bodyPost_ret (v := .tuple #[.pointer (some ⟨w.heap.size, 0, none⟩), .int .i64 0]) (by simp [results, Try.results5, go_sem]) rfl ?_
  exact ⟨_, rfl, Nat.le_refl _, K⟩
set_option maxRecDepth 100000 in
set_option maxHeartbeats 4000000 in
theorem htNew8 (N : Int) (f : Nat → Nat) (n : Nat) (w : World) (_hf : ∀ j, f j < 256) (_hn : n ≤ 1099511627776) (hN : 0 ≤ N) (hN2 : N ≤ 9223372036854775807) :
    Calls Try.prog 5 #[.int .i64 8, .string (Rn.arr f n), .int .i64 N] w (Ht.NewE w 8 N (Wd.R f n 0)) := by
  have h1 : Ht.HC (w.alloc (.cells #[.int .i64 7, .bool true, .int .i64 (N - 1), .slice none 0 0, .slice none 0 0, .bool false, .int .i64 0, .int .i64 0] 48)) w.heap.size 7 true (N - 1) (.slice none 0 0) (.slice none 0 0) false 0 0 := Ht.HC.new w 7 true (N - 1)
  have b1 : Below w.heap.size w (w.alloc (.cells #[.int .i64 7, .bool true, .int .i64 (N - 1), .slice none 0 0, .slice none 0 0, .bool false, .int .i64 0, .int .i64 0] 48)) := (Below.refl w.heap.size w).alloc (Nat.le_refl _) _
  have R1 : Hid (Ht.Rws (w.alloc (.cells #[.int .i64 7, .bool true, .int .i64 (N - 1), .slice none 0 0, .slice none 0 0, .bool false, .int .i64 0, .int .i64 0] 48)) 7 (Wd.R f n 0) (.slice none 0 0) (.slice none 0 0)) := ⟨⟨_, _, _, rfl, by omega, by unfold maxLen; omega⟩, (fun k => by simp at k), (fun k => by simp at k)⟩
  have CM := hide' (htComing h1 (by simp [Ht.cok]))
  obtain ⟨_, _, _, _, _, _, _, d7, f7⟩ := h1.cells
  have H1 := hide' h1
  have B1 := hide' b1
  clear h1 b1
  go_enter Try.func5, Try.ntmps5
  go_wp2_with fail
  refine CM.out.mono ?_
  rintro e w1 ⟨rfl, k, rfl⟩
  have K := Ht.newFin (by simp [Ht.cok]) H1.out R1.out B1.out (fun k => by simp at k) k
  go_wp2_with fail
  refine bodyPost_ret (v := .tuple #[.pointer (some ⟨w.heap.size, 0, none⟩), .int .i64 0]) (by simp [results, Try.results5, go_sem]) rfl ?_
  exact ⟨_, rfl, Nat.le_refl _, K⟩
theorem htNew (c N : Int) (f : Nat → Nat) (n : Nat) (w : World) (hf : ∀ j, f j < 256) (hn : n ≤ 1099511627776) (hN : 0 ≤ N) (hN2 : N ≤ 9223372036854775807) (h0 : 0 ≤ c) (h8 : c ≤ 8) :
    Calls Try.prog 5 #[.int .i64 c, .string (Rn.arr f n), .int .i64 N] w (Ht.NewE w c N (Wd.R f n 0)) := by
  rcases (show c = 0 ∨ c = 1 ∨ c = 2 ∨ c = 3 ∨ c = 4 ∨ c = 5 ∨ c = 6 ∨ c = 7 ∨ c = 8 by omega) with rfl | rfl | rfl | rfl | rfl | rfl | rfl | rfl | rfl
  · exact htNew0 N f n w hf hn hN hN2
  · exact htNew1 N f n w hf hn hN hN2
  · exact htNew2 N f n w hf hn hN hN2
  · exact htNew3 N f n w hf hn hN hN2
  · exact htNew4 N f n w hf hn hN hN2
  · exact htNew5 N f n w hf hn hN hN2
  · exact htNew6 N f n w hf hn hN hN2
  · exact htNew7 N f n w hf hn hN hN2
  · exact htNew8 N f n w hf hn hN hN2
set_option maxHeartbeats 1000000 in
/-- no comparison; a number below 0 -/
theorem htNewBad (c N : Int) (s : ByteArray) (w : World) (h : c < 0 ∨ 8 < c ∨ N < 0) :
    Calls Try.prog 5 #[.int .i64 c, .string s, .int .i64 N] w fun e w' => e = .returned (.tuple #[.pointer none, .int .i64 (if c < 0 ∨ 8 < c then 4 else 2)]) ∧ w' = w := by
  by_cases a : c < 0
  · have e0 := hide' (show (if c < 0 ∨ 8 < c then (4 : Int) else 2) = 4 by simp [a])
    rw [e0.out]
    clear h
    go_enter Try.func5, Try.ntmps5
    go_wp2_with fail
    refine bodyPost_ret (v := .tuple #[.pointer none, .int .i64 4]) (by simp [results, Try.results5, go_sem]) rfl ?_
    exact ⟨rfl, rfl⟩
  · by_cases b : 8 < c
    · have e0 := hide' (show (if c < 0 ∨ 8 < c then (4 : Int) else 2) = 4 by simp [b])
      rw [e0.out]
      clear h
      go_enter Try.func5, Try.ntmps5
      go_wp2_with fail
      refine bodyPost_ret (v := .tuple #[.pointer none, .int .i64 4]) (by simp [results, Try.results5, go_sem]) rfl ?_
      exact ⟨rfl, rfl⟩
    · have e0 := hide' (show (if c < 0 ∨ 8 < c then (4 : Int) else 2) = 2 by simp [a, b])
      have hN : N < 0 := by omega
      rw [e0.out]
      clear h
      go_enter Try.func5, Try.ntmps5
      go_wp2_with fail
      refine bodyPost_ret (v := .tuple #[.pointer none, .int .i64 2]) (by simp [results, Try.results5, go_sem]) rfl ?_
      exact ⟨rfl, rfl⟩
end Go.Proofs.Ytgbldbohadacmaa
