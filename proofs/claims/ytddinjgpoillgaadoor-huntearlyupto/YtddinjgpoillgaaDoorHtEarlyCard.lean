import Derived.Test.YtddinjgpoillgaaDoorHtEarly1
import Derived.Test.YtddinjgpoillgaaDoorHtEarly2
import Derived.Test.YtddinjgpoillgaaDoorHtEarly3
import Derived.Test.YtddinjgpoillgaaDoorHtEarly4
import Derived.Test.YtddinjgpoillgaaDoorHtOnceM
import Derived.Test.YtddinjgpoillgaaDoorRows
import Derived.ProofKit
import Derived.OpenShut
import Derived.JoinedCond
import Derived.Lib.RowBridge
import Derived.Test.YtddinjgpoillgaaDoorRnShelf
import Derived.WalkKit
import Derived.PinnedBridge
import Derived.Lib.LaidU8T
import Derived.Lay
import Derived.LaidOnce
import Derived.Deep.DeepHandedRow
import Derived.Test.YtddinjgpoillgaaDoorCards
import Derived.Test.YtddinjgpoillgaaDoorTie
import Derived.SevenTiedAt
import Derived.ChangeMaps5
/-
  THE WALK over gimletlaw16.HuntEarly, where something is known early, and where a text is asked to end with nothing; the law whole (gen_early5.py).
-/
namespace Go.Proofs.YtddinjgpoillgaaDoor
open Go.RowKit Go.Lib
set_option maxRecDepth 100000 in
set_option maxHeartbeats 8000000 in
theorem lawEarlyK (C N : Int) (f : Nat → Nat) (n : Nat) (g : Nat → Nat) (m : Nat) (g2 : Nat → Nat) (m2 : Nat) (w : World) (hf : ∀ j, f j < 256) (hg : ∀ j, g j < 256) (hg2 : ∀ j, g2 j < 256) (hn : n ≤ 1099511627776) (hm : m ≤ 1099511627776) (hm2 : m2 ≤ 1099511627776) (_hN1 : -9223372036854775808 ≤ N) (hN2 : N ≤ 9223372036854775807) (_hT0 : Lib.Utf8Tabs 0 1 w) (hk : Ht.tru (Ht.cc (Ht.inz C 9)) (Ht.tdc (Ht.inz C 9)) (Ht.cn (Ht.inz C 9) (max N 0)) (Wd.R f n 0) (Wd.R g m 0) false ≠ 1) :
    Calls Tryd.prog 4 #[.agg #[.int .i64 C, .string (Rn.arr f n), .int .i64 N], .string (Rn.arr g m), .string (Rn.arr g2 m2)] w fun r w' => r = .returned (.bool true) ∧ Below w.heap.size w w' := by
  have CA := hide' (fun w1 => htAsked C N f n w1 hf hn hN2)
  unfold Ht.AskE at CA
  have hxl := Wd.R_length g m 0 hg
  obtain ⟨T, hT⟩ : ∃ T, Wd.R f n 0 = T := ⟨_, rfl⟩
  obtain ⟨K, hK⟩ : ∃ K : Int, max N 0 = K := ⟨_, rfl⟩
  rw [hT] at CA hk
  obtain ⟨c, hc⟩ : ∃ c, Ht.inz C 9 = c := ⟨_, rfl⟩
  rw [hc] at hk
  rw [hc, hK] at CA
  rw [hK] at hk
  have CG := hide' (fun (w1 : World) b (h : Ht.Hu w1 b (Ht.cc c) (Ht.tdc c) (Ht.cn c K) T [] false) => htAdd h g m hg (by simp; omega))
  simp only [List.nil_append] at CG
  have CM := hide' (fun (w1 : World) b L (h : Ht.Hu w1 b (Ht.cc c) (Ht.tdc c) (Ht.cn c K) T L false) (hl : L.length ≤ 1099511627776) => htAdd h g2 m2 hg2 (by omega))
  obtain ⟨X, hX⟩ : ∃ X, Wd.R g m 0 = X := ⟨_, rfl⟩
  obtain ⟨Y, hY⟩ : ∃ Y, Wd.R g2 m2 0 = Y := ⟨_, rfl⟩
  rw [hX] at CG hxl hk
  rw [hY] at CM
  have hXl : X.length ≤ 1099511627776 := by omega
  obtain ⟨W, hWd⟩ : ∃ W, w.alloc (.cells #[.int .i64 C, .string (Rn.arr f n), .int .i64 N] 23) = W := ⟨_, rfl⟩
  have HBW : Hid (Below w.heap.size w W) := by rw [← hWd]; exact (Below.refl _ _).alloc (Nat.le_refl _) _
  have HUP : Hid (∀ w', Below W.heap.size W w' → Below w.heap.size w w') := fun w' h => HBW.out.trans (h.mono HBW.out.size)
  have HBX : Hid (∀ w', Below W.heap.size W w' → w'.cell? ⟨w.heap.size, 0, none⟩ = some (.int .i64 C) ∧ w'.cell? ⟨w.heap.size, 1, none⟩ = some (.string (Rn.arr f n)) ∧ w'.cell? ⟨w.heap.size, 2, none⟩ = some (.int .i64 N)) := fun w' h => by
    have hw0 : w.heap.size < W.heap.size := by rw [← hWd]; simp
    have e : ∀ o, w'.cell? ⟨w.heap.size, o, none⟩ = W.cell? ⟨w.heap.size, o, none⟩ := fun o => h.cell (p := ⟨w.heap.size, o, none⟩) hw0
    rw [e, e, e, ← hWd]
    refine ⟨?_, ?_, ?_⟩ <;> simp
  have HWd := hide' hWd
  obtain ⟨e, he⟩ : ∃ e, Ht.tru (Ht.cc c) (Ht.tdc c) (Ht.cn c K) T X false = e := ⟨_, rfl⟩
  have HTV := hide' he
  rw [he] at hk
  have g1 : (e != 1) = true := by simp [hk]
  have HKK : Hid (Ht.tru (Ht.cc c) (Ht.tdc c) (Ht.cn c K) T (X ++ Y) true = e) := by
    show _ = _
    rw [← he]
    by_cases hcc : Ht.cok (Ht.cc c)
    · exact Ht.early_known hcc (by rw [he]; exact hk) Y
    · exact absurd (by
        have := Ht.inz_lt C (m := 9) (by omega)
        rw [hc] at this
        rcases (show c = 0 ∨ c = 1 ∨ c = 2 ∨ c = 3 ∨ c = 4 ∨ c = 5 ∨ c = 6 ∨ c = 7 ∨ c = 8 by omega) with rfl | rfl | rfl | rfl | rfl | rfl | rfl | rfl | rfl <;> simp [Ht.cok, Ht.cc]) hcc
  have g2 : (e == e) = true := by simp
  clear hX hY hT hc hK hWd hf hg hg2 hk he
  go_enter Tryd.func4, Tryd.ntmps4
  go_wp2_with fail
  rw [HWd.out]
  refine (htAwake W).mono ?_
  rintro r w1 ⟨rfl, hb⟩
  have HB1 := hide' hb
  obtain ⟨q0, q1, q2⟩ := HBX.out w1 hb
  clear hb
  go_wp2_with fail
  refine (CA.out w1).mono ?_
  rintro r w2 ⟨b1, rfl, h1, hu, hb⟩
  have HB2 := hide' (HB1.out.trans (hb.mono HB1.out.size))
  have hb1 : W.heap.size ≤ b1 := Nat.le_trans HB1.out.size h1
  have HU := hide' hu
  clear q0 q1 q2 hu hb HB1 h1
  go_wp2_with fail
  refine (CG.out w2 b1 HU.out).mono ?_
  rintro r w3 ⟨rfl, hu, hb⟩
  have HU3 := hide' hu
  have HB3 := hide' (HB2.out.trans (hb.below hb1 HB2.out.size))
  clear hu hb HB2 HU
  have CT := hide' (htTruth HU3.out)
  rw [HTV.out] at CT
  go_wp2_with fail
  refine (CT.out).mono ?_
  rintro r w3' ⟨rfl, rfl⟩
  clear CT
  go_wp2_with fail
  refine (CM.out _ b1 X HU3.out hXl).mono ?_
  rintro r w4 ⟨rfl, hu, hb⟩
  have HU4 := hide' hu
  have HB4 := hide' (HB3.out.trans (hb.below hb1 HB3.out.size))
  clear hu hb HB3 HU3 CM
  have CC := hide' (htClose HU4.out)
  go_wp2_with fail
  refine (CC.out).mono ?_
  rintro r w5 ⟨rfl, hu, hb⟩
  have HU5 := hide' hu
  have HB5 := hide' (HB4.out.trans (hb.below hb1 HB4.out.size))
  clear hu hb HB4 HU4 CC
  have CT := hide' (htTruth HU5.out)
  rw [HKK.out] at CT
  go_wp2_with fail
  refine (CT.out).mono ?_
  rintro r w6 ⟨rfl, rfl⟩
  go_wp2_with fail
  go_ret
  exact ⟨rfl, HUP.out _ HB5.out⟩
set_option maxRecDepth 100000 in
set_option maxHeartbeats 8000000 in
theorem lawEarlyN (C N : Int) (f : Nat → Nat) (n : Nat) (g : Nat → Nat) (m : Nat) (g2 : Nat → Nat) (m2 : Nat) (w : World) (hf : ∀ j, f j < 256) (hg : ∀ j, g j < 256) (hg2 : ∀ j, g2 j < 256) (hn : n ≤ 1099511627776) (hm : m ≤ 1099511627776) (hm2 : m2 ≤ 1099511627776) (_hN1 : -9223372036854775808 ≤ N) (hN2 : N ≤ 9223372036854775807) (_hT0 : Lib.Utf8Tabs 0 1 w) (hk : Ht.tru (Ht.cc (Ht.inz C 9)) (Ht.tdc (Ht.inz C 9)) (Ht.cn (Ht.inz C 9) (max N 0)) (Wd.R f n 0) (Wd.R g m 0) false = 1) (hc4 : Ht.inz C 9 = 4) (hn0 : n = 0) :
    Calls Tryd.prog 4 #[.agg #[.int .i64 C, .string (Rn.arr f n), .int .i64 N], .string (Rn.arr g m), .string (Rn.arr g2 m2)] w fun r w' => r = .returned (.bool true) ∧ Below w.heap.size w w' := by
  have CA := hide' (fun w1 => htAsked C N f n w1 hf hn hN2)
  unfold Ht.AskE at CA
  have hxl := Wd.R_length g m 0 hg
  obtain ⟨T, hT⟩ : ∃ T, Wd.R f n 0 = T := ⟨_, rfl⟩
  have CI := hide' (fun w1 => htInto C 9 w1 (by omega) (by omega))
  obtain ⟨K, hK⟩ : ∃ K : Int, max N 0 = K := ⟨_, rfl⟩
  have hRn := Wd.R_nil f n hf
  have hem := wd_empty f n
  rw [decide_eq_true hn0] at hem
  have hem3 : ((Rn.arr f n).toList == []) = true := by
    cases h : (Rn.arr f n).toList with
    | nil => rfl
    | cons a l => rw [h] at hem; cases hem
  rw [hT] at hRn
  have hT0' : T = [] := hRn.2 hn0
  rw [hT] at CA hk
  obtain ⟨c, hc⟩ : ∃ c, Ht.inz C 9 = c := ⟨_, rfl⟩
  rw [hc] at hk CI hc4
  rw [hc, hK] at CA
  rw [hK] at hk
  have CG := hide' (fun (w1 : World) b (h : Ht.Hu w1 b (Ht.cc c) (Ht.tdc c) (Ht.cn c K) T [] false) => htAdd h g m hg (by simp; omega))
  simp only [List.nil_append] at CG
  have CM := hide' (fun (w1 : World) b L (h : Ht.Hu w1 b (Ht.cc c) (Ht.tdc c) (Ht.cn c K) T L false) (hl : L.length ≤ 1099511627776) => htAdd h g2 m2 hg2 (by omega))
  obtain ⟨X, hX⟩ : ∃ X, Wd.R g m 0 = X := ⟨_, rfl⟩
  obtain ⟨Y, hY⟩ : ∃ Y, Wd.R g2 m2 0 = Y := ⟨_, rfl⟩
  rw [hX] at CG hxl hk
  rw [hY] at CM
  have hXl : X.length ≤ 1099511627776 := by omega
  obtain ⟨W, hWd⟩ : ∃ W, w.alloc (.cells #[.int .i64 C, .string (Rn.arr f n), .int .i64 N] 23) = W := ⟨_, rfl⟩
  have HBW : Hid (Below w.heap.size w W) := by rw [← hWd]; exact (Below.refl _ _).alloc (Nat.le_refl _) _
  have HUP : Hid (∀ w', Below W.heap.size W w' → Below w.heap.size w w') := fun w' h => HBW.out.trans (h.mono HBW.out.size)
  have HBX : Hid (∀ w', Below W.heap.size W w' → w'.cell? ⟨w.heap.size, 0, none⟩ = some (.int .i64 C) ∧ w'.cell? ⟨w.heap.size, 1, none⟩ = some (.string (Rn.arr f n)) ∧ w'.cell? ⟨w.heap.size, 2, none⟩ = some (.int .i64 N)) := fun w' h => by
    have hw0 : w.heap.size < W.heap.size := by rw [← hWd]; simp
    have e : ∀ o, w'.cell? ⟨w.heap.size, o, none⟩ = W.cell? ⟨w.heap.size, o, none⟩ := fun o => h.cell (p := ⟨w.heap.size, o, none⟩) hw0
    rw [e, e, e, ← hWd]
    refine ⟨?_, ?_, ?_⟩ <;> simp
  have HWd := hide' hWd
  obtain ⟨e, he⟩ : ∃ e, Ht.tru (Ht.cc c) (Ht.tdc c) (Ht.cn c K) T X false = e := ⟨_, rfl⟩
  have HTV := hide' he
  rw [he] at hk
  subst hk
  have HKK : Hid (Ht.tru (Ht.cc c) (Ht.tdc c) (Ht.cn c K) T (X ++ Y) true = 2) := by
    show _ = _
    subst hc4 hT0'
    simp [Ht.tru, Ht.cc, Ht.tdc, Ht.fin]
  have e4 : ((c : Int) == 4) = true := by simp [hc4]
  clear hX hY hT hc hK hWd hf hg hg2 he hRn hem hc4 hn0 hT0'
  go_enter Tryd.func4, Tryd.ntmps4
  go_wp2_with fail
  rw [HWd.out]
  refine (htAwake W).mono ?_
  rintro r w1 ⟨rfl, hb⟩
  have HB1 := hide' hb
  obtain ⟨q0, q1, q2⟩ := HBX.out w1 hb
  clear hb
  go_wp2_with fail
  refine (CA.out w1).mono ?_
  rintro r w2 ⟨b1, rfl, h1, hu, hb⟩
  have HB2 := hide' (HB1.out.trans (hb.mono HB1.out.size))
  have hb1 : W.heap.size ≤ b1 := Nat.le_trans HB1.out.size h1
  have HU := hide' hu
  clear q0 q1 q2 hu hb HB1 h1
  go_wp2_with fail
  refine (CG.out w2 b1 HU.out).mono ?_
  rintro r w3 ⟨rfl, hu, hb⟩
  have HU3 := hide' hu
  have HB3 := hide' (HB2.out.trans (hb.below hb1 HB2.out.size))
  clear hu hb HB2 HU
  have CT := hide' (htTruth HU3.out)
  rw [HTV.out] at CT
  go_wp2_with fail
  refine (CT.out).mono ?_
  rintro r w3' ⟨rfl, rfl⟩
  clear CT
  go_wp2_with fail
  refine (CM.out _ b1 X HU3.out hXl).mono ?_
  rintro r w4 ⟨rfl, hu, hb⟩
  have HU4 := hide' hu
  have HB4 := hide' (HB3.out.trans (hb.below hb1 HB3.out.size))
  clear hu hb HB3 HU3 CM
  have CC := hide' (htClose HU4.out)
  go_wp2_with fail
  refine (CC.out).mono ?_
  rintro r w5 ⟨rfl, hu, hb⟩
  have HU5 := hide' hu
  have HB5 := hide' (HB4.out.trans (hb.below hb1 HB4.out.size))
  clear hu hb HB4 HU4 CC
  have CT := hide' (htTruth HU5.out)
  rw [HKK.out] at CT
  obtain ⟨q0, q1, q2⟩ := HBX.out w5 HB5.out
  go_wp2_with fail
  refine (CI.out w5).mono ?_
  rintro r w5' ⟨rfl, rfl⟩
  clear CI
  go_wp2_with fail
  refine (CT.out).mono ?_
  rintro r w6 ⟨rfl, rfl⟩
  go_wp2_with fail
  go_ret
  exact ⟨rfl, HUP.out _ HB5.out⟩
theorem lawEarly16 (C N : Int) (f : Nat → Nat) (n : Nat) (g : Nat → Nat) (m : Nat) (g2 : Nat → Nat) (m2 : Nat) (w : World) (hf : ∀ j, f j < 256) (hg : ∀ j, g j < 256) (hg2 : ∀ j, g2 j < 256) (hn : n ≤ 1099511627776) (hm : m ≤ 1099511627776) (hm2 : m2 ≤ 1099511627776) (hN1 : -9223372036854775808 ≤ N) (hN2 : N ≤ 9223372036854775807) (hT0 : Lib.Utf8Tabs 0 1 w) :
    Calls Tryd.prog 4 #[.agg #[.int .i64 C, .string (Rn.arr f n), .int .i64 N], .string (Rn.arr g m), .string (Rn.arr g2 m2)] w fun r w' => r = .returned (.bool true) ∧ Below w.heap.size w w' := by
  by_cases hk : Ht.tru (Ht.cc (Ht.inz C 9)) (Ht.tdc (Ht.inz C 9)) (Ht.cn (Ht.inz C 9) (max N 0)) (Wd.R f n 0) (Wd.R g m 0) false = 1
  · by_cases hc4 : Ht.inz C 9 = 4
    · by_cases hn0 : n = 0
      · exact lawEarlyN C N f n g m g2 m2 w hf hg hg2 hn hm hm2 hN1 hN2 hT0 hk hc4 hn0
      · by_cases hP : [1] <:+ Wd.R f n 0
        · exact lawEarly1 C N f n g m g2 m2 w hf hg hg2 hn hm hm2 hN1 hN2 hT0 hk hc4 (by omega) hP
        · exact lawEarly2 C N f n g m g2 m2 w hf hg hg2 hn hm hm2 hN1 hN2 hT0 hk hc4 (by omega) hP
    · by_cases hP : [1] <:+ Wd.R f n 0
      · exact lawEarly3 C N f n g m g2 m2 w hf hg hg2 hn hm hm2 hN1 hN2 hT0 hk hc4 hP
      · exact lawEarly4 C N f n g m g2 m2 w hf hg hg2 hn hm hm2 hN1 hN2 hT0 hk hc4 hP
  · exact lawEarlyK C N f n g m g2 m2 w hf hg hg2 hn hm hm2 hN1 hN2 hT0 hk
end Go.Proofs.YtddinjgpoillgaaDoor
/-
  What the second form's bound gives; what a row tells of an Asked and of a row of numbers that came in.
-/
namespace Go.Proofs.YtddinjgpoillgaaDoor
open Go.RowKit Go.Lib
open Go.ChangeShapes Go.WideShapes Go.ChangeAt Go.Joins
theorem htBulkOne {H : Type} (d : DataW H) : 1 ≤ Rows.uptoBulk d := by
  cases d with
  | lit l => cases l <;> simp [Rows.uptoBulk]
  | nil => simp [Rows.uptoBulk]
  | ptr d => simp [Rows.uptoBulk]
  | slice elems spare => simp [Rows.uptoBulk]
  | agg parts => simp [Rows.uptoBulk]
  | iface t d => simp [Rows.uptoBulk]
  | map entries => simp [Rows.uptoBulk]
  | held h => simp [Rows.uptoBulk]
theorem htBulkLen {H : Type} (l : List (DataW H)) : l.length ≤ Rows.uptoBulkAll l := by
  induction l with
  | nil => simp [Rows.uptoBulkAll]
  | cons x r ih => have := htBulkOne x; simp only [Rows.uptoBulkAll, List.length_cons]; omega
theorem htBulkPart {H : Type} {d : DataW H} {l : List (DataW H)} (h : d ∈ l) : Rows.uptoBulk d ≤ Rows.uptoBulkAll l := by
  induction l with
  | nil => cases h
  | cons x r ih =>
    simp only [Rows.uptoBulkAll]
    cases List.mem_cons.1 h with
    | inl e => subst e; omega
    | inr e => have := ih e; omega
theorem htBulk {H : Type} {l : List (DataW H)} (hk : Rows.uptoSmall H l = true) {d : DataW H} (h : d ∈ l) : Rows.uptoBulk d ≤ 1048576 := Nat.le_trans (htBulkPart h) (of_decide_eq_true hk)
set_option maxRecDepth 100000 in
set_option maxHeartbeats 800000 in
/-- a comparison that came in -/
theorem htAskedOf {H : Type} {enc : TypeId × Value → H} {W : World} {cs : Array Value} {d : DataW H} {p : List MemPlace} (hcs : cs.size = Tryd.prog.cellsOf 23) (h : DataW.Trod enc Tryd.prog W 0 (fun _ => true) true 23 (Value.agg cs) d p) :
    ∃ (C : Int) (s : ByteArray) (N : Int), cs = #[.int .i64 C, .string s, .int .i64 N] ∧ s.data.toList.length ≤ Rows.uptoBulk d ∧ N ≤ 9223372036854775807 ∧ -9223372036854775808 ≤ C ∧ C ≤ 9223372036854775807 := by
  rw [show Tryd.prog.cellsOf 23 = 3 from by kernel_rfl] at hcs
  obtain ⟨L⟩ := cs
  match L, hcs with
  | [v0, v1, v2], _ =>
    obtain ⟨fuel, hf⟩ := h
    change DataW.trod enc Tryd.prog W 0 (fun _ => true) true fuel 23 [v0, v1, v2] = some (d, p) at hf
    obtain ⟨ys, k, hk, hxy, _, hxl, hfl⟩ := DataW.trod_struct Tryd.underlying23 hf
    match ys, hxl with
    | [y0, y1, y2], _ =>
      have g0 := hfl 0 _ rfl
      have g1 := hfl 1 _ rfl
      have g2 := hfl 2 _ rfl
      have c0 : Tryd.prog.cellsOf 3 = 1 := by kernel_rfl
      have c1 : Tryd.prog.cellsOf 9 = 1 := by kernel_rfl
      simp [c0, c1] at g0 g1 g2
      obtain ⟨C, hC, _, wC⟩ := DataW.trod_int Tryd.underlying3 g0
      obtain ⟨T, hT, hT2, _⟩ := DataW.trod_string Tryd.underlying9 g1
      obtain ⟨N, hN, _, wN⟩ := DataW.trod_int Tryd.underlying3 g2
      obtain rfl : v0 = .int .i64 C := by simpa using hC
      obtain rfl : v1 = .string T := by simpa using hT
      obtain rfl : v2 = .int .i64 N := by simpa using hN
      have b1 : -9223372036854775808 ≤ C ∧ C ≤ 9223372036854775807 := by simpa [Lit.wf, IntKind.min, IntKind.max, IntKind.signed, IntKind.bits] using wC
      have b2 : -9223372036854775808 ≤ N ∧ N ≤ 9223372036854775807 := by simpa [Lit.wf, IntKind.min, IntKind.max, IntKind.signed, IntKind.bits] using wN
      refine ⟨C, T, N, rfl, ?_, b2.2, b1.1, b1.2⟩
      simp only [Prod.mk.injEq] at hxy
      rw [hxy.1]
      have h1 : y1.1 = .lit (.string T.data.toList) := congrArg Prod.fst hT2
      simp only [List.map, Rows.uptoBulk, Rows.uptoBulkAll, h1]
      omega
set_option maxRecDepth 100000 in
/-- numbers that came in -/
theorem htRiOf {H : Type} {enc : TypeId × Value → H} {W : World} {a : Option Addr} {len cap : Nat} {d : DataW H} {p : List MemPlace} (h : DataW.Trod enc Tryd.prog W 0 (fun _ => true) true 45 (Value.slice a len cap) d p) :
    ∃ l : List Int, Ht.Ri W (.slice a len cap) l ∧ l.length ≤ Rows.uptoBulk d := by
  obtain ⟨fuel, hf⟩ := h
  rcases open_ints Tryd.underlying45 Tryd.underlying3 (by kernel_rfl) hf with ⟨hcs, hx⟩ | ⟨a, len', cap', zs, hcs, _, hl, hmx, hz, hx, hcell, hwz⟩
  · simp [Value.cells] at hcs
    obtain ⟨rfl, rfl, rfl⟩ := hcs
    exact ⟨[], ⟨none, 0, rfl, by simp, by simp, by simp⟩, Nat.zero_le _⟩
  · simp [Value.cells] at hcs
    obtain ⟨rfl, rfl, rfl⟩ := hcs
    simp only [if_true] at hz
    have hmx2 : cap ≤ 9223372036854775807 := by unfold maxLen at hmx; omega
    have hll : (zs.take len).length = len := by rw [List.length_take]; omega
    refine ⟨zs.take len, ⟨some a, cap, by rw [hll], by rw [hll]; omega, hmx2, fun h0 => ?_⟩, ?_⟩
    · obtain ⟨b, off, spot⟩ := a
      rw [hll] at h0
      have hspot : spot = none := by simpa [Addr.add] using World.cell?_spot (hcell 0 (by omega))
      subst hspot
      refine ⟨b, off, rfl, fun i y hy => ?_⟩
      have hi : i < len := by have := (List.getElem?_eq_some_iff.1 hy).1; omega
      have q := hcell i (by omega)
      rw [add_plain] at q
      rw [q]
      rw [List.getElem?_take_of_lt hi] at hy
      rw [List.getD_eq_getElem?_getD, hy]
      rfl
    · have hd' := congrArg Prod.fst hx
      simp only at hd'
      rw [hd', hll]
      have e : (lits (H := H) .i64 (zs.take len)).length = len := by simp [lits]; omega
      have := htBulkLen (lits (H := H) .i64 (zs.take len))
      simp only [Rows.uptoBulk]
      omega
end Go.Proofs.YtddinjgpoillgaaDoor
/-
  WHAT A ROW's LIST OF VARIABLES GIVES: utf8's two tables lie in memory.
-/
namespace Go.Proofs.YtddinjgpoillgaaDoor
open Go.RowKit Go.Shelf Go.Lib

theorem u8types : U8Types Tryd.prog Tryd.lays197_ren := U8Types.of260 { Tryd.lays197 with }
theorem u8extra : U8Extra Tryd.prog Tryd.lays197_ren := ⟨by kernel_rfl, by kernel_rfl, by kernel_rfl, by kernel_rfl, by kernel_rfl, by kernel_rfl, by kernel_rfl⟩
theorem accept_eq : Rows.laid_unicode_utf8_acceptRanges (H := Unit) = acceptData := by kernel_rfl
theorem first_eq : Rows.laid_unicode_utf8_first = firstData := Pinned.utf8First_eq
theorem own : ownKnob Tryd.prog.godebug = none := by kernel_rfl
/-- what each row of the seat lists -/
def theLaid : List (String × DataW Unit) := [("unicode/utf8.acceptRanges", Rows.laid_unicode_utf8_acceptRanges), ("unicode/utf8.first", Rows.laid_unicode_utf8_first)]
theorem tabs_of_laid {W : World} (hL : laidMetH Tryd.prog theLaid W) : Lib.Utf8Tabs 0 1 W := by
  rw [MakeChecks.laidMetH_plain _ _ _ (by kernel_rfl)] at hL
  have h1 : VarReads Tryd.prog W "unicode/utf8.first" firstData := first_eq ▸ Lib.laidMet.reads hL (.tail _ (.head _))
  have h2 : VarReads Tryd.prog W "unicode/utf8.acceptRanges" acceptData := accept_eq ▸ Lib.laidMet.reads hL (.head _)
  exact utf8Tabs_of_readsT u8types u8extra h1 h2
set_option maxRecDepth 100000 in
theorem laid_shaped (os : Os) (args : Array Value) : ((World.laidAll Tryd.prog os theLaid).forCall (fun _ _ => 0) ⟨#[], args, []⟩).Shaped Tryd.prog := World.shaped_of_ZipB (by kernel_rfl) (by kernel_rfl)
set_option maxRecDepth 100000 in
theorem laid_holds (os : Os) (args : Array Value) : laidMetH Tryd.prog theLaid ((World.laidAll Tryd.prog os theLaid).forCall (fun _ _ => 0) ⟨#[], args, []⟩).memory := by
  rw [MakeChecks.laidMetH_plain _ _ _ (by kernel_rfl)]
  exact laidMet_laidAll _ (by kernel_rfl) (by kernel_rfl)
end Go.Proofs.YtddinjgpoillgaaDoor
/-
  What the second form's bound gives, and its witness.
-/
namespace Go.Proofs.YtddinjgpoillgaaDoor
open Go.RowKit Go.Shelf Go.Lib
open Go.ChangeShapes Go.WideShapes Go.ChangeAt

theorem bulk_one {H : Type} (d : DataW H) : 1 ≤ Rows.uptoBulk d := by
  cases d with
  | lit l => cases l <;> simp [Rows.uptoBulk]
  | nil => simp [Rows.uptoBulk]
  | ptr d => simp [Rows.uptoBulk]
  | slice elems spare => simp [Rows.uptoBulk]
  | agg parts => simp [Rows.uptoBulk]
  | iface t d => simp [Rows.uptoBulk]
  | map entries => simp [Rows.uptoBulk]
  | held h => simp [Rows.uptoBulk]
theorem bulk_length {H : Type} (l : List (DataW H)) : l.length ≤ Rows.uptoBulkAll l := by
  induction l with
  | nil => simp [Rows.uptoBulkAll]
  | cons x r ih => have := bulk_one x; simp only [Rows.uptoBulkAll, List.length_cons]; omega
theorem bulk_part {H : Type} {d : DataW H} {l : List (DataW H)} (h : d ∈ l) : Rows.uptoBulk d ≤ Rows.uptoBulkAll l := by
  induction l with
  | nil => cases h
  | cons x r ih =>
    simp only [Rows.uptoBulkAll]
    cases List.mem_cons.1 h with
    | inl e => subst e; omega
    | inr e => have := ih e; omega
theorem bulk_bound {H : Type} {l : List (DataW H)} (hk : Rows.uptoSmall H l = true) {d : DataW H} (h : d ∈ l) : Rows.uptoBulk d ≤ 1048576 :=
  Nat.le_trans (bulk_part h) (of_decide_eq_true hk)

/-- 'there is an input that fits', at the world in which the tables lie -/
theorem upto_witness {H : Type} {enc : TypeId × Value → H} {os : Os} {f : FuncId} {fn : Func} {s : OpenSpec} {conds : List PathCond} (args : Array Value) (laid : List (String × DataW Unit)) (hl : laid = theLaid)
    (hok : Input.okWideB Tryd.checked.prog ((World.laidAll Tryd.prog os theLaid).forCall (fun _ _ => 0) ⟨#[], args, []⟩) f ⟨#[], args, []⟩ = true)
    (fuel : Nat) {x : List (DataW H) × List (DataW H) × List MemPlace} (hx : DataW.whole enc Tryd.checked.prog ((World.laidAll Tryd.prog os theLaid).forCall (fun _ _ => 0) ⟨#[], args, []⟩).memory fn.params.toList s.vars false args.toList fuel = some x)
    (hconds : conds.all (PathCond.test Tryd.checked.prog ⟨fn.params.toList, x.1, s.bare.plain.varTypes Tryd.checked.prog, x.2.1⟩) = true) (hkk : ∀ k, s.cond = some k → k H (x.1 ++ x.2.1) = true)
    (hsz : s.bare.sizedB enc Tryd.checked.prog fn false ((World.laidAll Tryd.prog os theLaid).forCall (fun _ _ => 0) ⟨#[], args, []⟩).memory args fuel = true) :
    ∃ (w : World) (tape : Tape) (i : Input), w.os = os ∧ (w.forCall tape i).Shaped Tryd.checked.prog ∧ i.vars = [] ∧ Input.okWide Tryd.checked.prog (w.forCall tape i) .any w.heap.size f i ∧
      s.preRow enc Tryd.checked.prog fn conds false laid (w.forCall tape i).memory i.args ∧ ({} : Assume).holds Tryd.checked.prog (lone (Frame.enter Tryd.checked.prog f i.args .normal) [] (w.forCall tape i)) := by
  subst hl
  refine ⟨World.laidAll Tryd.prog os theLaid, fun _ _ => 0, ⟨#[], args, []⟩, World.laidAll_os _ _ _, laid_shaped os args, (Input.okWide_of_okWideB (base := 0) hok).1, (Input.okWide_of_okWideB hok).2, OpenSpec.preRow_of_cond fuel hx hconds hkk hsz (laid_holds os args), ?_⟩
  simp only [Assume.holds]
  exact ⟨by simp, by simp, fun _ => Modest.zero, by simp, by simp⟩
end Go.Proofs.YtddinjgpoillgaaDoor
/-
  PROVED: 'gimletlaw16.HuntEarly' returns true at every comparison and two texts that hold together at most 1048576 values and letters, and its arguments stay (the card HuntEarlyUptoCardSaid). The conditions: utf8's two tables start as the program's text lays them (the card ties them).
-/
namespace Go.Proofs.YtddinjgpoillgaaDoor
open Go.RowKit Go.Shelf Go.Lib
open Go.ChangeShapes Go.WideShapes Go.ChangeAt
set_option maxRecDepth 100000 in
set_option maxHeartbeats 800000 in
/-- a comparison that came in, its number's least -/
theorem htAskedOfN {H : Type} {enc : TypeId × Value → H} {W : World} {cs : Array Value} {d : DataW H} {p : List MemPlace} (hcs : cs.size = Tryd.prog.cellsOf 23) (h : DataW.Trod enc Tryd.prog W 0 (fun _ => true) true 23 (Value.agg cs) d p) :
    ∃ (C : Int) (s : ByteArray) (N : Int), cs = #[.int .i64 C, .string s, .int .i64 N] ∧ s.data.toList.length ≤ Rows.uptoBulk d ∧ N ≤ 9223372036854775807 ∧ -9223372036854775808 ≤ N := by
  rw [show Tryd.prog.cellsOf 23 = 3 from by kernel_rfl] at hcs
  obtain ⟨L⟩ := cs
  match L, hcs with
  | [v0, v1, v2], _ =>
    obtain ⟨fuel, hf⟩ := h
    change DataW.trod enc Tryd.prog W 0 (fun _ => true) true fuel 23 [v0, v1, v2] = some (d, p) at hf
    obtain ⟨ys, k, hk, hxy, _, hxl, hfl⟩ := DataW.trod_struct Tryd.underlying23 hf
    match ys, hxl with
    | [y0, y1, y2], _ =>
      have g0 := hfl 0 _ rfl
      have g1 := hfl 1 _ rfl
      have g2 := hfl 2 _ rfl
      have c0 : Tryd.prog.cellsOf 3 = 1 := by kernel_rfl
      have c1 : Tryd.prog.cellsOf 9 = 1 := by kernel_rfl
      simp [c0, c1] at g0 g1 g2
      obtain ⟨C, hC, _, _⟩ := DataW.trod_int Tryd.underlying3 g0
      obtain ⟨T, hT, hT2, _⟩ := DataW.trod_string Tryd.underlying9 g1
      obtain ⟨N, hN, _, wN⟩ := DataW.trod_int Tryd.underlying3 g2
      obtain rfl : v0 = .int .i64 C := by simpa using hC
      obtain rfl : v1 = .string T := by simpa using hT
      obtain rfl : v2 = .int .i64 N := by simpa using hN
      have b2 : -9223372036854775808 ≤ N ∧ N ≤ 9223372036854775807 := by simpa [Lit.wf, IntKind.min, IntKind.max, IntKind.signed, IntKind.bits] using wN
      refine ⟨C, T, N, rfl, ?_, b2.2, b2.1⟩
      simp only [Prod.mk.injEq] at hxy
      rw [hxy.1]
      have h1 : y1.1 = .lit (.string T.data.toList) := congrArg Prod.fst hT2
      simp only [List.map, Rows.uptoBulk, Rows.uptoBulkAll, h1]
      omega
theorem htLaidE : laidOutB Tryd.prog = true := by kernel_rfl
theorem htearly_reads (os : Os) {H : Type} (enc : TypeId × Value → H) : ∃ places, DataW.whole enc Tryd.checked.prog ((World.laidAll Tryd.prog os theLaid).forCall (fun _ _ => 0) ⟨#[], #[.agg #[.int .i64 0, .string ⟨#[]⟩, .int .i64 0], .string ⟨#[]⟩, .string ⟨#[]⟩], []⟩).memory Tryd.f4.params.toList (Rows.OpenSpec.upto Rows.huntEarlySpec).vars false #[Value.agg #[.int .i64 0, .string ⟨#[]⟩, .int .i64 0], .string ⟨#[]⟩, .string ⟨#[]⟩].toList 8 = some ([.agg [.lit (.int .i64 0), .lit (.string []), .lit (.int .i64 0)], .lit (.string []), .lit (.string [])], [], places) :=
  ⟨[], by kernel_rfl⟩
set_option maxHeartbeats 1600000 in
set_option maxRecDepth 100000 in
theorem htearly_lifted (os : Os) (started : os.Started) (H : Type) (enc : TypeId × Value → H) (F : Stop.Interp) :
    ReturnsInHanded {} Tryd.checked os 4 .any ((Rows.OpenSpec.upto Rows.huntEarlySpec).preRow enc Tryd.prog Tryd.f4 Rows.huntEarlyUptoRow.domain false Rows.huntEarlyUptoRow.laid) (((Rows.OpenSpec.upto Rows.huntEarlySpec).at F).post enc Tryd.prog Tryd.f4 false true false false) := by
  obtain ⟨places, hx⟩ := htearly_reads os enc
  refine returnsInHanded_of_row (C := Tryd.checked) (s := Rows.OpenSpec.upto Rows.huntEarlySpec) own started (by kernel_rfl) Tryd.func4
    (upto_witness (fn := Tryd.f4) #[.agg #[.int .i64 0, .string ⟨#[]⟩, .int .i64 0], .string ⟨#[]⟩, .string ⟨#[]⟩] _ rfl (by kernel_rfl) 8 hx (by kernel_rfl) (fun k hk => by cases hk; kernel_rfl) (by kernel_rfl)) ?_
  intro W base args ds gs before hval0 hW _ hcond _ hL _ _
  have hk := hcond _ rfl
  have hval : ∀ (j : Nat) t v, Tryd.f4.params[j]? = some t → args[j]? = some v → Value.okWide Tryd.prog W .any base t v := hval0
  have hW' := hW
  obtain ⟨p, q, hA0, hV, rfl, _, _⟩ := hW
  have hA : DataW.TrodAll enc Tryd.prog W 0 (fun _ => true) true Tryd.f4.params.toList args.toList ds p := hA0
  rw [Tryd.params4] at hA hval
  obtain ⟨v0, vs0, d0, ds0, p0, q0, hargs, rfl, rfl, h0, r0⟩ := trodAll_cons hA
  obtain ⟨v1, vs1, d1, ds1, p1, q1, rfl, rfl, rfl, h1, r1⟩ := trodAll_cons r0
  obtain ⟨v2, vs2, d2, ds2, p2, q2, rfl, rfl, rfl, h2, r2⟩ := trodAll_cons r1
  obtain ⟨rfl, rfl, rfl⟩ := trodAll_nil r2
  obtain rfl : args = #[v0, v1, v2] := by cases args; simp_all
  obtain ⟨rfl, rfl⟩ := trodVars_none hV
  obtain ⟨cs, rfl, hcs⟩ := okWide_struct Tryd.underlying23 (hval 0 23 v0 rfl rfl)
  obtain ⟨s1, rfl, rfl, rfl, ws1⟩ := ChangeMaps.open_string Tryd.underlying9 (hval 1 9 v1 rfl rfl) h1
  obtain ⟨s2, rfl, rfl, rfl, ws2⟩ := ChangeMaps.open_string Tryd.underlying9 (hval 2 9 v2 rfl rfl) h2
  have k0 := h0
  have lt0 : ∀ x ∈ p0, x.block < W.heap.size := by obtain ⟨m, hm⟩ := k0; exact DataW.trod_lt m _ _ _ hm
  clear hA0 hval0 hargs r0 r1 r2 hA
  have b0 := bulk_bound hk (d := d0) (by simp)
  have b1 := bulk_bound hk (d := .lit (.string s1.data.toList)) (by simp)
  have b2 := bulk_bound hk (d := .lit (.string s2.data.toList)) (by simp)
  simp only [Rows.uptoBulk] at b1 b2
  have hT : Lib.Utf8Tabs 0 1 W := tabs_of_laid hL
  obtain ⟨C, s, N, rfl, u1, u2, u3⟩ := htAskedOfN hcs h0
  have e0 : Rn.arr (Rn.lf s.data.toList) s.data.toList.length = s := by rw [Rn.arr_lf]
  have e1 : Rn.arr (Rn.lf s1.data.toList) s1.data.toList.length = s1 := by rw [Rn.arr_lf]
  have e2 : Rn.arr (Rn.lf s2.data.toList) s2.data.toList.length = s2 := by rw [Rn.arr_lf]
  have hc := lawEarly16 C N (Rn.lf s.data.toList) s.data.toList.length (Rn.lf s1.data.toList) s1.data.toList.length (Rn.lf s2.data.toList) s2.data.toList.length W (Rn.lf_lt _) (Rn.lf_lt _) (Rn.lf_lt _) (by omega) (by omega) (by omega) u3 u2 hT
  rw [e0, e1, e2] at hc
  refine hc.mono fun e W' ⟨he, bel⟩ => ?_
  subst he
  exact ⟨_, rfl, _, _, _, [], _, [], hW', trodAll_mk1 (shut_bool Tryd.underlying4 _), (trodAll_cons_mk (Below.trod htLaidE (by kernel_rfl) (of_decide_eq_true (by kernel_rfl)) k0 bel lt0) (trodAll_cons_mk (ChangeMaps.shut_string Tryd.underlying9 ws1) (trodAll_cons_mk (ChangeMaps.shut_string Tryd.underlying9 ws2) trodAll_mk0))), rfl, bel.frame _, fun h => by cases h⟩
theorem htearly_said : Rows.HuntEarlyUptoSaid :=
  OpenClaim.holds_of_cond 4 Tryd.f4 rfl rfl rfl rfl rfl rfl rfl ⟨rfl, rfl, rfl, rfl, rfl⟩ rfl rfl rfl rfl rfl (by kernel_rfl) Tryd.func4 (by kernel_rfl)
    (of_decide_eq_true (by kernel_rfl)) (by unfold Func.isWrapper; rw [if_neg (by decide +kernel)]; exact ⟨rfl, rfl⟩)
    (fun os started H enc _ F => by rw [OpenClaim.pre_eq_preRow]; exact htearly_lifted os started H enc F)
theorem htearly_plain (f : FuncId) (fn : Func) (hf : Tryd.pinned.checked.prog.funcNamed "gimlet/gimletlaw16.HuntEarly" = some f) (hfn : Tryd.pinned.checked.prog.funcs[f]? = some fn) :
    false = Tryd.pinned.checked.prog.looks [] ∧ ∀ (j : Nat) t, fn.params[j]? = some t → Tryd.pinned.checked.prog.wantsStandIn t = false := by
  obtain rfl : f = 4 := Option.some.inj ((show Tryd.prog.funcNamed "gimlet/gimletlaw16.HuntEarly" = some 4 by kernel_rfl).symm.trans hf) |>.symm
  obtain rfl : fn = Tryd.f4 := (Option.some.inj (Tryd.func4.symm.trans hfn)).symm
  refine ⟨by kernel_rfl, fun j t ht => ?_⟩
  rw [Tryd.params4] at ht
  have hm : t ∈ [23, 9, 9] := by simpa using Array.mem_of_getElem? ht
  have hall : ([23, 9, 9].all fun u => !Tryd.prog.wantsStandIn u) = true := by kernel_rfl
  exact (show Tryd.prog.wantsStandIn t = false by simpa using List.all_eq_true.1 hall t hm)
theorem huntEarly_card : Rows.HuntEarlyUptoCardSaid :=
  Claim7.holds_tied_plain_at .later [] _ _ _ _ htearly_said (fun _ h => by cases h) (by kernel_rfl) (fun _ h => by cases h) huntEarlyUpto_row_tie rfl ⟨rfl, rfl⟩ (by kernel_rfl) rfl htearly_plain (by kernel_rfl)
#print axioms huntEarly_card
end Go.Proofs.YtddinjgpoillgaaDoor
