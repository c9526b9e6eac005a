/-
  THE WALK over gimletlaw04.pieces: whatever the cuts, the characters of all bytes.
-/
import Derived.Test.YtbfabpjhdhhpfaaDoorFdCutMath
import Derived.Test.YtbfabpjhdhhpfaaDoorFdRows
import Derived.Deep.RegionHeld3
namespace Go.Proofs.YtbfabpjhdhhpfaaDoor
open Go.RowKit Go.Lib

/-- the numbers of a slice that came in -/
def Cuts (w : World) (pc : Option Addr) (c : Nat) (g : Nat → Int) : Prop := 0 < c → ∃ b o, pc = some ⟨b, o, none⟩ ∧ b < w.heap.size ∧ ∀ j, j < c → w.cell? ⟨b, o + j, none⟩ = some (.int .i64 (g j))

theorem keepC {W : World} {K : Nat} {a0 a1 a2 a3 a4 a5 : Value} {t : TypeId} (h : W.heap[K]? = some (.cells #[a0, a1, a2, a3, a4, a5] t (0, 0))) : W.cell? ⟨K, 0, none⟩ = some a0 ∧ W.cell? ⟨K, 1, none⟩ = some a1 ∧ W.cell? ⟨K, 2, none⟩ = some a2 ∧ W.cell? ⟨K, 3, none⟩ = some a3 ∧ W.cell? ⟨K, 4, none⟩ = some a4 ∧ W.cell? ⟨K, 5, none⟩ = some a5 := by
  refine ⟨?_, ?_, ?_, ?_, ?_, ?_⟩ <;> (rw [Lib.cell_of_heap h]; rfl)
theorem keepF {W : World} {K : Nat} {c : Array Value} {t : TypeId} (h : W.heap[K]? = some (.cells c t (0, 0))) : W.frozen? ⟨K, 0, none⟩ = false ∧ W.frozen? ⟨K, 1, none⟩ = false ∧ W.frozen? ⟨K, 2, none⟩ = false ∧ W.frozen? ⟨K, 3, none⟩ = false ∧ W.frozen? ⟨K, 4, none⟩ = false ∧ W.frozen? ⟨K, 5, none⟩ = false :=
  ⟨Lib.frozen_of_heap h 0, Lib.frozen_of_heap h 1, Lib.frozen_of_heap h 2, Lib.frozen_of_heap h 3, Lib.frozen_of_heap h 4, Lib.frozen_of_heap h 5⟩

theorem keepS {W : World} {K n : Nat} {a0 a1 a2 a3 a4 a5 : Value} {t : TypeId} (h : W.heap[K]? = some (.cells #[a0, a1, a2, a3, a4, a5] t (0, 0))) (hn : K ≠ n) : ∀ W', But n W W' → W'.cell? ⟨K, 0, none⟩ = some a0 ∧ W'.cell? ⟨K, 1, none⟩ = some a1 ∧ W'.cell? ⟨K, 2, none⟩ = some a2 ∧ W'.cell? ⟨K, 3, none⟩ = some a3 ∧ W'.cell? ⟨K, 4, none⟩ = some a4 ∧ W'.cell? ⟨K, 5, none⟩ = some a5 :=
  fun _ hb => keepC ((hb.block K (Array.getElem?_eq_some_iff.1 h).1 hn).trans h)

/-- the state at the head of the loop -/
structure PieJ (w : World) (D : Nat) (f : Nat → Nat) (n a T : Nat) (v all : Value) (p : Nat × Nat × Nat) (pre : List (Nat × Nat × (Nat × Nat × Nat) × Nat)) (wr : World) : Prop where
  feed : Feed wr D D f a T false v p
  row : wr.ownsRow (D + 1) 36 6 all pre.length (fcCells pre)
  apart : ∀ q, v.ownBlock = some q → all.ownBlock ≠ some q
  list : pre ++ Fd.tk f n true (n - T) T p = Fd.tk f n true n 0 (0, 1, 1)
  last : Fd.tkE f n true (n - T) T p = Fd.tkE f n true n 0 (0, 1, 1)
  below : Below w.heap.size w wr
  cell : wr.heap[w.heap.size]? = some (.cells #[.int .i32 0, .int .i64 0, .int .i64 0, .int .i64 0, .int .i64 0, .int .i64 0] 36 (0, 0))

set_option maxRecDepth 100000 in
set_option maxHeartbeats 1000000 in
theorem pieces_any (f : Nat → Nat) (pa : Option Addr) (n cap : Nat) (pc : Option Addr) (c capc : Nat) (g : Nat → Int) (w : World) (hT : Lib.Utf8Tabs 0 1 w) (hf : ∀ j, f j < 256) (hc : n ≤ cap) (hm : cap ≤ 9223372036854775807) (hn : n ≤ 4194304) (hcc : c ≤ 1048576)
    (hpa : 0 < n → ∃ b o, pa = some ⟨b, o, none⟩ ∧ Bytes w b o n f ∧ b < w.heap.size) (hpc : Cuts w pc c g) :
    Calls Tryd.prog 16 #[.slice pa n cap, .slice pc c capc] w fun e w' => ∃ out, e = .returned (drainV f n true out (Fd.tkE f n true n 0 (0, 1, 1))) ∧ w'.ownsRow (w.heap.size + 1 + 1) 36 6 out (Fd.tk f n true n 0 (0, 1, 1)).length (fcCells (Fd.tk f n true n 0 (0, 1, 1))) ∧ Below w.heap.size w w' := by
  obtain ⟨t1, t2⟩ := tabs_low hT
  obtain ⟨i0, hi, hz0, hz1, hz2⟩ := info_parts infoFc
  obtain ⟨j0, hj, hy0, hy1, hy2⟩ := info_parts infoByte'
  have HT := hide' hT
  have HPA := hide' hpa
  have HPC := hide' hpc
  clear hT hpa hpc
  have cNew := feedNew_abs (w.alloc (.cells #[.int .i32 0, .int .i64 0, .int .i64 0, .int .i64 0, .int .i64 0, .int .i64 0] 36)) f (w.heap.size + 1)
  rw [show (w.alloc (.cells #[.int .i32 0, .int .i64 0, .int .i64 0, .int .i64 0, .int .i64 0, .int .i64 0] 36)).heap.size = w.heap.size + 1 by simp] at cNew
  obtain ⟨D, hD⟩ : ∃ D, w.heap.size + 1 = D := ⟨_, rfl⟩
  rw [hD] at cNew
  have HD := hide' hD
  clear hD
  go_enter Tryd.func16, Tryd.ntmps16
  go_wp2_with fail
  refine cNew.mono ?_
  rintro e w1 ⟨rfl, hF1, hb1, hs1⟩
  have hJ0 : PieJ w D f n 0 0 (.slice none 0 0) (.slice none 0 0) (0, 1, 1) [] w1 := by
    have hDe := HD.out
    refine ⟨hF1, World.ownsRow_nil _ _ _ _, fun q e => (by cases e), rfl, rfl, ((Below.refl _ _).alloc (Nat.le_refl _) _).trans (hb1.mono (by omega)), ?_⟩
    exact (hb1.block w.heap.size (by omega)).trans (heap_top _ _ rfl)
  clear cNew hF1 hb1 hs1
  go_wp2
  go_loopw [8, 9, 10] (fun all a i wr => ∃ (a' i' T : Nat) (v : Value) (p : Nat × Nat × Nat) (pre : List (Nat × Nat × (Nat × Nat × Nat) × Nat)), a = .int .i64 a' ∧ i = .int .i64 i' ∧ a' ≤ n ∧ (a' < n → i' ≤ c) ∧ i' ≤ c + 1 ∧ PieJ w D f n a' T v all p pre wr) (fun _ _ i _ => c + 2 - (RowKit.intOf i).toNat)
  case atStart => exact ⟨0, 0, 0, _, _, [], rfl, rfl, Nat.zero_le _, fun _ => Nat.zero_le _, by omega, hJ0⟩
  case round =>
    obtain ⟨a, i, T, v, p, pre, rfl, rfl, han, hai, hic, hJ⟩ := hrel
    clear hJ0
    by_cases hlt : a < n
    · have g1 : (a : Int) < n := by omega
      have hi2 := hai hlt
      obtain ⟨b, o, rfl, hby, hbl⟩ := HPA.out (by omega)
      have HBY := hide' hby
      have HJ := hide' hJ
      clear HPA hby hJ
      obtain ⟨d, hd⟩ : ∃ d, n - a = d := ⟨_, rfl⟩
      have ed : (n : Int) - (a : Int) = (d : Int) := by omega
      by_cases hcut : i < c
      · have g2 : (i : Int) < c := by omega
        obtain ⟨b2, o2, rfl, hbl2, hcu⟩ := HPC.out (by omega)
        have hci := (HJ.out.below.cell (p := ⟨b2, o2 + i, none⟩) hbl2).trans (hcu i hcut)
        have cI := into_any (g i) (d + 1) wr (by omega) (by omega)
        generalize g i = gi at *
        clear hcu
        go_wp2_with fail
        refine cI.mono ?_
        rintro e w0 ⟨⟨m, hm1, rfl⟩, rfl⟩
        have hmn : a + m ≤ n := by omega
        clear cI hci
        have hjj := HJ.out
        have hsr := hjj.below.size
        have hDe := HD.out
        have hDlt := hjj.feed.lt
        have hrow := hjj.feed.row
        have hbW := HBY.out.below hjj.below (Nat.le_refl _)
        have hnews : ∀ j u, (xs (fun j => f (a + j)) m)[j]? = some u → (w0.alloc (.cells #[] 5)).cell? (Addr.add ⟨b, o + a, none⟩ j) = some u := by
          intro j u hu
          obtain ⟨hj1, rfl⟩ := xs_get _ _ _ _ hu
          have hq := hbW (a + j) (by omega)
          rw [show Addr.add ⟨b, o + a, none⟩ j = ⟨b, o + a + j, none⟩ by simp [Addr.add], Nat.add_assoc]
          exact (((Below.refl w0.heap.size w0).alloc (Nat.le_refl _) _).cell (p := ⟨b, o + (a + j), none⟩) (block_lt_of_cell hq)).trans hq
        have s1 : (0 : Int) ≤ (a : Int) := by omega
        have s2 : (a : Int) ≤ (a : Int) + (m : Int) := by omega
        have s3 : (a : Int) + (m : Int) ≤ (cap : Int) := by omega
        have s4 : ¬ cap = a := by omega
        have s5 : ¬ cap - a = 0 := by omega
        have s6 : a + m - a = m := by omega
        clear hjj hbW
        have q0 : (xs (fun j => f (a + j)) m).length = m * 1 := by rw [xs_length, Nat.mul_one]
        have q1 : 0 + m ≤ maxLen := by unfold maxLen; omega
        have q2 : (0 + m) * 1 ≤ 140737488355328 := by omega
        have q3 : w0.heap.size ≤ (w0.alloc (.cells #[] 5)).heap.size := by simp
        have HQ := hide' (And.intro q0 (And.intro q1 (And.intro q2 (And.intro q3 hnews))))
        clear q0 q1 q2 q3 hnews
        go_wp2_with (at_builtin; refine wpList_append_own _ rfl _ _ 27 rfl w0.heap.size 5 j0 (.int .u8 0) 1 1 Tryd.underlying27 hj hy0 hy1 hy2 rfl (by decide) _ 0 [] rfl (owns_empty w0) ⟨b, o + a, none⟩ m (cap - a) (xs (fun j => f (a + j)) m) ?hxm HQ.out.1 HQ.out.2.2.2.2 (one_cell _ m) HQ.out.2.1 HQ.out.2.2.1 HQ.out.2.2.2.1 ?_)
        case hxm => first | rfl | (simp [Act.eval, s6]; done) | (simp [Act.eval]; omega)
        intro v1 w2 hown1 hgrow1 hnn1
        obtain ⟨g1', c1', rfl⟩ : ∃ g1 c1, v1 = .slice (some ⟨g1, 0, none⟩) m c1 := by
          have hown1' : w2.ownsRow w0.heap.size 5 1 v1 m (xs (fun j => f (a + j)) m) := by simpa using hown1
          rcases hown1'.2 with ⟨h, _⟩ | ⟨g, cap, cur, hv, _⟩
          · exfalso; revert hnn1; rw [h]; simp
          · exact ⟨g, cap, hv⟩
        have hown1' : w2.ownsRow w0.heap.size 5 1 (.slice (some ⟨g1', 0, none⟩) m c1') m (xs (fun j => f (a + j)) m) := by simpa using hown1
        have hjj := HJ.out
        have hkeep : ∀ k, k < w0.heap.size → w2.heap[k]? = w0.heap[k]? := fun k hk => (hgrow1.block k (by simp; omega) (fun e => by simp [Value.ownBlock] at e; omega)).trans (Below.heap_alloc _ _ k hk)
        have hB2 : Below w0.heap.size w0 w2 := ⟨hgrow1.os, hgrow1.tape, hgrow1.output, (by have := hgrow1.size; simp at this; omega), hkeep⟩
        have hF2 := hjj.feed.below hB2
        have hb2 := hjj.below.trans (hB2.mono hsr)
        have hg1 := hown1'.lt g1' rfl
        have hce : ∀ j u, (xs (fun j => f (a + j)) m)[j]? = some u → w2.cell? (Addr.add ⟨g1', 0, none⟩ j) = some u := fun j u hu => hown1'.cells (g := g1') rfl j u hu
        have cP := feedPush_abs (G := f) hF2 (tabs_below HT.out hb2 (Nat.le_refl _)) ⟨(by omega), (by omega)⟩ (Nat.le_refl D) ⟨g1', 0, none⟩ m c1' (fun j => f (a + j)) hf (fun j _ => rfl) (fun j _ => rfl) hce ⟨(show g1' ≠ D by omega), (fun e => by have h9 : g1' < w0.heap.size := (hrow _ e).2; omega)⟩ (by omega)
        have hmore := Fd.tk_more f hmn true _ T p (Nat.le_refl _)
        have hl1 := hjj.list
        rw [hmore.1, ← List.append_assoc] at hl1
        have hl2 := hjj.last
        rw [hmore.2] at hl2
        have HA2 := hide' (hjj.row.kept_below hB2)
        have HC2 := hide' ((hkeep w.heap.size (by omega)).trans hjj.cell)
        have HAP := hide' hjj.apart
        have HR2 := hide' hF2.row
        have HB2 := hide' hb2
        have hs2 : w0.heap.size ≤ w2.heap.size := hB2.size
        have hTm := hF2.taken
        have HL := hide' (And.intro hl1 hl2)
        clear hmore hl1 hl2 hjj hown1 hgrow1 hnn1 hown1' hkeep hB2 hF2 hb2 hg1 hce HQ HJ hrow
        go_wp2_with fail
        refine cP.mono ?_
        rintro e w3 ⟨rfl, v3, hF3, hv3, hbu3⟩
        have hb3 : Below w.heap.size w w3 := HB2.out.trans (hbu3.belowB (by omega) (fun q hq => by have := (HR2.out q hq).1; omega) (by omega))
        have hA3 : w3.ownsRow (D + 1) 36 6 u8 pre.length (fcCells pre) := kept_grown HA2.out (fun q hq => hbu3.block q (HA2.out.lt q hq).2 (by have := (HA2.out.lt q hq).1; omega) (fun e => HAP.out q e hq))
        have hC3 := (hbu3.block w.heap.size (by omega) (by omega) (fun e => by have := (HR2.out _ e).1; omega)).trans HC2.out
        have hap3 : ∀ q, v3.ownBlock = some q → u8.ownBlock ≠ some q := fun q hq hq' => by
          rcases hv3 with h | ⟨X, hX, h⟩
          · exact HAP.out q (h ▸ hq) hq'
          · rw [h] at hq; cases hq; have := (HA2.out.lt _ hq').2; omega
        have cD := drain_any (tabs_below HT.out hb3 (Nat.le_refl _)) ⟨(by omega), (by omega)⟩ hf hF3 (n + 1) (by omega) (by omega) (by omega)
        have hlL := HL.out
        have hDw3 := hF3.lt
        have HR3 := hide' hF3.row
        generalize Fd.tk f (a + m) false (a + m - T) T p = L at *
        generalize Fd.tkE f (a + m) false (a + m - T) T p = S at *
        obtain ⟨T4, p4⟩ := S
        unfold drainV at cD
        dsimp only at cD hlL
        have hlen : pre.length + L.length ≤ n := by
          have h9 := congrArg List.length hlL.1
          have h8 := Fd.tk_length f n true n 0 (0, 1, 1)
          simp only [List.length_append] at h9
          omega
        have HL3 := hide' hlL
        have HB3 := hide' hb3
        have HA3 := hide' hA3
        have HC3 := hide' hC3
        have HAP3 := hide' hap3
        clear cP hF3 hv3 hbu3 hb3 hA3 hC3 hap3 hlL HL HA2 HC2 HAP HR2 HB2
        go_wp2_with fail
        refine cD.mono ?_
        rintro e w4 ⟨out, rfl, ho4, hF4, hne4, hbu4⟩
        generalize hXX : (Fd.pk f (a + m) T4 false).2.2.2 = X at *
        generalize hYY : Fd.pkY (Fd.pk f (a + m) T4 false) T4 p4 = Y at *
        have hb4 : Below w.heap.size w w4 := HB3.out.trans (hbu4.below (by omega) HB3.out.size)
        have hs4 := hbu4.size
        have hA4 := hbu4.row HA3.out (by omega)
        have hC4 := (hbu4.block w.heap.size (by omega) (by omega)).trans HC3.out
        obtain ⟨K, hK⟩ : ∃ K, w4.heap.size = K := ⟨_, rfl⟩
        have hbb : Below w4.heap.size w4 (w4.alloc (.cells #[.int .i32 0, .int .i64 Y.1, .int .i64 Y.2.1, .int .i64 Y.2.2.1, .int .i64 Y.2.2.2, .int .i64 0] 36)) := (Below.refl _ _).alloc (Nat.le_refl _) _
        have hKc : (w4.alloc (.cells #[.int .i32 0, .int .i64 Y.1, .int .i64 Y.2.1, .int .i64 Y.2.2.1, .int .i64 Y.2.2.2, .int .i64 0] 36)).heap[K]? = some (.cells #[.int .i32 0, .int .i64 Y.1, .int .i64 Y.2.1, .int .i64 Y.2.2.1, .int .i64 Y.2.2.2, .int .i64 0] 36 (0, 0)) := heap_top _ _ hK.symm
        have e1 : pre.length + L.length ≤ maxLen := by unfold maxLen; omega
        have e2 : (pre.length + L.length) * 48 ≤ 140737488355328 := by omega
        have e3 : D + 1 ≤ (w4.alloc (.cells #[.int .i32 0, .int .i64 Y.1, .int .i64 Y.2.1, .int .i64 Y.2.2.1, .int .i64 Y.2.2.2, .int .i64 0] 36)).heap.size := by simp; omega
        have hu8 : ∀ q, u8.ownBlock = some q → D + 1 ≤ q ∧ q < K := fun q hq => ⟨(hA4.lt q hq).1, hK ▸ (hA4.lt q hq).2⟩
        have HU8 := hide' hu8
        have HQ2 := hide' (And.intro (hA4.kept_below hbb) (And.intro (ho4.kept_below hbb) (And.intro e1 (And.intro e2 e3))))
        have HF4 := hide' (hF4.below hbb)
        have HB4 := hide' (hb4.trans (hbb.mono (by omega)))
        have HC4 := hide' ((hbb.block w.heap.size (by omega)).trans hC4)
        have HKc := hide' hKc
        have HN4 := hide' hne4
        have HYY := hide' hYY
        have HXX := hide' hXX
        clear cD ho4 hF4 hne4 hbu4 hb4 hA4 hC4 hbb hKc e1 e2 e3 HA3 HC3 HB3 hYY hXX hu8
        go_wp2_with (at_builtin; refine wpList_append_rows rfl _ _ 47 rfl (D + 1) (w3.heap.size + 1) 36 i0 (.agg #[.int .i32 0, .int .i64 0, .int .i64 0, .int .i64 0, .int .i64 0, .int .i64 0]) 6 48 Tryd.underlying47 hi hz0 hz1 hz2 rfl (by decide) u8 pre.length (fcCells pre) rfl HQ2.out.1 out L.length (fcCells L) rfl HQ2.out.2.1 (fcCells_one L) HQ2.out.2.2.1 HQ2.out.2.2.2.1 HQ2.out.2.2.2.2 ?_)
        intro v6 w6 hown6 hgrow6 hat6
        have hk6 : ∀ k, k ≤ K → u8.ownBlock ≠ some k → w6.heap[k]? = (w4.alloc (.cells #[.int .i32 0, .int .i64 Y.1, .int .i64 Y.2.1, .int .i64 Y.2.2.1, .int .i64 Y.2.2.2, .int .i64 0] 36)).heap[k]? := fun k hk hn => hgrow6.block k (by simp; omega) (fun e => hn e.symm)
        have hF6 : Feed w6 D D f (a + m) T4 false v3 p4 := HF4.out.keep (hk6 D (by omega) (fun e => by have := (HU8.out _ e).1; omega)) (fun q hq => hk6 q (by have := (HF4.out.row q hq).2; simp at this; omega) (HAP3.out q hq))
        have hC6 := (hk6 w.heap.size (by omega) (fun e => by have := (HU8.out _ e).1; omega)).trans HC4.out
        have hB6 : Below w.heap.size w w6 := HB4.out.trans ⟨hgrow6.os, hgrow6.tape, hgrow6.output, hgrow6.size, fun k hk => hk6 k (by omega) (fun e => by have := (HU8.out _ e).1; omega)⟩
        have hA6 : w6.ownsRow (D + 1) 36 6 v6 (pre ++ L).length (fcCells (pre ++ L)) := by rw [fcCells_append, List.length_append]; exact hown6
        have hap6 : ∀ q, v3.ownBlock = some q → v6.ownBlock ≠ some q := fun q hq hq' => by
          rcases hat6 with h | h
          · exact HAP3.out q hq (h ▸ hq')
          · rw [h] at hq'; cases hq'; have := (HF4.out.row _ hq).2; simp at this; omega
        have hK6 := (hk6 K (Nat.le_refl _) (fun e => by have := (HU8.out _ e).2; omega)).trans HKc.out
        have hs6 : K < w6.heap.size := (Array.getElem?_eq_some_iff.1 hK6).1
        have HF6 := hide' hF6
        have HB6 := hide' hB6
        have HA6 := hide' hA6
        have HC6 := hide' hC6
        have HAP6 := hide' hap6
        clear hF6 hB6 hA6 hap6 hown6 hgrow6 hat6 hk6 HQ2 HU8 HF4 HB4 HC4 HKc HAP3
        by_cases hx2 : X = 2
        · subst hx2
          have hpk : Fd.pk f n T4 true = Fd.pk f (a + m) T4 false := (Fd.tk_bad hmn true p4 HXX.out).2.2
          have r0 : w6.cell? ⟨w.heap.size, 0, none⟩ = some (.int .i32 0) := by rw [Lib.cell_of_heap hC6]; rfl
          have r1 : w6.cell? ⟨w.heap.size, 1, none⟩ = some (.int .i64 0) := by rw [Lib.cell_of_heap hC6]; rfl
          have r2 : w6.cell? ⟨w.heap.size, 2, none⟩ = some (.int .i64 0) := by rw [Lib.cell_of_heap hC6]; rfl
          have r3 : w6.cell? ⟨w.heap.size, 3, none⟩ = some (.int .i64 0) := by rw [Lib.cell_of_heap hC6]; rfl
          have r4 : w6.cell? ⟨w.heap.size, 4, none⟩ = some (.int .i64 0) := by rw [Lib.cell_of_heap hC6]; rfl
          have r5 : w6.cell? ⟨w.heap.size, 5, none⟩ = some (.int .i64 0) := by rw [Lib.cell_of_heap hC6]; rfl
          have rz0 : w6.frozen? ⟨w.heap.size, 0, none⟩ = false := Lib.frozen_of_heap hC6 0
          have rz1 : w6.frozen? ⟨w.heap.size, 1, none⟩ = false := Lib.frozen_of_heap hC6 1
          have rz2 : w6.frozen? ⟨w.heap.size, 2, none⟩ = false := Lib.frozen_of_heap hC6 2
          have rz3 : w6.frozen? ⟨w.heap.size, 3, none⟩ = false := Lib.frozen_of_heap hC6 3
          have rz4 : w6.frozen? ⟨w.heap.size, 4, none⟩ = false := Lib.frozen_of_heap hC6 4
          have rz5 : w6.frozen? ⟨w.heap.size, 5, none⟩ = false := Lib.frozen_of_heap hC6 5
          have l0 : w6.cell? ⟨K, 0, none⟩ = some (.int .i32 0) := by rw [Lib.cell_of_heap hK6]; rfl
          have l1 : w6.cell? ⟨K, 1, none⟩ = some (.int .i64 Y.1) := by rw [Lib.cell_of_heap hK6]; rfl
          have l2 : w6.cell? ⟨K, 2, none⟩ = some (.int .i64 Y.2.1) := by rw [Lib.cell_of_heap hK6]; rfl
          have l3 : w6.cell? ⟨K, 3, none⟩ = some (.int .i64 Y.2.2.1) := by rw [Lib.cell_of_heap hK6]; rfl
          have l4 : w6.cell? ⟨K, 4, none⟩ = some (.int .i64 Y.2.2.2) := by rw [Lib.cell_of_heap hK6]; rfl
          have l5 : w6.cell? ⟨K, 5, none⟩ = some (.int .i64 0) := by rw [Lib.cell_of_heap hK6]; rfl
          have hne : ¬ K = w.heap.size := by omega
          have HPK := hide' hpk
          have hsx : w.heap.size < w6.heap.size := by omega
          clear hC6 hK6 hpk
          go_wp2
          go_region
          go_wp2
          refine bodyPost_ret (v := .tuple #[v6, .agg #[.int .i32 0, .int .i64 Y.1, .int .i64 Y.2.1, .int .i64 Y.2.2.1, .int .i64 Y.2.2.2, .int .i64 0], .int .i64 2]) (by simp [results, Tryd.results16, go_sem, r0, r1, r2, r3, r4, r5]) rfl ?_
          have key : ∀ W', But w.heap.size w6 W' → ∃ out, Ending.returned (.tuple #[v6, .agg #[.int .i32 0, .int .i64 Y.1, .int .i64 Y.2.1, .int .i64 Y.2.2.1, .int .i64 Y.2.2.2, .int .i64 0], .int .i64 2]) = .returned (drainV f n true out (Fd.tkE f n true n 0 (0, 1, 1))) ∧ W'.ownsRow (w.heap.size + 1 + 1) 36 6 out (Fd.tk f n true n 0 (0, 1, 1)).length (fcCells (Fd.tk f n true n 0 (0, 1, 1))) ∧ Below w.heap.size w W' := by
            intro W' hX
            obtain ⟨b1, b2, -⟩ := Fd.tk_bad hmn true p4 HXX.out
            have hl1 := HL3.out.1
            have hl2 := HL3.out.2
            rw [b1, List.append_nil] at hl1
            rw [b2] at hl2
            refine ⟨v6, ?_, ?_, HB6.out.trans (hX.below (Nat.le_refl _) (by omega))⟩
            · rw [← hl2]
              unfold drainV
              dsimp only
              rw [HPK.out, HYY.out, HXX.out]
              rfl
            · rw [← hl1, HD.out]
              exact hX.row HA6.out (by omega)
          exact key _ (((((((But.of_below (Below.refl _ _)).setCell (p := ⟨w.heap.size, 0, none⟩) rfl _).setCell (p := ⟨w.heap.size, 1, none⟩) rfl _).setCell (p := ⟨w.heap.size, 2, none⟩) rfl _).setCell (p := ⟨w.heap.size, 3, none⟩) rfl _).setCell (p := ⟨w.heap.size, 4, none⟩) rfl _).setCell (p := ⟨w.heap.size, 5, none⟩) rfl _ |>.then ((Below.refl _ _).drew))
        · have e2 : ((X : Int) == 2) = false := by simp; omega
          go_wp2
          go_roundw
          case rel => exact ⟨a + m, i + 1, T4, v3, p4, pre ++ L, by go_num, by go_num, by omega, by omega, by omega, ⟨HF6.out, HA6.out, HAP6.out, HL3.out.1, HL3.out.2, HB6.out, HC6.out⟩⟩
          case measure => simp [RowKit.intOf]; omega
      · have g2 : ¬ (i : Int) < c := by omega
        have hmn : a + d ≤ n := by omega
        have hjj := HJ.out
        have hsr := hjj.below.size
        have hDe := HD.out
        have hDlt := hjj.feed.lt
        have hrow := hjj.feed.row
        have hbW := HBY.out.below hjj.below (Nat.le_refl _)
        have hnews : ∀ j u, (xs (fun j => f (a + j)) d)[j]? = some u → (wr.alloc (.cells #[] 5)).cell? (Addr.add ⟨b, o + a, none⟩ j) = some u := by
          intro j u hu
          obtain ⟨hj1, rfl⟩ := xs_get _ _ _ _ hu
          have hq := hbW (a + j) (by omega)
          rw [show Addr.add ⟨b, o + a, none⟩ j = ⟨b, o + a + j, none⟩ by simp [Addr.add], Nat.add_assoc]
          exact (((Below.refl wr.heap.size wr).alloc (Nat.le_refl _) _).cell (p := ⟨b, o + (a + j), none⟩) (block_lt_of_cell hq)).trans hq
        have s1 : (0 : Int) ≤ (a : Int) := by omega
        have s2 : (a : Int) ≤ (a : Int) + (d : Int) := by omega
        have s3 : (a : Int) + (d : Int) ≤ (cap : Int) := by omega
        have s4 : ¬ cap = a := by omega
        have s5 : ¬ cap - a = 0 := by omega
        have s6 : a + d - a = d := by omega
        clear hjj hbW
        have q0 : (xs (fun j => f (a + j)) d).length = d * 1 := by rw [xs_length, Nat.mul_one]
        have q1 : 0 + d ≤ maxLen := by unfold maxLen; omega
        have q2 : (0 + d) * 1 ≤ 140737488355328 := by omega
        have q3 : wr.heap.size ≤ (wr.alloc (.cells #[] 5)).heap.size := by simp
        have HQ := hide' (And.intro q0 (And.intro q1 (And.intro q2 (And.intro q3 hnews))))
        clear q0 q1 q2 q3 hnews
        go_wp2_with (at_builtin; refine wpList_append_own _ rfl _ _ 27 rfl wr.heap.size 5 j0 (.int .u8 0) 1 1 Tryd.underlying27 hj hy0 hy1 hy2 rfl (by decide) _ 0 [] rfl (owns_empty wr) ⟨b, o + a, none⟩ d (cap - a) (xs (fun j => f (a + j)) d) ?hxd HQ.out.1 HQ.out.2.2.2.2 (one_cell _ d) HQ.out.2.1 HQ.out.2.2.1 HQ.out.2.2.2.1 ?_)
        --  first | rfl | (simp [Act.eval, s6]; done) | (simp [Act.eval]; omega)
        intro v1 w2 hown1 hgrow1 hnn1
        obtain ⟨g1', c1', rfl⟩ : ∃ g1 c1, v1 = .slice (some ⟨g1, 0, none⟩) d c1 := by
          have hown1' : w2.ownsRow wr.heap.size 5 1 v1 d (xs (fun j => f (a + j)) d) := by simpa using hown1
          rcases hown1'.2 with ⟨h, _⟩ | ⟨g, cap, cur, hv, _⟩
          · exfalso; revert hnn1; rw [h]; simp
          · exact ⟨g, cap, hv⟩
        have hown1' : w2.ownsRow wr.heap.size 5 1 (.slice (some ⟨g1', 0, none⟩) d c1') d (xs (fun j => f (a + j)) d) := by simpa using hown1
        have hjj := HJ.out
        have hkeep : ∀ k, k < wr.heap.size → w2.heap[k]? = wr.heap[k]? := fun k hk => (hgrow1.block k (by simp; omega) (fun e => by simp [Value.ownBlock] at e; omega)).trans (Below.heap_alloc _ _ k hk)
        have hB2 : Below wr.heap.size wr w2 := ⟨hgrow1.os, hgrow1.tape, hgrow1.output, (by have := hgrow1.size; simp at this; omega), hkeep⟩
        have hF2 := hjj.feed.below hB2
        have hb2 := hjj.below.trans (hB2.mono hsr)
        have hg1 := hown1'.lt g1' rfl
        have hce : ∀ j u, (xs (fun j => f (a + j)) d)[j]? = some u → w2.cell? (Addr.add ⟨g1', 0, none⟩ j) = some u := fun j u hu => hown1'.cells (g := g1') rfl j u hu
        have cP := feedPush_abs (G := f) hF2 (tabs_below HT.out hb2 (Nat.le_refl _)) ⟨(by omega), (by omega)⟩ (Nat.le_refl D) ⟨g1', 0, none⟩ d c1' (fun j => f (a + j)) hf (fun j _ => rfl) (fun j _ => rfl) hce ⟨(show g1' ≠ D by omega), (fun e => by have h9 : g1' < wr.heap.size := (hrow _ e).2; omega)⟩ (by omega)
        have hmore := Fd.tk_more f hmn true _ T p (Nat.le_refl _)
        have hl1 := hjj.list
        rw [hmore.1, ← List.append_assoc] at hl1
        have hl2 := hjj.last
        rw [hmore.2] at hl2
        have HA2 := hide' (hjj.row.kept_below hB2)
        have HC2 := hide' ((hkeep w.heap.size (by omega)).trans hjj.cell)
        have HAP := hide' hjj.apart
        have HR2 := hide' hF2.row
        have HB2 := hide' hb2
        have hs2 : wr.heap.size ≤ w2.heap.size := hB2.size
        have hTm := hF2.taken
        have HL := hide' (And.intro hl1 hl2)
        clear hmore hl1 hl2 hjj hown1 hgrow1 hnn1 hown1' hkeep hB2 hF2 hb2 hg1 hce HQ HJ hrow
        go_wp2_with fail
        refine cP.mono ?_
        rintro e w3 ⟨rfl, v3, hF3, hv3, hbu3⟩
        have hb3 : Below w.heap.size w w3 := HB2.out.trans (hbu3.belowB (by omega) (fun q hq => by have := (HR2.out q hq).1; omega) (by omega))
        have hA3 : w3.ownsRow (D + 1) 36 6 u8 pre.length (fcCells pre) := kept_grown HA2.out (fun q hq => hbu3.block q (HA2.out.lt q hq).2 (by have := (HA2.out.lt q hq).1; omega) (fun e => HAP.out q e hq))
        have hC3 := (hbu3.block w.heap.size (by omega) (by omega) (fun e => by have := (HR2.out _ e).1; omega)).trans HC2.out
        have hap3 : ∀ q, v3.ownBlock = some q → u8.ownBlock ≠ some q := fun q hq hq' => by
          rcases hv3 with h | ⟨X, hX, h⟩
          · exact HAP.out q (h ▸ hq) hq'
          · rw [h] at hq; cases hq; have := (HA2.out.lt _ hq').2; omega
        have cD := drain_any (tabs_below HT.out hb3 (Nat.le_refl _)) ⟨(by omega), (by omega)⟩ hf hF3 (n + 1) (by omega) (by omega) (by omega)
        have hlL := HL.out
        have hDw3 := hF3.lt
        have HR3 := hide' hF3.row
        generalize Fd.tk f (a + d) false (a + d - T) T p = L at *
        generalize Fd.tkE f (a + d) false (a + d - T) T p = S at *
        obtain ⟨T4, p4⟩ := S
        unfold drainV at cD
        dsimp only at cD hlL
        have hlen : pre.length + L.length ≤ n := by
          have h9 := congrArg List.length hlL.1
          have h8 := Fd.tk_length f n true n 0 (0, 1, 1)
          simp only [List.length_append] at h9
          omega
        have HL3 := hide' hlL
        have HB3 := hide' hb3
        have HA3 := hide' hA3
        have HC3 := hide' hC3
        have HAP3 := hide' hap3
        clear cP hF3 hv3 hbu3 hb3 hA3 hC3 hap3 hlL HL HA2 HC2 HAP HR2 HB2
        go_wp2_with fail
        refine cD.mono ?_
        rintro e w4 ⟨out, rfl, ho4, hF4, hne4, hbu4⟩
        generalize hXX : (Fd.pk f (a + d) T4 false).2.2.2 = X at *
        generalize hYY : Fd.pkY (Fd.pk f (a + d) T4 false) T4 p4 = Y at *
        have hb4 : Below w.heap.size w w4 := HB3.out.trans (hbu4.below (by omega) HB3.out.size)
        have hs4 := hbu4.size
        have hA4 := hbu4.row HA3.out (by omega)
        have hC4 := (hbu4.block w.heap.size (by omega) (by omega)).trans HC3.out
        obtain ⟨K, hK⟩ : ∃ K, w4.heap.size = K := ⟨_, rfl⟩
        have hbb : Below w4.heap.size w4 (w4.alloc (.cells #[.int .i32 0, .int .i64 Y.1, .int .i64 Y.2.1, .int .i64 Y.2.2.1, .int .i64 Y.2.2.2, .int .i64 0] 36)) := (Below.refl _ _).alloc (Nat.le_refl _) _
        have hKc : (w4.alloc (.cells #[.int .i32 0, .int .i64 Y.1, .int .i64 Y.2.1, .int .i64 Y.2.2.1, .int .i64 Y.2.2.2, .int .i64 0] 36)).heap[K]? = some (.cells #[.int .i32 0, .int .i64 Y.1, .int .i64 Y.2.1, .int .i64 Y.2.2.1, .int .i64 Y.2.2.2, .int .i64 0] 36 (0, 0)) := heap_top _ _ hK.symm
        have e1 : pre.length + L.length ≤ maxLen := by unfold maxLen; omega
        have e2 : (pre.length + L.length) * 48 ≤ 140737488355328 := by omega
        have e3 : D + 1 ≤ (w4.alloc (.cells #[.int .i32 0, .int .i64 Y.1, .int .i64 Y.2.1, .int .i64 Y.2.2.1, .int .i64 Y.2.2.2, .int .i64 0] 36)).heap.size := by simp; omega
        have hu8 : ∀ q, u8.ownBlock = some q → D + 1 ≤ q ∧ q < K := fun q hq => ⟨(hA4.lt q hq).1, hK ▸ (hA4.lt q hq).2⟩
        have HU8 := hide' hu8
        have HQ2 := hide' (And.intro (hA4.kept_below hbb) (And.intro (ho4.kept_below hbb) (And.intro e1 (And.intro e2 e3))))
        have HF4 := hide' (hF4.below hbb)
        have HB4 := hide' (hb4.trans (hbb.mono (by omega)))
        have HC4 := hide' ((hbb.block w.heap.size (by omega)).trans hC4)
        have HKc := hide' hKc
        have HN4 := hide' hne4
        have HYY := hide' hYY
        have HXX := hide' hXX
        clear cD ho4 hF4 hne4 hbu4 hb4 hA4 hC4 hbb hKc e1 e2 e3 HA3 HC3 HB3 hYY hXX hu8
        go_wp2_with (at_builtin; refine wpList_append_rows rfl _ _ 47 rfl (D + 1) (w3.heap.size + 1) 36 i0 (.agg #[.int .i32 0, .int .i64 0, .int .i64 0, .int .i64 0, .int .i64 0, .int .i64 0]) 6 48 Tryd.underlying47 hi hz0 hz1 hz2 rfl (by decide) u8 pre.length (fcCells pre) rfl HQ2.out.1 out L.length (fcCells L) rfl HQ2.out.2.1 (fcCells_one L) HQ2.out.2.2.1 HQ2.out.2.2.2.1 HQ2.out.2.2.2.2 ?_)
        intro v6 w6 hown6 hgrow6 hat6
        have hk6 : ∀ k, k ≤ K → u8.ownBlock ≠ some k → w6.heap[k]? = (w4.alloc (.cells #[.int .i32 0, .int .i64 Y.1, .int .i64 Y.2.1, .int .i64 Y.2.2.1, .int .i64 Y.2.2.2, .int .i64 0] 36)).heap[k]? := fun k hk hn => hgrow6.block k (by simp; omega) (fun e => hn e.symm)
        have hF6 : Feed w6 D D f (a + d) T4 false v3 p4 := HF4.out.keep (hk6 D (by omega) (fun e => by have := (HU8.out _ e).1; omega)) (fun q hq => hk6 q (by have := (HF4.out.row q hq).2; simp at this; omega) (HAP3.out q hq))
        have hC6 := (hk6 w.heap.size (by omega) (fun e => by have := (HU8.out _ e).1; omega)).trans HC4.out
        have hB6 : Below w.heap.size w w6 := HB4.out.trans ⟨hgrow6.os, hgrow6.tape, hgrow6.output, hgrow6.size, fun k hk => hk6 k (by omega) (fun e => by have := (HU8.out _ e).1; omega)⟩
        have hA6 : w6.ownsRow (D + 1) 36 6 v6 (pre ++ L).length (fcCells (pre ++ L)) := by rw [fcCells_append, List.length_append]; exact hown6
        have hap6 : ∀ q, v3.ownBlock = some q → v6.ownBlock ≠ some q := fun q hq hq' => by
          rcases hat6 with h | h
          · exact HAP3.out q hq (h ▸ hq')
          · rw [h] at hq'; cases hq'; have := (HF4.out.row _ hq).2; simp at this; omega
        have hK6 := (hk6 K (Nat.le_refl _) (fun e => by have := (HU8.out _ e).2; omega)).trans HKc.out
        have hs6 : K < w6.heap.size := (Array.getElem?_eq_some_iff.1 hK6).1
        have HF6 := hide' hF6
        have HB6 := hide' hB6
        have HA6 := hide' hA6
        have HC6 := hide' hC6
        have HAP6 := hide' hap6
        clear hF6 hB6 hA6 hap6 hown6 hgrow6 hat6 hk6 HQ2 HU8 HF4 HB4 HC4 HKc HAP3
        by_cases hx2 : X = 2
        · subst hx2
          have hpk : Fd.pk f n T4 true = Fd.pk f (a + d) T4 false := (Fd.tk_bad hmn true p4 HXX.out).2.2
          have r0 : w6.cell? ⟨w.heap.size, 0, none⟩ = some (.int .i32 0) := by rw [Lib.cell_of_heap hC6]; rfl
          have r1 : w6.cell? ⟨w.heap.size, 1, none⟩ = some (.int .i64 0) := by rw [Lib.cell_of_heap hC6]; rfl
          have r2 : w6.cell? ⟨w.heap.size, 2, none⟩ = some (.int .i64 0) := by rw [Lib.cell_of_heap hC6]; rfl
          have r3 : w6.cell? ⟨w.heap.size, 3, none⟩ = some (.int .i64 0) := by rw [Lib.cell_of_heap hC6]; rfl
          have r4 : w6.cell? ⟨w.heap.size, 4, none⟩ = some (.int .i64 0) := by rw [Lib.cell_of_heap hC6]; rfl
          have r5 : w6.cell? ⟨w.heap.size, 5, none⟩ = some (.int .i64 0) := by rw [Lib.cell_of_heap hC6]; rfl
          have rz0 : w6.frozen? ⟨w.heap.size, 0, none⟩ = false := Lib.frozen_of_heap hC6 0
          have rz1 : w6.frozen? ⟨w.heap.size, 1, none⟩ = false := Lib.frozen_of_heap hC6 1
          have rz2 : w6.frozen? ⟨w.heap.size, 2, none⟩ = false := Lib.frozen_of_heap hC6 2
          have rz3 : w6.frozen? ⟨w.heap.size, 3, none⟩ = false := Lib.frozen_of_heap hC6 3
          have rz4 : w6.frozen? ⟨w.heap.size, 4, none⟩ = false := Lib.frozen_of_heap hC6 4
          have rz5 : w6.frozen? ⟨w.heap.size, 5, none⟩ = false := Lib.frozen_of_heap hC6 5
          have l0 : w6.cell? ⟨K, 0, none⟩ = some (.int .i32 0) := by rw [Lib.cell_of_heap hK6]; rfl
          have l1 : w6.cell? ⟨K, 1, none⟩ = some (.int .i64 Y.1) := by rw [Lib.cell_of_heap hK6]; rfl
          have l2 : w6.cell? ⟨K, 2, none⟩ = some (.int .i64 Y.2.1) := by rw [Lib.cell_of_heap hK6]; rfl
          have l3 : w6.cell? ⟨K, 3, none⟩ = some (.int .i64 Y.2.2.1) := by rw [Lib.cell_of_heap hK6]; rfl
          have l4 : w6.cell? ⟨K, 4, none⟩ = some (.int .i64 Y.2.2.2) := by rw [Lib.cell_of_heap hK6]; rfl
          have l5 : w6.cell? ⟨K, 5, none⟩ = some (.int .i64 0) := by rw [Lib.cell_of_heap hK6]; rfl
          have hne : ¬ K = w.heap.size := by omega
          have HPK := hide' hpk
          have hsx : w.heap.size < w6.heap.size := by omega
          clear hC6 hK6 hpk
          go_wp2
          go_region
          go_wp2
          refine bodyPost_ret (v := .tuple #[v6, .agg #[.int .i32 0, .int .i64 Y.1, .int .i64 Y.2.1, .int .i64 Y.2.2.1, .int .i64 Y.2.2.2, .int .i64 0], .int .i64 2]) (by simp [results, Tryd.results16, go_sem, r0, r1, r2, r3, r4, r5]) rfl ?_
          have key : ∀ W', But w.heap.size w6 W' → ∃ out, Ending.returned (.tuple #[v6, .agg #[.int .i32 0, .int .i64 Y.1, .int .i64 Y.2.1, .int .i64 Y.2.2.1, .int .i64 Y.2.2.2, .int .i64 0], .int .i64 2]) = .returned (drainV f n true out (Fd.tkE f n true n 0 (0, 1, 1))) ∧ W'.ownsRow (w.heap.size + 1 + 1) 36 6 out (Fd.tk f n true n 0 (0, 1, 1)).length (fcCells (Fd.tk f n true n 0 (0, 1, 1))) ∧ Below w.heap.size w W' := by
            intro W' hX
            obtain ⟨b1, b2, -⟩ := Fd.tk_bad hmn true p4 HXX.out
            have hl1 := HL3.out.1
            have hl2 := HL3.out.2
            rw [b1, List.append_nil] at hl1
            rw [b2] at hl2
            refine ⟨v6, ?_, ?_, HB6.out.trans (hX.below (Nat.le_refl _) (by omega))⟩
            · rw [← hl2]
              unfold drainV
              dsimp only
              rw [HPK.out, HYY.out, HXX.out]
              rfl
            · rw [← hl1, HD.out]
              exact hX.row HA6.out (by omega)
          exact key _ (((((((But.of_below (Below.refl _ _)).setCell (p := ⟨w.heap.size, 0, none⟩) rfl _).setCell (p := ⟨w.heap.size, 1, none⟩) rfl _).setCell (p := ⟨w.heap.size, 2, none⟩) rfl _).setCell (p := ⟨w.heap.size, 3, none⟩) rfl _).setCell (p := ⟨w.heap.size, 4, none⟩) rfl _).setCell (p := ⟨w.heap.size, 5, none⟩) rfl _ |>.then ((Below.refl _ _).drew))
        · have e2 : ((X : Int) == 2) = false := by simp; omega
          go_wp2
          go_roundw
          case rel => exact ⟨a + d, i + 1, T4, v3, p4, pre ++ L, by go_num, by go_num, by omega, by omega, by omega, ⟨HF6.out, HA6.out, HAP6.out, HL3.out.1, HL3.out.2, HB6.out, HC6.out⟩⟩
          case measure => simp [RowKit.intOf]; omega
    · have g1 : ¬ (a : Int) < n := by omega
      obtain rfl : a = n := by omega
      have cE := feedEnd_abs hJ.feed
      have HJ := hide' hJ
      have hDe := HD.out
      have hDlt := hJ.feed.lt
      have hTa := hJ.feed.taken
      clear hJ HPA HPC
      go_wp2_with fail
      refine cE.mono ?_
      rintro e w2 ⟨rfl, hF2, hbu2⟩
      have hs2 := hbu2.size
      have hb2 : Below w.heap.size w w2 := HJ.out.below.trans (hbu2.below (by omega) HJ.out.below.size)
      have hA2 := hbu2.row HJ.out.row (by omega)
      have hC2 := (hbu2.block w.heap.size (by omega) (by omega)).trans HJ.out.cell
      have cD := drain_any (tabs_below HT.out hb2 (Nat.le_refl _)) ⟨(by omega), (by omega)⟩ hf hF2 (a + 1) (by omega) (by omega) (by omega)
      have hlL := And.intro HJ.out.list HJ.out.last
      have hlen : pre.length + (Fd.tk f a true (a - T) T p).length ≤ a := by
        have h9 := congrArg List.length hlL.1
        have h8 := Fd.tk_length f a true a 0 (0, 1, 1)
        simp only [List.length_append] at h9
        omega
      generalize Fd.tk f a true (a - T) T p = L at *
      generalize Fd.tkE f a true (a - T) T p = S at *
      obtain ⟨T4, p4⟩ := S
      unfold drainV at cD
      dsimp only at cD
      have HL3 := hide' hlL
      have HB2 := hide' hb2
      have HA2 := hide' hA2
      have HC2 := hide' hC2
      clear cE hF2 hbu2 hb2 hA2 hC2 hlL HJ
      go_wp2_with fail
      refine cD.mono ?_
      rintro e w4 ⟨out, rfl, ho4, -, hne4, hbu4⟩
      have hb4 : Below w.heap.size w w4 := HB2.out.trans (hbu4.below (by omega) HB2.out.size)
      have hs4 := hbu4.size
      have hA4 := hbu4.row HA2.out (by omega)
      have hC4 := (hbu4.block w.heap.size (by omega) (by omega)).trans HC2.out
      generalize hXX : (Fd.pk f a T4 true).2.2.2 = X at *
      generalize hYY : Fd.pkY (Fd.pk f a T4 true) T4 p4 = Y at *
      obtain ⟨K, hK⟩ : ∃ K, w4.heap.size = K := ⟨_, rfl⟩
      have hbb : Below w4.heap.size w4 (w4.alloc (.cells #[.int .i32 0, .int .i64 Y.1, .int .i64 Y.2.1, .int .i64 Y.2.2.1, .int .i64 Y.2.2.2, .int .i64 0] 36)) := (Below.refl _ _).alloc (Nat.le_refl _) _
      have hKc : (w4.alloc (.cells #[.int .i32 0, .int .i64 Y.1, .int .i64 Y.2.1, .int .i64 Y.2.2.1, .int .i64 Y.2.2.2, .int .i64 0] 36)).heap[K]? = some (.cells #[.int .i32 0, .int .i64 Y.1, .int .i64 Y.2.1, .int .i64 Y.2.2.1, .int .i64 Y.2.2.2, .int .i64 0] 36 (0, 0)) := heap_top _ _ hK.symm
      have hs5 : (w4.alloc (.cells #[.int .i32 0, .int .i64 Y.1, .int .i64 Y.2.1, .int .i64 Y.2.2.1, .int .i64 Y.2.2.2, .int .i64 0] 36)).heap.size = K + 1 := by simp [hK]
      have HS5 := hide' hs5
      have HA5 := hide' (hA4.kept_below hbb)
      have HO5 := hide' (ho4.kept_below hbb)
      have HB5 := hide' (hb4.trans (hbb.mono (by omega)))
      have HC5 := hide' ((hbb.block w.heap.size (by omega)).trans hC4)
      have HKc := hide' hKc
      have HU8 := hide' (fun q (hq : u8.ownBlock = some q) => (⟨(hA4.lt q hq).1, hK ▸ (hA4.lt q hq).2⟩ : D + 1 ≤ q ∧ q < K))
      have HXX := hide' hXX
      have HYY := hide' hYY
      have hKw : w.heap.size < K := by omega
      clear hbb cD ho4 hbu4 hb4 hA4 hC4 hKc hs5 hXX hYY HB2 HA2 HC2
      go_wp2
      generalize w4.alloc (.cells #[.int .i32 0, .int .i64 Y.1, .int .i64 Y.2.1, .int .i64 Y.2.2.1, .int .i64 Y.2.2.2, .int .i64 0] 36) = w5 at *
      clear hK hs4
      have e1 : pre.length + L.length ≤ maxLen := by unfold maxLen; omega
      have e2 : (pre.length + L.length) * 48 ≤ 140737488355328 := by omega
      have hQ7 : ∀ W, w5.drew.grownBy W u8.ownBlock → W.heap[K]? = some (.cells #[.int .i32 0, .int .i64 Y.1, .int .i64 Y.2.1, .int .i64 Y.2.2.1, .int .i64 Y.2.2.2, .int .i64 0] 36 (0, 0)) ∧ W.heap[w.heap.size]? = some (.cells #[.int .i32 0, .int .i64 0, .int .i64 0, .int .i64 0, .int .i64 0, .int .i64 0] 36 (0, 0)) ∧ Below w.heap.size w W ∧ w.heap.size < W.heap.size := by
        intro W hg
        have h5 : w5.drew.heap.size = K + 1 := HS5.out
        have hne : ∀ k, k ≤ w.heap.size → some k ≠ u8.ownBlock := fun k hk e => by have := (HU8.out _ e.symm).1; omega
        refine ⟨(hg.block K (by omega) (fun e => by have := (HU8.out _ e.symm).2; omega)).trans HKc.out, (hg.block w.heap.size (by omega) (hne _ (Nat.le_refl _))).trans HC5.out, HB5.out.trans ⟨hg.os, hg.tape, hg.output, hg.size, fun k hk => hg.block k (by omega) (hne k (by omega))⟩, ?_⟩
        have := hg.size
        omega
      have HQ7 := hide' hQ7
      have HA6 : Hid (w5.drew.ownsRow (D + 1) 36 6 u8 pre.length (fcCells pre)) := HA5.out
      have HO6 : Hid (w5.drew.ownsRow (w2.heap.size + 1) 36 6 out L.length (fcCells L)) := HO5.out
      have HE1 := hide' e1
      have HE2 := hide' e2
      have HE3 : Hid (D + 1 ≤ w5.drew.heap.size) := by show D + 1 ≤ w5.heap.size; rw [HS5.out]; omega
      obtain ⟨l0, l1, l2, l3, l4, l5⟩ := keepC (W := w5) HKc.out
      have l9 : w5.cell? ⟨K, 0, none⟩ = some (.int .i32 0) ∧ w5.cell? ⟨K, 1, none⟩ = some (.int .i64 Y.1) ∧ w5.cell? ⟨K, 2, none⟩ = some (.int .i64 Y.2.1) ∧ w5.cell? ⟨K, 3, none⟩ = some (.int .i64 Y.2.2.1) ∧ w5.cell? ⟨K, 4, none⟩ = some (.int .i64 Y.2.2.2) ∧ w5.cell? ⟨K, 5, none⟩ = some (.int .i64 0) := ⟨l0, l1, l2, l3, l4, l5⟩
      have hne : ¬ K = w.heap.size := by omega
      clear l0 l1 l2 l3 l4 l5 hQ7 HA5 HO5 e1 e2 HKc HC5 HB5 HU8 HS5
      go_region_held3 (fun w' => w'.cell? ⟨K, 0, none⟩ = some (.int .i32 0) ∧ w'.cell? ⟨K, 1, none⟩ = some (.int .i64 Y.1) ∧ w'.cell? ⟨K, 2, none⟩ = some (.int .i64 Y.2.1) ∧ w'.cell? ⟨K, 3, none⟩ = some (.int .i64 Y.2.2.1) ∧ w'.cell? ⟨K, 4, none⟩ = some (.int .i64 Y.2.2.2) ∧ w'.cell? ⟨K, 5, none⟩ = some (.int .i64 0)) (first | (with_reducible exact l9) | (with_reducible exact q7) | (exact hS7 _ (((((((But.of_below (Below.refl _ _)).setCell (p := ⟨w.heap.size, 0, none⟩) rfl _).setCell (p := ⟨w.heap.size, 1, none⟩) rfl _).setCell (p := ⟨w.heap.size, 2, none⟩) rfl _).setCell (p := ⟨w.heap.size, 3, none⟩) rfl _).setCell (p := ⟨w.heap.size, 4, none⟩) rfl _).setCell (p := ⟨w.heap.size, 5, none⟩) rfl _)) | go_keep) ((refine step_append_rows rfl (.tmp 83) (.tmp 84) 47 rfl (D + 1) (w2.heap.size + 1) 36 i0 (.agg #[.int .i32 0, .int .i64 0, .int .i64 0, .int .i64 0, .int .i64 0, .int .i64 0]) 6 48 Tryd.underlying47 hi hz0 hz1 hz2 rfl (by decide) u8 pre.length (fcCells pre) rfl HA6.out out L.length (fcCells L) rfl HO6.out (fcCells_one L) HE1.out HE2.out HE3.out ?_; intro v7 w7 hown7 hgrow7 _; obtain ⟨hK7, hC7, hB7, hs7⟩ := HQ7.out w7 hgrow7; have q7 := keepC (W := w7) hK7; have hS7 := keepS (n := w.heap.size) hK7 (fun e => hne e); obtain ⟨l0, l1, l2, l3, l4, l5⟩ := keepC (W := w7) hK7; obtain ⟨r0, r1, r2, r3, r4, r5⟩ := keepC (W := w7) hC7; obtain ⟨rz0, rz1, rz2, rz3, rz4, rz5⟩ := keepF (W := w7) hC7))
      go_wp2
      refine bodyPost_ret (v := .tuple #[v7, .agg #[.int .i32 0, .int .i64 Y.1, .int .i64 Y.2.1, .int .i64 Y.2.2.1, .int .i64 Y.2.2.2, .int .i64 0], .int .i64 X]) (by simp [results, Tryd.results16, go_sem, r0, r1, r2, r3, r4, r5]) rfl ?_
      have key : ∀ W', But w.heap.size w7 W' → ∃ out, Ending.returned (.tuple #[v7, .agg #[.int .i32 0, .int .i64 Y.1, .int .i64 Y.2.1, .int .i64 Y.2.2.1, .int .i64 Y.2.2.2, .int .i64 0], .int .i64 X]) = .returned (drainV f a true out (Fd.tkE f a true a 0 (0, 1, 1))) ∧ W'.ownsRow (w.heap.size + 1 + 1) 36 6 out (Fd.tk f a true a 0 (0, 1, 1)).length (fcCells (Fd.tk f a true a 0 (0, 1, 1))) ∧ Below w.heap.size w W' := by
        intro W' hX
        refine ⟨v7, ?_, ?_, hB7.trans (hX.below (Nat.le_refl _) (by omega))⟩
        · rw [← HL3.out.2]
          unfold drainV
          dsimp only
          rw [HYY.out, HXX.out]
          rfl
        · rw [← HL3.out.1, HD.out, fcCells_append, List.length_append]
          exact hX.row hown7 (by omega)
      exact key _ (((((((But.of_below (Below.refl _ _)).setCell (p := ⟨w.heap.size, 0, none⟩) rfl _).setCell (p := ⟨w.heap.size, 1, none⟩) rfl _).setCell (p := ⟨w.heap.size, 2, none⟩) rfl _).setCell (p := ⟨w.heap.size, 3, none⟩) rfl _).setCell (p := ⟨w.heap.size, 4, none⟩) rfl _).setCell (p := ⟨w.heap.size, 5, none⟩) rfl _)
end Go.Proofs.YtbfabpjhdhhpfaaDoor
