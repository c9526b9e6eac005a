/-
  THE WALK over slices.CompactFunc at formulas, with kleene.isEqual.
-/
import Derived.Test.YtmpmlccomgepjaaKlCmp
import Derived.Test.YtmpmlccomgepjaaKlRow
namespace Go.Proofs.Ytmpmlccomgepjaa
open Go.RowKit Go.Lib Go.Sort
namespace Kl
/-- of the first t formulas those that differ from the one ahead -/
def kp (R : Nat → Fv) : Nat → List Fv
  | 0 => []
  | 1 => [R 0]
  | t + 2 => if cmpF (ct (R (t + 1))) (ct (R t)) = 0 then kp R (t + 1) else kp R (t + 1) ++ [R (t + 1)]
theorem kp_same {R : Nat → Fv} {t : Nat} (ht : 0 < t) (h : cmpF (ct (R t)) (ct (R (t - 1))) = 0) : kp R (t + 1) = kp R t := by
  obtain ⟨s, rfl⟩ : ∃ s, t = s + 1 := ⟨t - 1, by omega⟩
  rw [kp, if_pos (by simpa using h)]
theorem kp_new {R : Nat → Fv} {t : Nat} (ht : 0 < t) (h : cmpF (ct (R t)) (ct (R (t - 1))) ≠ 0) : kp R (t + 1) = kp R t ++ [R t] := by
  obtain ⟨s, rfl⟩ : ∃ s, t = s + 1 := ⟨t - 1, by omega⟩
  rw [kp, if_neg (by simpa using h)]
theorem kp_le (R : Nat → Fv) : ∀ t, (kp R t).length ≤ t
  | 0 => by simp [kp]
  | 1 => by simp [kp]
  | t + 2 => by
    have := kp_le R (t + 1)
    rw [kp]
    split
    · omega
    · rw [List.length_append]; simp; omega
theorem kp_pos (R : Nat → Fv) : ∀ t, 0 < t → 0 < (kp R t).length
  | 0, h => by omega
  | 1, _ => by simp [kp]
  | t + 2, _ => by
    have := kp_pos R (t + 1) (by omega)
    rw [kp]
    split
    · omega
    · rw [List.length_append]; omega
/-- all of them -/
theorem kp_all {R : Nat → Fv} : ∀ {t : Nat}, (∀ k, 0 < k → k < t → cmpF (ct (R k)) (ct (R (k - 1))) ≠ 0) → kp R t = (List.range t).map R
  | 0, _ => rfl
  | 1, _ => rfl
  | t + 2, h => by
    rw [kp, if_neg (by simpa using h (t + 1) (by omega) (by omega)), kp_all fun k h0 h1 => h k h0 (by omega), List.range_succ (n := t + 1)]
    simp
def nth (l : List Fv) (k : Nat) : Fv := (l[k]?).getD default
/-- what CompactFunc leaves -/
def Cpt (w : World) (g cap n : Nat) (R : Nat → Fv) (r : Ending) (w' : World) : Prop :=
  r = .returned (.slice (some ⟨g, 0, none⟩) (kp R n).length cap) ∧ Rw w' g cap (kp R n).length (nth (kp R n)) ∧ Ch g w w'
theorem nth_all {R : Nat → Fv} {t k : Nat} (h : k < t) : nth ((List.range t).map R) k = R k := by simp [nth, h]
theorem nth_left {l m : List Fv} {k : Nat} (h : k < l.length) : nth (l ++ m) k = nth l k := by unfold nth; rw [List.getElem?_append_left h]
theorem nth_last {l : List Fv} {x : Fv} : nth (l ++ [x]) l.length = x := by simp [nth]
/-- the second loop: the first i hold what is kept of T of them, from T - 1 on they are as they were -/
structure Cp2 (w : World) (g cap n : Nat) (R : Nat → Fv) (i T : Nat) (wr : World) : Prop where
  row : ∃ R', Rw wr g cap n R' ∧ (∀ k, k < i → R' k = nth (kp R T) k) ∧ ∀ k, T - 1 ≤ k → k < n → R' k = R k
  len : (kp R T).length = i
  ch : Ch g w wr
theorem Cp2.at {w : World} {g cap n : Nat} {R : Nat → Fv} {i T : Nat} {wr : World} (h : Cp2 w g cap n R i T wr) {k : Nat} (h1 : T - 1 ≤ k) (h2 : k < n) : wr.rangeAt g (k * 4) (R k).enc := by
  obtain ⟨R', r1, _, r3⟩ := h.row
  rw [← r3 k h1 h2]
  exact r1.rng k h2
theorem Cp2.grow {w : World} {g cap n : Nat} {R : Nat → Fv} {i T : Nat} {wr w' : World} (h : Cp2 w g cap n R i T wr) (hg : Gr wr w') : Cp2 w g cap n R i T w' := by
  obtain ⟨R', r1, r2, r3⟩ := h.row
  exact ⟨⟨R', r1.keep (hg.below.block g r1.lt), r2, r3⟩, h.len, h.ch.trans hg.ch⟩
theorem Cp2.same {w : World} {g cap n : Nat} {R : Nat → Fv} {i T : Nat} {wr : World} (h : Cp2 w g cap n R i T wr) (hT : 0 < T) (he : cmpF (ct (R T)) (ct (R (T - 1))) = 0) : Cp2 w g cap n R i (T + 1) wr := by
  obtain ⟨R', r1, r2, r3⟩ := h.row
  have := kp_same hT he
  exact ⟨⟨R', r1, fun k hk => by rw [this]; exact r2 k hk, fun k hk => r3 k (by omega)⟩, by rw [this]; exact h.len, h.ch⟩
theorem Cp2.put {w : World} {g cap n : Nat} {R : Nat → Fv} {i T : Nat} {wr : World} (h : Cp2 w g cap n R i T wr) (hT : 0 < T) (hi : i < T) (hn : T < n) (he : cmpF (ct (R T)) (ct (R (T - 1))) ≠ 0) :
    Cp2 w g cap n R (i + 1) (T + 1) (wr.setCells g (i * 4) (R T).enc) := by
  obtain ⟨R', r1, r2, r3⟩ := h.row
  have e := kp_new hT he
  refine ⟨⟨_, r1.set (by omega) (R T), fun k hk => ?_, fun k hk hk2 => ?_⟩, by rw [e, List.length_append, h.len]; rfl, Ch.set _ h.ch _ _⟩
  · by_cases c : k = i
    · subst c
      rw [if_pos rfl, e]
      have := h.len
      subst this
      rw [nth_last]
    · rw [if_neg c, e, nth_left (by rw [h.len]; omega)]
      exact r2 k (by omega)
  · rw [if_neg (by omega)]
    exact r3 k (by omega) hk2
/-- an empty formula -/
def zf : Value := .agg #[.int .i64 0, .int .i64 0, .int .i64 0, .slice none 0 0]
theorem run_clear {w : World} {g cap n : Nat} {R : Nat → Fv} (h : Rw w g cap n R) {a : Nat} (ha : a < n) (c : Nat) : ∃ zs, ∀ ty, (Builtin.clear_ #[24] ty #[.slice (some ⟨g, a * 4, none⟩) (n - a) c]).run Try.prog w = .ok (.tuple #[]) (w.setCells g (a * 4) zs) := by
  have hl := h.len
  obtain ⟨zs, hzs⟩ : ∃ zs, (Builtin.zeroCells zf.cells (n - a)).toList = zs := ⟨_, rfl⟩
  have hlen : zs.length = (n - a) * 4 := by rw [← hzs, Array.length_toList, size_zeroCells]; rfl
  have hone : ∀ v ∈ zs, v.oneCell' = true := by
    intro v hv
    rw [← hzs] at hv
    simp only [Builtin.zeroCells, Array.toList_map, List.mem_map] at hv
    obtain ⟨i, _, rfl⟩ := hv
    show (#[Value.int .i64 0, .int .i64 0, .int .i64 0, .slice none 0 0][i % 4]!).oneCell' = true
    have : i % 4 = 0 ∨ i % 4 = 1 ∨ i % 4 = 2 ∨ i % 4 = 3 := by omega
    rcases this with e | e | e | e <;> rw [e] <;> rfl
  have ht := h.there (i := a * 4) (m := zs.length) (by rw [hlen]; omega)
  have hst := run_storeCells_cells (P := Try.prog) g (a * 4) zs 0 w (fun j hj => (ht j hj).1) (fun j hj => (ht j hj).2) hone
  simp only [Nat.add_zero] at hst
  refine ⟨zs, fun ty => ?_⟩
  obtain ⟨m, hm⟩ : ∃ m, n - a = m + 1 := ⟨n - a - 1, by omega⟩
  rw [hm] at hzs ⊢
  unfold zf at hzs
  simp [Builtin.clear_, run_underlying Try.underlying24, hzs, hst]
theorem one4 (a b c : Int) (p : Option Addr) (k d : Nat) : (#[Value.int .i64 a, .int .i64 b, .int .i64 c, .slice p k d].all (·.oneCell')) = true := all_oneCell_toArray fun v hv => by
  simp at hv
  rcases hv with rfl | rfl | rfl | rfl <;> rfl
theorem fsize : (Try.prog.info? 26).map (·.size) = some 4 := by kernel_rfl
theorem Cp2.done {w : World} {g cap n : Nat} {R : Nat → Fv} {i : Nat} {wr : World} (h : Cp2 w g cap n R i n wr) (hi : i ≤ n) (zs : List Value) : Cpt w g cap n R (.returned (.slice (some ⟨g, 0, none⟩) i cap)) (wr.setCells g (i * 4) zs) := by
  obtain ⟨R', r1, r2, _⟩ := h.row
  unfold Cpt
  rw [h.len]
  exact ⟨rfl, (r1.clear hi zs).few (Nat.le_refl _) fun k hk => (r2 k hk).symm, Ch.set _ h.ch _ _⟩
end Kl
set_option maxRecDepth 100000 in
set_option maxHeartbeats 4000000 in
theorem klCompact (g cap n : Nat) (R : Nat → Kl.Fv) (w : World) (h : Kl.Rw w g cap n R) (hok : ∀ k, k < n → Kl.Ok w (R k) ∧ g ∉ Kl.fp (R k)) :
    Calls Try.prog 28 #[.slice (some ⟨g, 0, none⟩) n cap, .func (.func 29) #[] #[]] w fun r w' => Kl.Cpt w g cap n R r w' := by
  have eg : ∀ args w, (callFunc 29 args).run Try.prog w = .ok (.enter 29 args) w := enters_of Try.func29 (by kernel_rfl) rfl
  have mixed : Try.prog.follows Departure.mixedOrders = true := by kernel_rfl
  have l1 := h.len
  have l2 : cap ≤ 9223372036854775807 := by have := h.max; unfold maxLen at this; omega
  have H := hide' h
  have HK := hide' hok
  clear h hok
  go_enter Try.func28, Try.ntmps28
  by_cases h2 : n < 2
  · have t1 : (n : Int) < 2 := by omega
    go_wp2_with fail
    go_ret
    have e2 : Kl.kp R n = (List.range n).map R := Kl.kp_all fun k h0 h1 => by omega
    unfold Kl.Cpt
    rw [e2]
    simp only [List.length_map, List.length_range]
    exact ⟨rfl, H.out.few (Nat.le_refl _) fun k hk => Kl.nth_all hk, Kl.Ch.refl _ _⟩
  · have t1 : ¬ (n : Int) < 2 := by omega
    go_wp2_with fail
    go_loopw [5] (fun z wr => ∃ i : Nat, z = .int .i64 i ∧ 1 ≤ i ∧ i ≤ n ∧ Hid (∀ k, 0 < k → k < i → Kl.cmpF (Kl.ct (R k)) (Kl.ct (R (k - 1))) ≠ 0) ∧ Hid (Kl.Gr w wr)) (fun z _ => n - (RowKit.intOf z).toNat)
    case atStart => exact ⟨1, rfl, Nat.le_refl _, by omega, fun k h0 h1 => by omega, Kl.Gr.refl _⟩
    case round =>
      obtain ⟨i, rfl, hi1, hi2, HI, HG⟩ := hrel
      by_cases hlt : i < n
      · have t2 : (i : Int) < (n : Int) := by omega
        obtain ⟨m, hm⟩ : ∃ m, i = m + 1 := ⟨i - 1, by omega⟩
        have HM := hide' hm
        have t3 : (m : Int) < (n : Int) := by omega
        have t4 : (i : Int) - 1 = (m : Int) := by omega
        have t5 : IntKind.i64.wrap (m : Int) = (m : Int) := by rw [IntKind.wrap_i64]; omega
        clear hm
        have c1 := H.out.rng i hlt
        have c2 := H.out.rng m (by have := HM.out; omega)
        have o1 := HK.out i hlt
        have o2 := HK.out m (by have := HM.out; omega)
        have hq := fun q os => klIsEqual (R i) (R m) (grow (wr.drewN q) os) ((HG.out.ok o1.1).grown q os) ((HG.out.ok o2.1).grown q os)
        obtain ⟨x, hx⟩ : ∃ x, R i = x := ⟨_, rfl⟩
        obtain ⟨y, hy⟩ : ∃ y, R m = y := ⟨_, rfl⟩
        obtain ⟨b, hb⟩ : ∃ b, decide (Kl.cmpF (Kl.ct x) (Kl.ct y) = 0) = b := ⟨_, rfl⟩
        rw [hx] at c1
        rw [hy] at c2
        simp only [hx, hy, hb] at hq
        have HX := hide' hx
        have HY := hide' hy
        have HBB := hide' hb
        obtain ⟨xo, xv, xn, xp, xc, xl⟩ := x
        obtain ⟨yo, yv, yn, yp, yc, yl⟩ := y
        obtain ⟨kx, hkx⟩ : ∃ k, xl.length = k := ⟨_, rfl⟩
        obtain ⟨ky, hky⟩ : ∃ k, yl.length = k := ⟨_, rfl⟩
        simp only [Kl.Fv.enc, hkx, hky] at hq
        have p0 := fun q os => cell_grown (block_lt_of_cell (HG.out.cell (Kl.cells4 c1).1)) (HG.out.cell (Kl.cells4 c1).1) q os
        have p1 := fun q os => cell_grown (block_lt_of_cell (HG.out.cell (Kl.cells4 c1).2.1)) (HG.out.cell (Kl.cells4 c1).2.1) q os
        have p2 := fun q os => cell_grown (block_lt_of_cell (HG.out.cell (Kl.cells4 c1).2.2.1)) (HG.out.cell (Kl.cells4 c1).2.2.1) q os
        have p3 := fun q os => cell_grown (block_lt_of_cell (HG.out.cell (Kl.cells4 c1).2.2.2)) (HG.out.cell (Kl.cells4 c1).2.2.2) q os
        have r0 := fun q os => cell_grown (block_lt_of_cell (HG.out.cell (Kl.cells4 c2).1)) (HG.out.cell (Kl.cells4 c2).1) q os
        have r1 := fun q os => cell_grown (block_lt_of_cell (HG.out.cell (Kl.cells4 c2).2.1)) (HG.out.cell (Kl.cells4 c2).2.1) q os
        have r2 := fun q os => cell_grown (block_lt_of_cell (HG.out.cell (Kl.cells4 c2).2.2.1)) (HG.out.cell (Kl.cells4 c2).2.2.1) q os
        have r3 := fun q os => cell_grown (block_lt_of_cell (HG.out.cell (Kl.cells4 c2).2.2.2)) (HG.out.cell (Kl.cells4 c2).2.2.2) q os
        simp only [hkx] at p3
        simp only [hky] at r3
        have HQ := hide' hq
        clear c1 c2 o1 o2 hx hy hb hkx hky hq
        have HBE : Hid (decide (Kl.cmpF (Kl.ct (R i)) (Kl.ct (R m)) = 0) = b) := by rw [HX.out, HY.out]; exact HBB.out
        clear HBB HX HY
        cases b with
        | false =>
          go_wp2_with fail
          go_quiet_grown (first | (go_at_fn 29; refine Calls.grown_of (HQ.out _ _)))
          have HG2 : Hid (Kl.Gr w (grow (wr.drewN nq) osq)) := HG.out.trans ⟨nq, osq, rfl⟩
          clear p0 p1 p2 p3 r0 r1 r2 r3 HQ
          go_wp2_with fail
          go_roundw
          case rel => exact ⟨i + 1, by go_num, by omega, by omega, fun k h0 h1 => by
            by_cases c : k = i
            · subst c; rw [show k - 1 = m by have := HM.out; omega]; exact of_decide_eq_false HBE.out
            · exact HI.out k h0 (by omega), HG2⟩
          case measure => simp [RowKit.intOf]; omega
        | true =>
          go_wp2_with fail
          go_quiet_grown (first | (go_at_fn 29; refine Calls.grown_of (HQ.out _ _)))
          have HG2 : Hid (Kl.Gr w (grow (wr.drewN nq) osq)) := HG.out.trans ⟨nq, osq, rfl⟩
          clear p0 p1 p2 p3 r0 r1 r2 r3 HQ
          generalize grow (wr.drewN nq) osq = wq at HG2 ⊢
          have s1 : ¬ cap = i := by omega
          have s2 : ¬ cap - i = 0 := by omega
          have HC : Hid (Kl.Cp2 w g cap n R i (i + 1) wq) := by
            have e : Kl.kp R (i + 1) = Kl.kp R i := Kl.kp_same (by omega) (by rw [show i - 1 = m by have := HM.out; omega]; exact of_decide_eq_true HBE.out)
            have e2 : Kl.kp R i = (List.range i).map R := Kl.kp_all HI.out
            refine ⟨⟨R, H.out.keep (HG2.out.below.block g H.out.lt), fun k hk => ?_, fun _ _ _ => rfl⟩, by rw [e, e2]; simp, HG2.out.ch⟩
            rw [e, e2, Kl.nth_all hk]
          clear HI HBE HM t3 t4 t5 HG HG2
          go_wp2_with fail
          clear t2
          go_loopw [5, 7] (fun z1 z2 wr => ∃ a j : Nat, z1 = .int .i64 a ∧ z2 = .int .i64 j ∧ 1 ≤ j ∧ i + j ≤ n ∧ a < i + j ∧ Hid (Kl.Cp2 w g cap n R a (i + j) wr)) (fun _ z2 _ => n - i - (RowKit.intOf z2).toNat)
          case atStart => exact ⟨i, 1, rfl, rfl, Nat.le_refl _, by omega, by omega, HC⟩
          case round =>
            clear HC
            obtain ⟨a, j, rfl, rfl, hj1, hj2, ha, HC⟩ := hrel
            obtain ⟨w4, hw4⟩ : ∃ w4, w4 = wr := ⟨_, rfl⟩
            by_cases hlt2 : i + j < n
            · have t2 : (j : Int) < (n : Int) - (i : Int) := by omega
              have t2' : (j : Int) < ((n - i : Nat) : Int) := by omega
              obtain ⟨m, hm⟩ : ∃ m, j = m + 1 := ⟨j - 1, by omega⟩
              have HM := hide' hm
              have t3 : (m : Int) < ((n - i : Nat) : Int) := by omega
              have t4 : (j : Int) - 1 = (m : Int) := by omega
              have t5 : IntKind.i64.wrap (m : Int) = (m : Int) := by rw [IntKind.wrap_i64]; omega
              have c1 := HC.out.at (k := i + j) (by omega) hlt2
              have c2 := HC.out.at (k := i + m) (by omega) (by omega)
              have o1 := HK.out (i + j) hlt2
              have o2 := HK.out (i + m) (by omega)
              have e1 : (i + j) * 4 = i * 4 + j * 4 := by omega
              have e2 : (i + m) * 4 = i * 4 + m * 4 := by omega
              rw [e1] at c1
              rw [e2] at c2
              have hq := fun q os => klIsEqual (R (i + j)) (R (i + m)) (grow (wr.drewN q) os) ((HC.out.ch.ok o1.1 o1.2).grown q os) ((HC.out.ch.ok o2.1 o2.2).grown q os)
              have hT : wr.there g (a * 4) 4 := by obtain ⟨R', r1, _⟩ := HC.out.row; exact r1.there (by omega)
              obtain ⟨x, hx⟩ : ∃ x, R (i + j) = x := ⟨_, rfl⟩
              obtain ⟨y, hy⟩ : ∃ y, R (i + m) = y := ⟨_, rfl⟩
              obtain ⟨b, hb⟩ : ∃ b, decide (Kl.cmpF (Kl.ct x) (Kl.ct y) = 0) = b := ⟨_, rfl⟩
              rw [hx] at c1
              rw [hy] at c2
              simp only [hx, hy, hb] at hq
              have HBE : Hid (decide (Kl.cmpF (Kl.ct (R (i + j))) (Kl.ct (R (i + m))) = 0) = b) := by rw [hx, hy]; exact hb
              have HX := hide' hx
              obtain ⟨xo, xv, xn, xp, xc, xl⟩ := x
              obtain ⟨yo, yv, yn, yp, yc, yl⟩ := y
              obtain ⟨kx, hkx⟩ : ∃ k, xl.length = k := ⟨_, rfl⟩
              obtain ⟨ky, hky⟩ : ∃ k, yl.length = k := ⟨_, rfl⟩
              simp only [Kl.Fv.enc, hkx, hky] at hq
              have p0 := fun q os => cell_grown (block_lt_of_cell (Kl.cells4 c1).1) (Kl.cells4 c1).1 q os
              have p1 := fun q os => cell_grown (block_lt_of_cell (Kl.cells4 c1).2.1) (Kl.cells4 c1).2.1 q os
              have p2 := fun q os => cell_grown (block_lt_of_cell (Kl.cells4 c1).2.2.1) (Kl.cells4 c1).2.2.1 q os
              have p3 := fun q os => cell_grown (block_lt_of_cell (Kl.cells4 c1).2.2.2) (Kl.cells4 c1).2.2.2 q os
              have r0 := fun q os => cell_grown (block_lt_of_cell (Kl.cells4 c2).1) (Kl.cells4 c2).1 q os
              have r1 := fun q os => cell_grown (block_lt_of_cell (Kl.cells4 c2).2.1) (Kl.cells4 c2).2.1 q os
              have r2 := fun q os => cell_grown (block_lt_of_cell (Kl.cells4 c2).2.2.1) (Kl.cells4 c2).2.2.1 q os
              have r3 := fun q os => cell_grown (block_lt_of_cell (Kl.cells4 c2).2.2.2) (Kl.cells4 c2).2.2.2 q os
              simp only [hkx] at p3
              simp only [hky] at r3
              have HQ := hide' hq
              have HT := hide' hT
              have HXE : Hid ((R (i + j)).enc = [.int .i64 xo, .int .i64 xv, .int .i64 xn, .slice xp kx xc]) := by show _ = _; rw [HX.out]; simp only [Kl.Fv.enc, hkx]
              clear c1 c2 o1 o2 hx hy hb hkx hky hq e1 e2 hT hm HX
              cases b with
              | true =>
                go_wp2_with fail
                go_quiet_grown (first | (go_at_fn 29; refine Calls.grown_of (HQ.out _ _)))
                have HC2 : Hid (Kl.Cp2 w g cap n R a (i + j) (grow (wr.drewN nq) osq)) := HC.out.grow ⟨nq, osq, rfl⟩
                clear p0 p1 p2 p3 r0 r1 r2 r3 HQ
                go_wp2_with fail
                go_roundw
                case rel => exact ⟨a, j + 1, rfl, by go_num, by omega, by omega, by omega, by
                  have := HC2.out.same (by omega) (by rw [show i + j - 1 = i + m by have := HM.out; omega]; exact of_decide_eq_true HBE.out)
                  exact this⟩
                case measure => simp [RowKit.intOf]; omega
              | false =>
                go_wp2_with fail
                go_quiet_grown (first | (go_at_fn 29; refine Calls.grown_of (HQ.out _ _)))
                have HC2 : Hid (Kl.Cp2 w g cap n R a (i + j) (grow (wr.drewN nq) osq)) := HC.out.grow ⟨nq, osq, rfl⟩
                have hT2 : (grow (wr.drewN nq) osq).there g (a * 4) (#[Value.int .i64 xo, .int .i64 xv, .int .i64 xn, .slice xp kx xc] : Array Value).size := by obtain ⟨R', r1, _⟩ := HC2.out.row; exact r1.there (by show a * 4 + 4 ≤ _; omega)
                have q0 := p0 nq osq
                have q1 := p1 nq osq
                have q2 := p2 nq osq
                have q3 := p3 nq osq
                have HT2 := hide' hT2
                clear p0 p1 p2 p3 r0 r1 r2 r3 HQ hT2
                generalize grow (wr.drewN nq) osq = wq at HC2 HT2 q0 q1 q2 q3 ⊢
                have ta : (a : Int) < (n : Int) := by omega
                go_wp2_with (first | (refine wpList_store_mid rfl 26 (.tmp 56) (.tmp 55) rfl g (a * 4) #[.int .i64 xo, .int .i64 xv, .int .i64 xn, .slice xp kx xc] rfl rfl HT2.out Kl.fsize (Kl.one4 _ _ _ _ _ _) ?_))
                go_roundw
                case rel => exact ⟨a + 1, j + 1, by go_num, by go_num, by omega, by omega, by omega, by
                  have := HC2.out.put (by omega) ha hlt2 (by rw [show i + j - 1 = i + m by have := HM.out; omega]; exact of_decide_eq_false HBE.out)
                  rw [HXE.out] at this
                  exact this⟩
                case measure => simp [RowKit.intOf]; omega
            · have t2 : ¬ (j : Int) < ((n - i : Nat) : Int) := by omega
              obtain rfl : n = i + j := by omega
              obtain ⟨zs, hzs⟩ : ∃ zs, ∀ ty, (Builtin.clear_ #[24] ty #[.slice (some ⟨g, a * 4, none⟩) (i + j - a) (cap - a)]).run Try.prog wr = .ok (.tuple #[]) (wr.setCells g (a * 4) zs) := by
                obtain ⟨R', r1, _⟩ := HC.out.row
                exact Kl.run_clear r1 ha (cap - a)
              have s3 : ¬ cap = a := by omega
              have s4 : ¬ cap - a = 0 := by omega
              go_wp2_with fail
              go_ret
              exact HC.out.done (by omega) zs
      · have t2 : ¬ (i : Int) < (n : Int) := by omega
        obtain rfl : i = n := by omega
        go_wp2_with fail
        go_ret
        have e2 : Kl.kp R i = (List.range i).map R := Kl.kp_all HI.out
        unfold Kl.Cpt
        rw [e2]
        simp only [List.length_map, List.length_range]
        exact ⟨rfl, (H.out.keep (HG.out.below.block g H.out.lt)).few (Nat.le_refl _) fun k hk => Kl.nth_all hk, HG.out.ch⟩
end Go.Proofs.Ytmpmlccomgepjaa
