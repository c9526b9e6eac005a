/-
  THE WALK over gimletlaw04.FeedEager.
-/
import Derived.Test.YtbfabpjhdhhpfaaDoorFdAwake
namespace Go.Proofs.YtbfabpjhdhhpfaaDoor
open Go.RowKit Go.Lib

namespace Fd
open Rn
/-- where Peek waits, at most three bytes lie there -/
theorem wait_short {F : Nat → Nat} {N T : Nat} (h : pk F N T false = (0, 0, 0, 1)) : N - T ≤ 3 ∧ (N - T ≠ 0 → F T ≠ 13 → waits (off F T) (N - T) = true) := by
  unfold pk at h
  split at h
  · next hw =>
    have hl := whole_lt hw
    have hc := whole_cr hw
    split at h
    · next h13 =>
      split at h
      · split at h <;> simp at h
      · have := hc.1 h13
        exact ⟨by omega, fun _ e => absurd this.2 e⟩
    · simp at h
  · split at h
    · exact ⟨by omega, fun e => by omega⟩
    · split at h
      · next hwt =>
        have h4 := fs_le (off F T) (N - T)
        have h5 := hwt
        simp only [waits, decide_eq_true_eq] at h5
        exact ⟨by omega, fun _ _ => hwt⟩
      · simp at h
theorem pk_open (F : Nat → Nat) (N T : Nat) : (pk F N T false).2.2.2 = 0 ∨ pk F N T false = (0, 0, 0, 1) ∨ ((pk F N T false).2.2.2 = 2 ∧ T < N) := by
  unfold pk
  repeat' split
  all_goals (first | (left; rfl) | (right; left; rfl) | (right; right; exact ⟨rfl, by omega⟩) | skip)
  all_goals simp_all
/-- how many bytes the characters have -/
def ws (l : List (Nat × Nat × (Nat × Nat × Nat) × Nat)) : Nat := (l.map (·.2.2.2)).sum
theorem tk_sum (F : Nat → Nat) (N : Nat) (E : Bool) : ∀ (a T : Nat) (p : Nat × Nat × Nat), T + ws (tk F N E a T p) = (tkE F N E a T p).1
  | 0, _, _ => rfl
  | a + 1, T, p => by
    unfold tk tkE
    by_cases h0 : (pk F N T E).2.2.2 = 0
    · rw [if_pos h0, if_pos h0, ← tk_sum F N E a]
      simp [ws]
      omega
    · rw [if_neg h0, if_neg h0]
      rfl
theorem ws_take (l : List (Nat × Nat × (Nat × Nat × Nat) × Nat)) (k : Nat) (h : k < l.length) : ws (l.take (k + 1)) = ws (l.take k) + l[k].2.2.2 := by
  unfold ws
  rw [List.map_take, List.map_take, List.take_succ_eq_append_getElem (by simpa using h)]
  simp
theorem ws_le (l : List (Nat × Nat × (Nat × Nat × Nat) × Nat)) (k : Nat) : ws (l.take k) ≤ ws l := by
  have : ws l = ws (l.take k) + ws (l.drop k) := by
    unfold ws
    rw [← List.sum_append, ← List.map_append, List.take_append_drop]
  omega
end Fd
theorem fcCells_get (l : List (Nat × Nat × (Nat × Nat × Nat) × Nat)) (i : Nat) (h : i < l.length) : (fcCells l)[6 * i + 5]? = some (.int .i64 l[i].2.2.2) := by
  induction l generalizing i with
  | nil => simp at h
  | cons a l ih =>
    have e : fcCells (a :: l) = fcOne a ++ fcCells l := by simp [fcCells]
    cases i with
    | zero => rw [e]; simp [fcOne]
    | succ i =>
      rw [e, List.getElem?_append_right (by simp [fcOne]; omega)]
      have := ih i (by simpa using h)
      rw [show 6 * (i + 1) + 5 - (fcOne a).length = 6 * i + 5 by simp [fcOne]; omega, this]
      simp
theorem ButF.belowB {D B : Nat} {v : Value} {w w' : World} (h : ButF D v w w') (hD : B ≤ D) (hv : ∀ q, v.ownBlock = some q → B ≤ q) (hw : B ≤ w.heap.size) : Below B w w' :=
  ⟨h.os, h.tape, h.output, h.size, fun k hk => h.block k (by omega) (by omega) (fun e => by have := hv k e; omega)⟩

set_option maxRecDepth 100000 in
set_option maxHeartbeats 1000000 in
theorem feedSame_true (pa pb : Option Addr) (n ca cb : Nat) (f : Nat → Nat) (w : World) (hn : n ≤ 9223372036854775807) (ha : 0 < n → ∃ b o, pa = some ⟨b, o, none⟩ ∧ Bytes w b o n f) (hb : 0 < n → ∃ b o, pb = some ⟨b, o, none⟩ ∧ Bytes w b o n f) :
    Calls Tryd.prog 20 #[.slice pa n ca, .slice pb n cb] w fun e w' => e = .returned (.bool true) ∧ Below w.heap.size w w' := by
  have hne : ((n : Int) != n) = false := by simp
  go_enter Tryd.func20, Tryd.ntmps20
  go_wp2
  go_loopw [5] (fun i wr => ∃ k : Nat, i = .int .i64 k ∧ k ≤ n ∧ Below w.heap.size w wr) (fun i _ => n - (RowKit.intOf i).toNat)
  case atStart => exact ⟨0, rfl, Nat.zero_le _, Below.refl _ _⟩
  case round =>
    obtain ⟨k, rfl, hk, hB⟩ := hrel
    by_cases hlt : k < n
    · obtain ⟨ba, oa, rfl, hba⟩ := ha (by omega)
      obtain ⟨bb, ob, rfl, hbb⟩ := hb (by omega)
      have g1 : (k : Int) < n := by omega
      have c1 := (hba.below hB (Nat.le_refl _)) k hlt
      have c2 := (hbb.below hB (Nat.le_refl _)) k hlt
      have c3 : ((f k : Int) != f k) = false := by simp
      clear hba hbb ha hb
      go_wp2
      go_quiet (fail)
      go_wp2
      go_roundw
      case rel => exact ⟨k + 1, by go_num, by omega, below_drewN hB _⟩
      case measure => simp [RowKit.intOf]; omega
    · have g1 : ¬ (k : Int) < n := by omega
      go_wp2
      go_ret
      exact ⟨rfl, hB⟩

/-- the field Byte of a place -/
theorem placeByte (W : World) (a b c d : Int) : (Instr.field 34 (.agg #[.int .i64 a, .int .i64 b, .int .i64 c, .int .i64 d]) 0).run Tryd.prog W = .ok (.int .i64 a) W := by kernel_rfl

/-- the law's state at the head of its loop -/
structure EagJ (w : World) (D : Nat) (f : Nat → Nat) (i T : Nat) (v : Value) (p : Nat × Nat × Nat) (wr : World) : Prop where
  feed : Feed wr D w.heap.size f i T false v p
  waits : Fd.pk f i T false = (0, 0, 0, 1)
  below : Below w.heap.size w wr

set_option maxRecDepth 100000 in
set_option maxHeartbeats 1000000 in
theorem lawEager_any (f : Nat → Nat) (pa : Option Addr) (n cap : Nat) (w : World) (hT : Lib.Utf8Tabs 0 1 w) (hf : ∀ j, f j < 256) (hc : n ≤ cap) (hm : cap ≤ 9223372036854775807) (hn : n ≤ 140737488355328) (hpa : 0 < n → ∃ b o, pa = some ⟨b, o, none⟩ ∧ Bytes w b o n f ∧ b < w.heap.size) :
    Calls Tryd.prog 6 #[.slice pa n cap] w fun e w' => e = .returned (.bool true) ∧ Below w.heap.size w w' := by
  have cA := feedAwake_any w hT
  have kf := placeByte
  obtain ⟨t1, t2⟩ := tabs_low hT
  have HT := hide' hT
  have HPA := hide' hpa
  clear hT hpa
  go_enter Tryd.func6, Tryd.ntmps6
  go_wp2_with fail
  refine cA.mono ?_
  rintro e w1 ⟨rfl, hb1⟩
  have cNew := feedNew_abs w1 f w.heap.size
  have hs1 := hb1.size
  obtain ⟨D, hD⟩ : ∃ D, w1.heap.size = D := ⟨_, rfl⟩
  rw [hD] at cNew
  have hDw : w.heap.size ≤ D := by omega
  have hb1' := hb1
  rw [hD] at hs1
  clear cA hs1
  go_wp2_with fail
  refine cNew.mono ?_
  rintro e w2 ⟨rfl, hF2, hb2, hs2⟩
  have hJ0 : EagJ w D f 0 0 (.slice none 0 0) (0, 1, 1) w2 := ⟨hF2, rfl, hb1'.trans (hb2.mono (by omega))⟩
  clear cNew hF2 hb2 hs2 hb1 hb1' hD
  go_wp2
  go_loopw [4, 5] (fun t i wr => ∃ (i' T : Nat) (v : Value) (p : Nat × Nat × Nat), i = .int .i64 i' ∧ t = .int .i64 T ∧ i' ≤ n ∧ EagJ w D f i' T v p wr) (fun _ i _ => n - (RowKit.intOf i).toNat)
  case atStart => exact ⟨0, 0, _, _, rfl, rfl, Nat.zero_le _, hJ0⟩
  case round =>
    obtain ⟨i, T, v, p, rfl, rfl, hin, hJ⟩ := hrel
    clear hJ0
    by_cases hlt : i < n
    · obtain ⟨hF, hwt, hB⟩ := hJ
      obtain ⟨b, o, rfl, hby, hb⟩ := HPA.out (by omega)
      clear HPA
      have HBY := hide' hby
      clear hby
      have hbW := HBY.out.below hB (Nat.le_refl _)
      have hsh := (Fd.wait_short hwt).1
      have hTi := hF.taken
      have hrow := hF.row
      have hTr := tabs_below HT.out hB (Nat.le_refl _)
      have hsw := hB.size
      have hce : ∀ j u, (xs (fun j => f (i + j)) 1)[j]? = some u → wr.cell? (Addr.add ⟨b, o + i, none⟩ j) = some u := by
        intro j u hu
        obtain ⟨hj, rfl⟩ := xs_get _ _ _ _ hu
        obtain rfl : j = 0 := by omega
        exact hbW i hlt
      have cP := feedPush_abs (G := f) hF hTr ⟨t1, t2⟩ hDw ⟨b, o + i, none⟩ 1 1 (fun j => f (i + j)) hf (fun j _ => rfl) (fun j _ => rfl) hce ⟨(show b ≠ D by omega), (fun e => by have h9 : w.heap.size ≤ b := (hrow _ e).1; omega)⟩ (by omega)
      have HBr := hide' hB
      have HRow := hide' hrow
      have g1 : (i : Int) < n := by omega
      have s1 : (0 : Int) ≤ (i : Int) := by omega
      have s2 : (i : Int) ≤ (i : Int) + 1 := by omega
      have s3 : (i : Int) + 1 ≤ (cap : Int) := by omega
      have s4 : ¬ cap = i := by omega
      clear hF hB hrow hTr hce hbW
      go_wp2_with fail
      refine cP.mono ?_
      rintro e w3 ⟨rfl, v3, hF3, hv3, hbu3⟩
      have hb3 : Below w.heap.size w w3 := HBr.out.trans (hbu3.belowB hDw (fun q hq => (HRow.out q hq).1) hsw)
      have hT3 := tabs_below HT.out hb3 (Nat.le_refl _)
      have hs3 := hb3.size
      have cD := drain_any hT3 ⟨(by omega), (by omega)⟩ hf hF3 (n + 1) (by omega) (by omega) (by omega)
      have hsum := Fd.tk_sum f (i + 1) false (i + 1 - T) T p
      generalize Fd.tk f (i + 1) false (i + 1 - T) T p = L at *
      generalize Fd.tkE f (i + 1) false (i + 1 - T) T p = S at *
      obtain ⟨T4, p4⟩ := S
      unfold drainV at cD
      dsimp only at cD hsum
      have HB3 := hide' hb3
      have HR3 := hide' hF3.row
      clear cP hF3 hv3 hbu3 hb3 hT3 HBr HRow hwt
      go_wp2_with fail
      refine cD.mono ?_
      rintro e w4 ⟨out, rfl, ho4, hF4, hne4, hbu4⟩
      obtain ⟨po, co, rfl⟩ : ∃ po co, out = .slice po L.length co := by
        rcases ho4.2 with ⟨e1, e2⟩ | ⟨q, c, cur, e1, _⟩
        · exact ⟨none, 0, by rw [e1, e2]⟩
        · exact ⟨_, _, e1⟩
      have hb4 : Below w.heap.size w w4 := HB3.out.trans (hbu4.below hDw hs3)
      have hs4 := hb4.size
      generalize hYY : Fd.pkY (Fd.pk f (i + 1) T4 false) T4 p4 = Y at *
      clear hYY
      have hbb : Below w4.heap.size w4 (w4.alloc (.cells #[.int .i32 0, .int .i64 Y.1, .int .i64 Y.2.1, .int .i64 Y.2.2.1, .int .i64 Y.2.2.2, .int .i64 0] 36)) := (Below.refl _ _).alloc (Nat.le_refl _) _
      have HO5 := hide' (ho4.kept_below hbb)
      have HF5 := hide' (hF4.below hbb)
      have HB5 := hide' (hb4.trans (hbb.mono hs4))
      have HN4 := hide' hne4
      have HS := hide' hsum
      have hLm : L.length ≤ 9223372036854775807 := by
        rcases ho4.2 with ⟨_, e2⟩ | ⟨q, c, cur, e1, _, _, h2, h3, _⟩
        · omega
        · unfold maxLen at h3; omega
      have hT4 : T4 ≤ i + 1 := hF4.taken
      clear cD ho4 hF4 hne4 hbu4 hb4 HB3 hsum hbb
      go_wp2
      generalize w4.alloc (.cells #[.int .i32 0, .int .i64 Y.1, .int .i64 Y.2.1, .int .i64 Y.2.2.1, .int .i64 Y.2.2.2, .int .i64 0] 36) = w5 at *
      obtain ⟨w0, hw0⟩ : ∃ w0, wr = w0 := ⟨_, rfl⟩
      clear hw0
      go_loopw [4, 9] (fun t k w6 => ∃ k' : Nat, k = .int .i64 k' ∧ t = .int .i64 (T + Fd.ws (L.take k') : Nat) ∧ k' ≤ L.length ∧ w6 = w5) (fun _ k _ => L.length - (RowKit.intOf k).toNat)
      case atStart => exact ⟨0, rfl, (by simp [Fd.ws]), Nat.zero_le _, rfl⟩
      case round =>
        obtain ⟨k, rfl, rfl, hk, rfl⟩ := hrel
        by_cases hkl : k < L.length
        · have u1 : (k : Int) < L.length := by omega
          obtain ⟨qo, rfl⟩ : ∃ qo, po = some ⟨qo, 0, none⟩ := by
            rcases HO5.out.2 with ⟨e1, e2⟩ | ⟨q, c, cur, e1, _⟩
            · omega
            · cases e1; exact ⟨q, rfl⟩
          have uc0 := HO5.out.cells (g := qo) rfl (6 * k + 5) _ (fcCells_get L k hkl)
          have uw := Fd.ws_take L k hkl
          have ul := Fd.ws_le L (k + 1)
          have hss := HS.out
          obtain ⟨z, hz⟩ : ∃ z, L[k].2.2.2 = z := ⟨_, rfl⟩
          obtain ⟨t0, ht0⟩ : ∃ t0, T + Fd.ws (L.take k) = t0 := ⟨_, rfl⟩
          rw [hz] at uc0 uw
          rw [show Addr.add ⟨qo, 0, none⟩ (6 * k + 5) = ⟨qo, k * 6 + 5, none⟩ by simp [Addr.add]; omega] at uc0
          rw [ht0]
          have hb0 : t0 + z ≤ 140737488355328 := by omega
          have HE : Hid (T + Fd.ws (L.take (k + 1)) = t0 + z) := by show _ = _; omega
          clear uw ul hz ht0 hss
          go_wp2
          go_roundw
          case rel => exact ⟨k + 1, by go_num, by rw [HE.out]; go_num, by omega, trivial⟩
          case measure => simp [RowKit.intOf]; omega
        · obtain rfl : k = L.length := by omega
          have u1 : ¬ (L.length : Int) < L.length := by omega
          rw [List.take_length, HS.out]
          clear HS hk hkl
          rcases Fd.pk_open f (i + 1) T4 with h0 | hx | ⟨h2, hlt4⟩
          · exact absurd h0 HN4.out
          · skip
            obtain ⟨n', hn'⟩ : ∃ n', i + 1 - T4 = n' := ⟨_, rfl⟩
            have cR := feedRest_abs HF5.out hx
            rw [hn'] at cR
            rw [hx]
            have hsh4 := Fd.wait_short hx
            rw [hn'] at hsh4
            have HX := hide' hx
            clear hx HN4
            go_wp2_with fail
            refine cR.mono ?_
            rintro e w7 ⟨u, rfl, ho7, hb7⟩
            obtain ⟨pu, cu, rfl⟩ : ∃ pu cu, u = .slice pu n' cu := by
              rcases ho7.2 with ⟨e1, e2⟩ | ⟨q, c, cur, e1, _⟩
              · exact ⟨none, 0, by rw [e1, e2]⟩
              · exact ⟨_, _, e1⟩
            have hF7 := HF5.out.below hb7
            have hb7' := HB5.out.trans (hb7.mono HB5.out.size)
            have hbW7 := HBY.out.below hb7' (Nat.le_refl _)
            have hpu : 0 < n' → ∃ b o, pu = some ⟨b, o, none⟩ ∧ Bytes w7 b o n' (Rn.off f T4) := fun h0 => by
              rcases owns_row ho7 with ⟨_, e2⟩ | ⟨q, c, e1, _, _, _, _, hby7⟩
              · omega
              · cases e1; exact ⟨q, 0, rfl, hby7⟩
            have hT7 := tabs_below HT.out hb7' (Nat.le_refl _)
            have v1 : ((1 : Int) != 1) = false := by simp
            have v2 : ¬ (T4 : Int) < 0 := by omega
            have v3' : ¬ (i : Int) + 1 < (T4 : Int) := by omega
            have v4 : ((T4 : Int) + (n' : Int) != (i : Int) + 1) = false := by simp; omega
            have v5 : ¬ (3 : Int) < (n' : Int) := by omega
            have v6 : ((T4 : Int) != (T4 : Int)) = false := by simp
            have v7 : (0 : Int) ≤ (T4 : Int) := by omega
            have v8 : (T4 : Int) ≤ (i : Int) + 1 := by omega
            have v9 : (i : Int) + 1 ≤ (cap : Int) := by omega
            by_cases h0 : 0 < n'
            · have w1' : ¬ cap = T4 := by omega
              have w2' : (0 : Int) < (n' : Int) := by omega
              have cS := feedSame_true pu (some ⟨b, o + T4, none⟩) n' cu (cap - T4) (Rn.off f T4) w7 (by omega) hpu (fun _ => ⟨b, o + T4, rfl, (hbW7.off (by omega)).le (by omega)⟩)
              have hbt := hbW7 T4 (by omega)
              have cN := fun W (hb : Below w7.heap.size w7 W) => next_row (q := 0) (ho7.kept_below hb) (tabs_below hT7 hb (Nat.le_refl _)) (fun j => hf _) (Nat.zero_le _)
              have hbl7 : b < w7.heap.size := by have := hb7'.size; omega
              go_wp2_with fail
              refine cS.mono ?_
              rintro e w8 ⟨rfl, hb8⟩
              have hF8 := hF7.below hb8
              have cPl := feedPlace_abs hF8
              have hb8' := hb7'.trans (hb8.mono hb7'.size)
              have HB8 := hide' hb8'
              have HF8 := hide' hF8
              have hq8 := (World.cell?_of_block (a := ⟨b, o + T4, none⟩) (hb8.block b hbl7)).trans hbt
              have cN8 := fun W (hb : Below w8.heap.size w8 W) => cN W (hb8.trans (hb.mono hb8.size))
              clear cS hF8 hb8' cN hbt
              go_wp2_with fail
              refine cPl.mono ?_
              rintro e w9 ⟨rfl, hb9⟩
              have hq9 := (hb9.cell (p := ⟨b, o + T4, none⟩) (block_lt_of_cell hq8)).trans hq8
              have cN9 := cN8 w9 hb9
              have HJ := hide' (EagJ.mk (HF8.out.below hb9) HX.out (HB8.out.trans (hb9.mono HB8.out.size)))
              have HB9 := hide' (HB8.out.trans (hb9.mono HB8.out.size))
              clear cPl cN8 hq8 HF8 HB8 hb9
              by_cases h13 : f T4 = 13
              · rw [h13] at hq9
                clear cN9
                go_wp2_with fail
                go_roundw
                case rel => exact ⟨i + 1, T4, _, _, by go_num, rfl, by omega, HJ.out⟩
                case measure => simp [RowKit.intOf]; omega
              · have h13' : ((f T4 : Int) != 13) = true := by simp; omega
                rw [Fd.off_off, Nat.add_zero, Nat.sub_zero, (Rn.nx_waits (hsh4.2 (by omega) h13)).1] at cN9
                clear h13
                go_wp2_with fail
                refine cN9.mono ?_
                rintro e w10 ⟨rfl, hb10⟩
                have HJ2 := hide' (EagJ.mk (HJ.out.feed.below hb10) HX.out (HB9.out.trans (hb10.mono HB9.out.size)))
                clear cN9 hb10
                go_wp2_with fail
                go_roundw
                case rel => exact ⟨i + 1, T4, _, _, by go_num, rfl, by omega, HJ2.out⟩
                case measure => simp [RowKit.intOf]; omega
            · obtain rfl : n' = 0 := by omega
              have cS := fun (pb : Option Addr) (cb : Nat) => feedSame_true pu pb 0 cu cb (Rn.off f T4) w7 (by omega) (fun h => absurd h (by omega)) (fun h => absurd h (by omega))
              by_cases hcT : cap = T4
              · obtain rfl : T4 = i + 1 := by omega
                obtain rfl : n = i + 1 := by omega
                subst hcT
                clear v8 v9 v7 v3' hn' s1 s2 s3 s4
                go_wp2_with fail
                refine (cS _ _).mono ?_
                rintro e w8 ⟨rfl, hb8⟩
                have hF8 := hF7.below hb8
                have cPl := feedPlace_abs hF8
                have hb8' := hb7'.trans (hb8.mono hb7'.size)
                have HB8 := hide' hb8'
                have HF8 := hide' hF8
                clear cS hF8 hb8'
                go_wp2_with fail
                refine cPl.mono ?_
                rintro e w9 ⟨rfl, hb9⟩
                have HJ := hide' (EagJ.mk (HF8.out.below hb9) HX.out (HB8.out.trans (hb9.mono HB8.out.size)))
                clear cPl HF8 HB8 hb9
                go_wp2_with fail
                go_roundw
                case rel => exact ⟨i + 1, i + 1, _, _, by go_num, (by first | rfl | (simp; done) | (simp; omega)), by omega, HJ.out⟩
                case measure => first | (simp [RowKit.intOf]; done) | (simp [RowKit.intOf]; omega)
              · go_wp2_with fail
                refine (cS _ _).mono ?_
                rintro e w8 ⟨rfl, hb8⟩
                have hF8 := hF7.below hb8
                have cPl := feedPlace_abs hF8
                have hb8' := hb7'.trans (hb8.mono hb7'.size)
                have HB8 := hide' hb8'
                have HF8 := hide' hF8
                clear cS hF8 hb8'
                go_wp2_with fail
                refine cPl.mono ?_
                rintro e w9 ⟨rfl, hb9⟩
                have HJ := hide' (EagJ.mk (HF8.out.below hb9) HX.out (HB8.out.trans (hb9.mono HB8.out.size)))
                clear cPl HF8 HB8 hb9
                go_wp2_with fail
                go_roundw
                case rel => exact ⟨i + 1, T4, _, _, by go_num, (by first | rfl | (simp; done) | (simp; omega)), by omega, HJ.out⟩
                case measure => simp [RowKit.intOf]; omega
          · have cR := feedRest_bad HF5.out (.inl h2)
            have cPl := feedPlace_abs HF5.out
            rw [h2]
            have y1 : (T4 : Int) ≤ (i : Int) := by omega
            have y2 : ((T4 : Int) == (T4 : Int)) = true := by simp
            clear HN4 h2
            go_wp2_with fail
            refine cR.mono ?_
            rintro e w7 ⟨rfl, rfl⟩
            clear cR
            go_wp2_with fail
            refine cPl.mono ?_
            rintro e w8 ⟨rfl, hb8⟩
            have HB8 := hide' (HB5.out.trans (hb8.mono HB5.out.size))
            clear cPl hb8
            go_wp2_with fail
            go_ret
            exact ⟨rfl, HB8.out⟩
    · have g1 : ¬ (i : Int) < n := by omega
      have HB := hide' hJ.below
      clear hJ
      go_wp2
      go_ret
      exact ⟨rfl, HB.out⟩
end Go.Proofs.YtbfabpjhdhhpfaaDoor
