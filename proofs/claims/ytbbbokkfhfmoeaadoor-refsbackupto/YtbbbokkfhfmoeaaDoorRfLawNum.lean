/-
  THE WALK over gimletlaw05.RefsNumbers.
-/
import Derived.Test.YtbbbokkfhfmoeaaDoorRfDigits
namespace Go.Proofs.YtbbbokkfhfmoeaaDoor
open Go.RowKit Go.Lib

theorem arr_lfn (l : List UInt8) : Rn.arr (Rf.lfn l) l.length = ⟨l.toArray⟩ := by
  have e : (Rn.arr (Rf.lfn l) l.length).data = l.toArray := by
    apply Array.ext
    · simp [Rn.arr]
    · intro i h1 h2
      simp [Rn.arr, Rf.lfn]
  exact congrArg ByteArray.mk e
theorem rfConv (l : List UInt8) (w : World) (hbig : l.length ≤ 9223372036854775807) :
    ∃ cap W, (convert 9 22 (.string ⟨l.toArray⟩)).run Tryd.prog w = .ok (.slice (some ⟨w.heap.size, 0, none⟩) l.length cap) W ∧ l.length ≤ cap ∧ cap ≤ maxLen ∧ Bytes W w.heap.size 0 l.length (Rf.lfn l) ∧ Below w.heap.size w W ∧ W.heap.size = w.heap.size + 1 := by
  have h := Lib.run_convert_string_bytes (P := Tryd.prog) w 9 22 5 (Rn.arr (Rf.lfn l) l.length) Tryd.underlying9 Tryd.underlying22 Tryd.underlying5
  rw [Rn.arr_size, arr_lfn] at h
  have hb := bytes_bytesWorld w 5 (Rf.lfn l) l.length (Rf.lfn_lt l)
  rw [arr_lfn] at hb
  exact ⟨_, _, h, grownCap_ge _ _ _ _, grownCap_le_maxLen _ _ _ _ (by unfold maxLen; omega), hb, below_bytesWorld w 5 _, Lib.bytesWorld_size _ _ _⟩

namespace Rf
theorem isT_le {c : Int} {n : Nat} (h : Ch.isT Ch.tab c (n : Int) = true) : n ≤ 1114111 := by
  have hall : ∀ s ∈ Ch.tab, s.2.2 ≤ 1114111 := by decide +kernel
  revert h hall
  generalize Ch.tab = t
  induction t with
  | nil => intro h; cases h
  | cons s t ih =>
    intro h hall
    rw [Ch.isT_cons] at h
    split at h
    · next q =>
      have := hall s (List.mem_cons_self ..)
      omega
    · exact ih h (fun x hx => hall x (List.mem_cons_of_mem _ hx))
/-- what Read answers of such a number -/
def ans (base k n a : Nat) : Nat × Nat × Nat := if n ≤ 1114111 then (if Ch.isT Ch.tab 0 (n : Int) = true then (n, a + (nums base k n).length + 1, 0) else (0, a + (nums base k n).length, 2)) else (0, a + (nums base k n).length - cnt base n, 2)
theorem nums_len (base k n : Nat) (hb : 2 ≤ base) : (nums base k n).length ≤ k + n + 1 ∧ 0 < (nums base k n).length ∧ cnt base n ≤ (nums base k n).length := by
  have h1 := dd_length hb n
  have h2 := cnt_len hb n
  unfold nums dg
  rw [List.length_append, List.length_replicate]
  by_cases h : n = 0
  · subst h
    rw [if_pos rfl, cnt_le (by omega)]
    simp
  · have h3 : 0 < (dd base n).length := by rw [dd_pos hb (by omega)]; simp
    rw [if_neg h]
    omega
theorem nums_head0 : ∀ k : Fin 10, (ch k.val).toNat ≠ 120 := by decide +kernel
theorem dd_head (n : Nat) (hn : 0 < n) : ∃ x r, dd 10 n = x :: r ∧ x.toNat ≠ 120 := by
  induction n using Nat.strongRecOn with
  | ind n ih =>
    rw [dd_pos (by omega) hn]
    by_cases h : n / 10 = 0
    · rw [h, dd_zero]
      exact ⟨_, _, rfl, nums_head0 ⟨n % 10, Nat.mod_lt _ (by omega)⟩⟩
    · obtain ⟨x, r, e, hx⟩ := ih (n / 10) (Nat.div_lt_self hn (by omega)) (by omega)
      rw [e]
      exact ⟨x, _, rfl, hx⟩
theorem nums_head (k n : Nat) : ∃ x r, nums 10 k n = x :: r ∧ x.toNat ≠ 120 := by
  unfold nums
  cases k with
  | succ k => exact ⟨48, _, rfl, by decide⟩
  | zero =>
    unfold dg
    by_cases h : n = 0
    · rw [if_pos h]; exact ⟨48, [], rfl, by decide⟩
    · rw [if_neg h]; exact dd_head n (by omega)
theorem rd_dec (k n : Nat) (l : List UInt8) (hl : l = [38, 35] ++ (nums 10 k n ++ [59, 120])) : rdN (lfn l) l.length = ans 10 k n 2 := by
  obtain ⟨x, r, e, hx⟩ := nums_head k n
  have h2 : lfn l 2 ≠ 120 := by subst hl; rw [e]; exact hx
  unfold rdN
  rw [if_neg (fun h => h2 h.2), rn_list l 10 4 _ 2 0 rfl (by subst hl; simp), show l.drop 2 = nums 10 k n ++ [59, 120] by subst hl; rfl, rnL_nums (.inl ⟨rfl, rfl⟩)]
  rfl
theorem rd_hex (k n : Nat) (l : List UInt8) (hl : l = [38, 35, 120] ++ (nums 16 k n ++ [59, 120])) : rdN (lfn l) l.length = ans 16 k n 3 := by
  unfold rdN
  rw [if_pos ⟨by subst hl; simp, by subst hl; rfl⟩, rn_list l 16 5 _ 3 0 rfl (by subst hl; simp), show l.drop 3 = nums 16 k n ++ [59, 120] by subst hl; rfl, rnL_nums (.inr ⟨rfl, rfl⟩)]
  rfl
end Rf


set_option maxRecDepth 100000 in
set_option maxHeartbeats 1000000 in
theorem lawNumbers_dec (V z : Nat) (w : World) (hS : Spans w) (hz : z < 256) :
    Calls Tryd.prog 7 #[.int .u32 V, .bool false, .int .u8 z] w fun e w' => e = .returned (.bool true) ∧ Below w.heap.size w w' := by
  have cF := rfFixed_any w hS
  obtain ⟨N, hN⟩ : ∃ N, V % 4194304 = N := ⟨_, rfl⟩
  have hN2 : N < 4194304 := by omega
  have hr : Int.tmod (V : Int) 4194304 = (N : Int) := by rw [← hN]; rfl
  obtain ⟨k, hk⟩ : ∃ k, z % 32 = k := ⟨_, rfl⟩
  have hzk : (z : Int) % 32 = (k : Int) := by omega
  have hk2 : k ≤ 31 := by omega
  have cD := fun W => digits_any N 10 k W hN2 (.inl rfl) hk2
  have hl10 := Rf.nums_len 10 k N (by omega)
  have hl := hl10
  obtain ⟨Z, hZ⟩ : ∃ Z, Rf.nums 10 k N = Z := ⟨_, rfl⟩
  rw [hZ] at hl
  simp only [hZ] at cD
  obtain ⟨S1, hS1⟩ : ∃ S1 : List UInt8, S1 = [38, 35] ++ Z := ⟨_, rfl⟩
  have hap1 : (ByteArray.mk #[38, 35]) ++ ⟨Z.toArray⟩ = ⟨S1.toArray⟩ := by rw [hS1]; exact strAppend [38, 35] Z
  obtain ⟨L, hL⟩ : ∃ L : List UInt8, L = S1 ++ [59, 120] := ⟨_, rfl⟩
  have hap2 : (ByteArray.mk S1.toArray) ++ ⟨#[59, 120]⟩ = ⟨L.toArray⟩ := by rw [hL]; exact strAppend S1 [59, 120]
  have hle1 : S1.length = 2 + Z.length := by rw [hS1, List.length_append]; rfl
  have hle2 : L.length = S1.length + 2 := by rw [hL, List.length_append]; rfl
  have g1 : 2 + Z.length ≤ 9223372036854775807 := by omega
  have hLL : L = [38, 35] ++ (Rf.nums 10 k N ++ [59, 120]) := by rw [hL, hS1, hZ, List.append_assoc]
  have hrd := Rf.rd_dec k N L hLL
  have h0 : Rf.lfn L 0 = 38 := by rw [hLL]; rfl
  have h1 : Rf.lfn L 1 = 35 := by rw [hLL]; rfl
  obtain ⟨M, hM⟩ : ∃ M, S1.length = M := ⟨_, rfl⟩
  have hans : Rf.ans 10 k N 2 = if Ch.isT Ch.tab 0 (N : Int) = true then (N, M + 1, 0) else (0, M - Rf.cnt 10 N, 2) := by
    unfold Rf.ans
    rw [hZ, ← hle1, hM]
    by_cases h : Ch.isT Ch.tab 0 (N : Int) = true
    · rw [if_pos (Rf.isT_le h), if_pos h, if_pos h]
    · rw [if_neg h, if_neg h]
      by_cases h2 : N ≤ 1114111
      · rw [if_pos h2, Rf.cnt_le h2]; rfl
      · rw [if_neg h2]
  rw [hans] at hrd
  have hcm : Rf.cnt 10 N ≤ M := by omega
  have HS := hide' hS
  have HX := hide' (And.intro hrd (And.intro h0 h1))
  have HM := hide' hle2
  rw [hM] at hle1 hle2
  have g2 : M + 2 ≤ 9223372036854775807 := by omega
  have hMb : M ≤ 5000000 := by omega
  clear hS hrd hans hLL hL hS1 hZ hl hl10 h0 h1 hN hk hle1 
  go_enter Tryd.func7, Tryd.ntmps7
  go_wp2_with fail
  refine cF.mono ?_
  rintro e w1 ⟨rfl, hb1⟩
  have cD1 := cD w1
  clear cF cD
  go_wp2_with fail
  refine cD1.mono ?_
  rintro e w2 ⟨rfl, hb2⟩
  have hB2 := hb1.trans (hb2.mono hb1.size)
  clear cD1 hb1 hb2
  obtain ⟨w3, hw3⟩ : ∃ w3, w2 = w3 := ⟨_, rfl⟩
  subst hw3
  have hB3 := hB2
  clear hB2
  obtain ⟨cap, W, hrun, hc1, hc2, hby, hbw, hsw⟩ := rfConv L w2 (by omega)
  have hB4 := hB3.trans (hbw.mono hB3.size)
  have cR := rfRead_num (Rf.lfn L) (some ⟨w2.heap.size, 0, none⟩) L.length cap W (HS.out.below hB4 (Nat.le_refl _)) (Rf.lfn_lt L) (by omega) (by omega) HX.out.2.1 HX.out.2.2 (fun _ => ⟨w2.heap.size, 0, rfl, hby, by omega⟩)
  rw [HX.out.1] at cR
  rw [hle2] at hrun cR
  cases hT : Ch.isT Ch.tab 0 (N : Int)
  · rw [hT, if_neg (by decide)] at cR
    unfold Rf.rdV at cR
    obtain ⟨Q, hQ⟩ : ∃ Q, M - Rf.cnt 10 N = Q := ⟨_, rfl⟩
    rw [hQ] at cR
    have HB4 := hide' hB4
    have HHN := hide' hN2
    clear hby hbw hB3 hB4 hc1 hc2
    go_wp2_with fail
    refine cR.mono ?_
    rintro e w5 ⟨rfl, hb5⟩
    have hB5 := HB4.out.trans (hb5.mono HB4.out.size)
    have cI := is_any 0 (N : Int) w5 (HS.out.below hB5 (Nat.le_refl _))
    rw [hT] at cI
    have hB5' := hide' hB5
    clear cR hb5 hB5
    go_wp2_with fail
    refine cI.mono ?_
    rintro e w6 ⟨rfl, hb6⟩
    have hB6 := hB5'.out.trans (hb6.mono hB5'.out.size)
    clear cI hb6 hT hrun hB5'
    go_wp2
    go_loopw [12, 13] (fun wa m wr => ∃ j m' : Nat, m = .int .i64 m' ∧ wa = .int .i64 (M - j : Nat) ∧ j ≤ M ∧ Rf.cnt 10 N = j + Rf.cnt 10 m' ∧ m' ≤ N ∧ wr = w6) (fun _ m _ => (RowKit.intOf m).toNat)
    case atStart => exact ⟨0, N, rfl, rfl, Nat.zero_le _, by omega, Nat.le_refl _, rfl⟩
    case round =>
      obtain ⟨j, m, rfl, rfl, hj, hcn, hmN, rfl⟩ := hrel
      by_cases hg : 1114111 < m
      · have u1 : (1114111 : Int) < (m : Int) := by omega
        have hcg := Rf.cnt_gt (base := 10) (n := m) (by omega) hg
        obtain ⟨q, hq⟩ : ∃ q, m / 10 = q := ⟨_, rfl⟩
        rw [hq] at hcg
        have hqd : Int.tdiv (m : Int) 10 = (q : Int) := by rw [← hq]; rfl
        have hql : q < m := by rw [← hq]; omega
        obtain ⟨j', hj'⟩ : ∃ j', M - j = j' + 1 := ⟨M - j - 1, by omega⟩
        rw [hj']
        have e1 : ((j' + 1 : Nat) : Int) - 1 = (j' : Int) := by omega
        clear hq
        go_wp2
        go_roundw
        case rel => exact ⟨j + 1, q, by go_num, by rw [show M - (j + 1) = j' by omega], by omega, by omega, by omega, trivial⟩
        case measure => simp [RowKit.intOf]; omega
      · have u1 : ¬ (1114111 : Int) < (m : Int) := by omega
        have hc0 := Rf.cnt_le (base := 10) (n := m) (by omega)
        have hjq : M - j = Q := by omega
        rw [hjq]
        clear hjq
        go_wp2
        go_ret
        exact ⟨rfl, hB6⟩
  · rw [hT, if_pos rfl] at cR
    unfold Rf.rdV at cR
    have HB4 := hide' hB4
    clear hby hbw hB3 hB4 hc1 hc2
    go_wp2_with fail
    refine cR.mono ?_
    rintro e w5 ⟨rfl, hb5⟩
    have hB5 := HB4.out.trans (hb5.mono HB4.out.size)
    have cI := is_any 0 (N : Int) w5 (HS.out.below hB5 (Nat.le_refl _))
    rw [hT] at cI
    have hB5' := hide' hB5
    clear cR hb5 hB5
    go_wp2_with fail
    refine cI.mono ?_
    rintro e w6 ⟨rfl, hb6⟩
    have hB6 := hB5'.out.trans (hb6.mono hB5'.out.size)
    clear cI hb6 hT hrun hB5'
    go_wp2
    go_ret
    exact ⟨rfl, hB6⟩

set_option maxRecDepth 100000 in
set_option maxHeartbeats 1000000 in
theorem lawNumbers_hex (V z : Nat) (w : World) (hS : Spans w) (hz : z < 256) :
    Calls Tryd.prog 7 #[.int .u32 V, .bool true, .int .u8 z] w fun e w' => e = .returned (.bool true) ∧ Below w.heap.size w w' := by
  have cF := rfFixed_any w hS
  obtain ⟨N, hN⟩ : ∃ N, V % 4194304 = N := ⟨_, rfl⟩
  have hN2 : N < 4194304 := by omega
  have hr : Int.tmod (V : Int) 4194304 = (N : Int) := by rw [← hN]; rfl
  obtain ⟨k, hk⟩ : ∃ k, z % 32 = k := ⟨_, rfl⟩
  have hzk : (z : Int) % 32 = (k : Int) := by omega
  have hk2 : k ≤ 31 := by omega
  have cD := fun W => digits_any N 10 k W hN2 (.inl rfl) hk2
  have hl10 := Rf.nums_len 10 k N (by omega)
  have cH := fun W => digits_any N 16 k W hN2 (.inr rfl) hk2
  have hl := Rf.nums_len 16 k N (by omega)
  obtain ⟨Y, hY⟩ : ∃ Y, Rf.nums 10 k N = Y := ⟨_, rfl⟩
  rw [hY] at hl10
  obtain ⟨S0, hS0⟩ : ∃ S0 : List UInt8, S0 = [38, 35] ++ Y := ⟨_, rfl⟩
  have hap0 : (ByteArray.mk #[38, 35]) ++ ⟨Y.toArray⟩ = ⟨S0.toArray⟩ := by rw [hS0]; exact strAppend [38, 35] Y
  have g0 : 2 + Y.length ≤ 9223372036854775807 := by omega
  simp only [hY] at cD
  obtain ⟨Z, hZ⟩ : ∃ Z, Rf.nums 16 k N = Z := ⟨_, rfl⟩
  rw [hZ] at hl
  simp only [hZ] at cH
  obtain ⟨S1, hS1⟩ : ∃ S1 : List UInt8, S1 = [38, 35, 120] ++ Z := ⟨_, rfl⟩
  have hap1 : (ByteArray.mk #[38, 35, 120]) ++ ⟨Z.toArray⟩ = ⟨S1.toArray⟩ := by rw [hS1]; exact strAppend [38, 35, 120] Z
  obtain ⟨L, hL⟩ : ∃ L : List UInt8, L = S1 ++ [59, 120] := ⟨_, rfl⟩
  have hap2 : (ByteArray.mk S1.toArray) ++ ⟨#[59, 120]⟩ = ⟨L.toArray⟩ := by rw [hL]; exact strAppend S1 [59, 120]
  have hle1 : S1.length = 3 + Z.length := by rw [hS1, List.length_append]; rfl
  have hle2 : L.length = S1.length + 2 := by rw [hL, List.length_append]; rfl
  have g1 : 3 + Z.length ≤ 9223372036854775807 := by omega
  have hLL : L = [38, 35, 120] ++ (Rf.nums 16 k N ++ [59, 120]) := by rw [hL, hS1, hZ, List.append_assoc]
  have hrd := Rf.rd_hex k N L hLL
  have h0 : Rf.lfn L 0 = 38 := by rw [hLL]; rfl
  have h1 : Rf.lfn L 1 = 35 := by rw [hLL]; rfl
  obtain ⟨M, hM⟩ : ∃ M, S1.length = M := ⟨_, rfl⟩
  have hans : Rf.ans 16 k N 3 = if Ch.isT Ch.tab 0 (N : Int) = true then (N, M + 1, 0) else (0, M - Rf.cnt 16 N, 2) := by
    unfold Rf.ans
    rw [hZ, ← hle1, hM]
    by_cases h : Ch.isT Ch.tab 0 (N : Int) = true
    · rw [if_pos (Rf.isT_le h), if_pos h, if_pos h]
    · rw [if_neg h, if_neg h]
      by_cases h2 : N ≤ 1114111
      · rw [if_pos h2, Rf.cnt_le h2]; rfl
      · rw [if_neg h2]
  rw [hans] at hrd
  have hcm : Rf.cnt 16 N ≤ M := by omega
  have HS := hide' hS
  have HX := hide' (And.intro hrd (And.intro h0 h1))
  have HM := hide' hle2
  rw [hM] at hle1 hle2
  have g2 : M + 2 ≤ 9223372036854775807 := by omega
  have hMb : M ≤ 5000000 := by omega
  clear hS hrd hans hLL hL hS1 hZ hl hl10 h0 h1 hN hk hle1 hY hS0
  go_enter Tryd.func7, Tryd.ntmps7
  go_wp2_with fail
  refine cF.mono ?_
  rintro e w1 ⟨rfl, hb1⟩
  have cD1 := cD w1
  clear cF cD
  go_wp2_with fail
  refine cD1.mono ?_
  rintro e w2 ⟨rfl, hb2⟩
  have hB2 := hb1.trans (hb2.mono hb1.size)
  clear cD1 hb1 hb2
  have cH1 := cH w2
  clear cH
  go_wp2_with fail
  refine cH1.mono ?_
  rintro e w3 ⟨rfl, hb3⟩
  have hB3 := hB2.trans (hb3.mono hB2.size)
  clear cH1 hb3 hB2
  obtain ⟨cap, W, hrun, hc1, hc2, hby, hbw, hsw⟩ := rfConv L w3 (by omega)
  have hB4 := hB3.trans (hbw.mono hB3.size)
  have cR := rfRead_num (Rf.lfn L) (some ⟨w3.heap.size, 0, none⟩) L.length cap W (HS.out.below hB4 (Nat.le_refl _)) (Rf.lfn_lt L) (by omega) (by omega) HX.out.2.1 HX.out.2.2 (fun _ => ⟨w3.heap.size, 0, rfl, hby, by omega⟩)
  rw [HX.out.1] at cR
  rw [hle2] at hrun cR
  cases hT : Ch.isT Ch.tab 0 (N : Int)
  · rw [hT, if_neg (by decide)] at cR
    unfold Rf.rdV at cR
    obtain ⟨Q, hQ⟩ : ∃ Q, M - Rf.cnt 16 N = Q := ⟨_, rfl⟩
    rw [hQ] at cR
    have HB4 := hide' hB4
    have HHN := hide' hN2
    clear hby hbw hB3 hB4 hc1 hc2
    go_wp2_with fail
    refine cR.mono ?_
    rintro e w5 ⟨rfl, hb5⟩
    have hB5 := HB4.out.trans (hb5.mono HB4.out.size)
    have cI := is_any 0 (N : Int) w5 (HS.out.below hB5 (Nat.le_refl _))
    rw [hT] at cI
    have hB5' := hide' hB5
    clear cR hb5 hB5
    go_wp2_with fail
    refine cI.mono ?_
    rintro e w6 ⟨rfl, hb6⟩
    have hB6 := hB5'.out.trans (hb6.mono hB5'.out.size)
    clear cI hb6 hT hrun hB5'
    go_wp2
    go_loopw [12, 13] (fun wa m wr => ∃ j m' : Nat, m = .int .i64 m' ∧ wa = .int .i64 (M - j : Nat) ∧ j ≤ M ∧ Rf.cnt 16 N = j + Rf.cnt 16 m' ∧ m' ≤ N ∧ wr = w6) (fun _ m _ => (RowKit.intOf m).toNat)
    case atStart => exact ⟨0, N, rfl, rfl, Nat.zero_le _, by omega, Nat.le_refl _, rfl⟩
    case round =>
      obtain ⟨j, m, rfl, rfl, hj, hcn, hmN, rfl⟩ := hrel
      by_cases hg : 1114111 < m
      · have u1 : (1114111 : Int) < (m : Int) := by omega
        have hcg := Rf.cnt_gt (base := 16) (n := m) (by omega) hg
        obtain ⟨q, hq⟩ : ∃ q, m / 16 = q := ⟨_, rfl⟩
        rw [hq] at hcg
        have hqd : Int.tdiv (m : Int) 16 = (q : Int) := by rw [← hq]; rfl
        have hql : q < m := by rw [← hq]; omega
        obtain ⟨j', hj'⟩ : ∃ j', M - j = j' + 1 := ⟨M - j - 1, by omega⟩
        rw [hj']
        have e1 : ((j' + 1 : Nat) : Int) - 1 = (j' : Int) := by omega
        clear hq
        go_wp2
        go_roundw
        case rel => exact ⟨j + 1, q, by go_num, by rw [show M - (j + 1) = j' by omega], by omega, by omega, by omega, trivial⟩
        case measure => simp [RowKit.intOf]; omega
      · have u1 : ¬ (1114111 : Int) < (m : Int) := by omega
        have hc0 := Rf.cnt_le (base := 16) (n := m) (by omega)
        have hjq : M - j = Q := by omega
        rw [hjq]
        clear hjq
        go_wp2
        go_ret
        exact ⟨rfl, hB6⟩
  · rw [hT, if_pos rfl] at cR
    unfold Rf.rdV at cR
    have HB4 := hide' hB4
    clear hby hbw hB3 hB4 hc1 hc2
    go_wp2_with fail
    refine cR.mono ?_
    rintro e w5 ⟨rfl, hb5⟩
    have hB5 := HB4.out.trans (hb5.mono HB4.out.size)
    have cI := is_any 0 (N : Int) w5 (HS.out.below hB5 (Nat.le_refl _))
    rw [hT] at cI
    have hB5' := hide' hB5
    clear cR hb5 hB5
    go_wp2_with fail
    refine cI.mono ?_
    rintro e w6 ⟨rfl, hb6⟩
    have hB6 := hB5'.out.trans (hb6.mono hB5'.out.size)
    clear cI hb6 hT hrun hB5'
    go_wp2
    go_ret
    exact ⟨rfl, hB6⟩
end Go.Proofs.YtbbbokkfhfmoeaaDoor
