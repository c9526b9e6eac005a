/-
  THE WALK over gimletref10.word, where the word is a number (made by gen_rww.py)
-/
import Derived.Test.YtoccedbnnafjcaaDoorLxRwW
namespace Go.Proofs.YtoccedbnnafjcaaDoor
open Go.RowKit Go.Lib
namespace Lx
theorem chl_len (f : Nat → Nat) (n : Nat) (hf : ∀ j, f j < 256) : (Rn.chl f n).length ≤ n := by
  have h9 : ∀ (fuel q : Nat), (Rn.chlFrom f n fuel q).length ≤ n - q := by
    intro fuel
    induction fuel with
    | zero => intro q; simp [Rn.chlFrom]
    | succ m ih =>
      intro q
      unfold Rn.chlFrom
      split
      · next hq =>
        have := ih (q + (Rn.dec (Rn.off f q) (n - q)).2)
        have := dec_some (Rn.off f q) (n - q) (fun _ => hf _) (by omega)
        simp only [List.length_cons]
        omega
      · simp
  exact h9 n 0
/-- a character below 128 is its byte -/
theorem rune_low {f : Nat → Nat} {n p : Nat} (hf : ∀ j, f j < 256) (hp : p < n) (h : (Rn.dec (Rn.off f p) (n - p)).1 < 128) : f p < 128 ∧ (Rn.dec (Rn.off f p) (n - p)).1 = f p := by
  have hl : f p < 128 := by
    rcases Nat.lt_or_ge (f p) 128 with h1 | h1
    · exact h1
    · have := dec_high (f := Rn.off f p) (n := n - p) (fun _ => hf _) (by omega) (by simpa [Rn.off] using h1)
      omega
  refine ⟨hl, ?_⟩
  rw [dec_low (f := Rn.off f p) (by simpa [Rn.off] using hl)]
  simp [Rn.off]
theorem rd_num {f : Nat → Nat} {n p : Nat} (hf : ∀ j, f j < 256) (hp : p < n) (h2 : Ch.isT Ch.tab 2 (Rn.dec (Rn.off f p) (n - p)).1 = false) (h4 : Ch.isT Ch.tab 4 (Rn.dec (Rn.off f p) (n - p)).1 = true) {j : Nat} (hj : En f n 4 p = p + j) :
    rd (Rn.off f p) (n - p) = if 1000000 < min (vl (Rn.off f p) j 0 0) 1000001 then ⟨0, ⟨#[]⟩, 0, 0, false⟩ else if p + j < n ∧ Ch.isT Ch.tab 2 (Rn.dec (Rn.off f (p + j)) (n - (p + j))).1 = true then ⟨0, ⟨#[]⟩, 0, j, false⟩ else ⟨2, ⟨#[]⟩, min (vl (Rn.off f p) j 0 0) 1000001, j, true⟩ := by
  have n2 : ¬ 0 < lead (Rn.off f p) (n - p) 2 := fun h => by have := (lead_pos (f := Rn.off f p) (n := n - p) (fun _ => hf _) (by omega)).1 h; rw [h2] at this; cases this
  have n4 : 0 < lead (Rn.off f p) (n - p) 4 := (lead_pos (fun _ => hf _) (by omega)).2 h4
  have e := En.abs (f := f) (n := n) (p := p) (c := 4) (by omega)
  have ej : lead (Rn.off f p) (n - p) 4 = j := by omega
  obtain ⟨s1, s2⟩ := num_sat (Rn.off f p) j
  have hle := En.le (f := f) (n := n) (p := p) (c := 4) hf (by omega)
  unfold rd
  rw [if_neg n2, if_pos n4]
  unfold rdNum
  rw [ej, _root_.Go.Proofs.YtoccedbnnafjcaaDoor.Fd.off_off]
  by_cases c : 1000000 < vl (Rn.off f p) j 0 0
  · rw [if_pos (s1.2 c), if_pos (by omega)]
  · have e1 : ¬ 1000000 < min (vl (Rn.off f p) j 0 0) 1000001 := by omega
    rw [if_neg (fun h => c (s1.1 h)), if_neg e1, s2 (by omega), show min (vl (Rn.off f p) j 0 0) 1000001 = vl (Rn.off f p) j 0 0 by omega, show n - p - j = n - (p + j) by omega]
    by_cases hq : p + j < n
    · by_cases d : Ch.isT Ch.tab 2 (Rn.dec (Rn.off f (p + j)) (n - (p + j))).1 = true
      · rw [if_pos ((lead_pos (f := Rn.off f (p + j)) (n := n - (p + j)) (fun _ => hf _) (by omega)).2 d), if_pos ⟨hq, d⟩]
      · rw [if_neg (fun h => d ((lead_pos (f := Rn.off f (p + j)) (n := n - (p + j)) (fun _ => hf _) (by omega)).1 h)), if_neg (fun h => d h.2)]
    · rw [if_neg (by rw [show n - (p + j) = 0 by omega]; show ¬ 0 < 0; omega), if_neg (fun h => hq h.1)]
end Lx
set_option maxRecDepth 100000 in
set_option maxHeartbeats 4000000 in
theorem refWord_num (f : Nat → Nat) (n i p : Nat) (v : Value) (w : World) (hf : ∀ j, f j < 256) (hn : n ≤ 1099511627776) (hR : Lx.CRow w v f n) (hI : Lx.Ix f n i p) (hp : p < n) (h2 : Ch.isT Ch.tab 2 (Rn.dec (Rn.off f p) (n - p)).1 = false) (h4 : Ch.isT Ch.tab 4 (Rn.dec (Rn.off f p) (n - p)).1 = true) :
    Calls Tryd.prog 28 #[.string (Rn.arr f n), v, .int .i64 i] w fun e w' => Lx.WdE f n i p w e w' := by
  have hsz := Rn.arr_size f n
  obtain ⟨hi, hx⟩ := hI.at_ hp
  have hlen := Lx.chl_len f n hf
  have hR1 := hR.below ((Below.refl w.heap.size w).alloc (Nat.le_refl _) (.cells #[.int .i64 0, .string ⟨#[]⟩, .int .i64 0, .int .i64 0, .int .i64 0, .int .i64 0, .int .i64 0] 43)) (Nat.le_refl _)
  have HR := hide' hR1
  have HE : Hid (Lx.Emp w (w.alloc (.cells #[.int .i64 0, .string ⟨#[]⟩, .int .i64 0, .int .i64 0, .int .i64 0, .int .i64 0, .int .i64 0] 43))) := Lx.Emp.new w
  obtain ⟨pc, cap, rfl, c1, c2, c3⟩ := hR1
  clear hR
  obtain ⟨L, hL⟩ : ∃ L, L = (Rn.chl f n).length := ⟨_, rfl⟩
  rw [← hL] at c1 c3 hi hlen ⊢
  obtain ⟨g, rfl, c4⟩ := c3 (by omega)
  obtain ⟨r, hr⟩ : ∃ r, r = (Rn.dec (Rn.off f p) (n - p)).1 := ⟨_, rfl⟩
  have pp := c4 _ _ hx
  rw [← hr] at pp
  have p0 : (w.alloc (.cells #[.int .i64 0, .string ⟨#[]⟩, .int .i64 0, .int .i64 0, .int .i64 0, .int .i64 0, .int .i64 0] 43)).cell? ⟨g, i * 3, none⟩ = some (.int .i64 (p : Nat)) := pp.1
  have p1 : (w.alloc (.cells #[.int .i64 0, .string ⟨#[]⟩, .int .i64 0, .int .i64 0, .int .i64 0, .int .i64 0, .int .i64 0] 43)).cell? ⟨g, i * 3 + 1, none⟩ = some (.int .i64 (r : Nat)) := pp.2
  clear pp
  have cN := refNameS_any r (w.alloc (.cells #[.int .i64 0, .string ⟨#[]⟩, .int .i64 0, .int .i64 0, .int .i64 0, .int .i64 0, .int .i64 0] 43))
  have t0 : (i : Int) < (L : Int) := by omega
  have H4 := hide' c4
  have HL := hide' hL
  have h48 := (Lx.c4_is _).1 h4
  rw [← hr] at h48
  obtain ⟨hlow, hrune⟩ := Lx.rune_low hf hp (by rw [← hr]; omega)
  have hI1 := hI.one hf hp hlow
  have hE1 : Lx.En f n 4 (p + 1) = Lx.En f n 4 p := by
    have := Lx.En.go (c := 4) hf hp h4
    rw [Lx.dec_low (f := Rn.off f p) (by simpa [Rn.off] using hlow)] at this
    exact this.symm
  have hv1 : ((r - 48 : Nat) : Int) = (min (Lx.vl (Rn.off f p) 1 0 0) 1000001 : Nat) := by
    have e : Lx.vl (Rn.off f p) 1 0 0 = f p - 48 := by show 0 * 10 + (Rn.off f p 0 - 48) = _; simp [Rn.off]
    rw [e]
    omega
  have hrd := fun j hj => Lx.rd_num (j := j) hf hp h2 h4 hj
  rw [← hr] at h2
  rw [h2] at cN
  have HI := hide' (And.intro hI1 (And.intro hE1 (And.intro hrd hv1)))
  have HPI := hide' (And.intro hI hp)
  have g1 : (48 : Int) ≤ r := by omega
  have g2 : (r : Int) ≤ 57 := by omega
  have g3 : IntKind.i64.wrap ((r : Int) - 48) = ((r - 48 : Nat) : Int) := by rw [IntKind.wrap_i64]; omega
  clear c3 c4 hx hI hI1 hE1 hrd hr hL h2 h4 hp hv1 hrune hlow h48
  go_enter Tryd.func28, Tryd.ntmps28
  go_wp2_with fail
  refine cN.mono ?_
  rintro e w1 ⟨rfl, rfl⟩
  clear cN
  go_wp2_with fail
  generalize (w.alloc (.cells #[.int .i64 0, .string ⟨#[]⟩, .int .i64 0, .int .i64 0, .int .i64 0, .int .i64 0, .int .i64 0] 43)) = W1 at HR HE H4 p0 p1 ⊢
  go_loopw [11, 12] (fun v11 v12 wr => ∃ j : Nat, v11 = .int .i64 (i + j : Nat) ∧ v12 = .int .i64 (min (Lx.vl (Rn.off f p) j 0 0) 1000001 : Nat) ∧ 0 < j ∧ Lx.Ix f n (i + j) (p + j) ∧ Lx.En f n 4 (p + j) = Lx.En f n 4 p ∧ wr = W1) (fun v _ _ => L - (RowKit.intOf v).toNat)
  case atStart => exact ⟨1, rfl, by rw [HI.out.2.2.2], by omega, HI.out.1, HI.out.2.1, rfl⟩
  case round =>
    obtain ⟨j, rfl, rfl, hj, hk, hE, rfl⟩ := hrel
    obtain ⟨V, hV⟩ : ∃ V, V = min (Lx.vl (Rn.off f p) j 0 0) 1000001 := ⟨_, rfl⟩
    have hVle : V ≤ 1000001 := by omega
    obtain ⟨k, hkk⟩ : ∃ k, k = i + j := ⟨_, rfl⟩
    obtain ⟨q, hqq⟩ : ∃ q, q = p + j := ⟨_, rfl⟩
    rw [← hkk, ← hqq] at hk
    rw [← hqq] at hE
    rw [← hkk, ← hV]
    have gk : IntKind.i64.wrap ((k : Int) - (i : Int)) = ((k - i : Nat) : Int) := by rw [IntKind.wrap_i64]; have := hk.2.1; rw [← HL.out] at this; omega
    by_cases hq : q < n
    · obtain ⟨k1, k2⟩ := hk.at_ hq
      rw [← HL.out] at k1
      have t1 : (k : Int) < (L : Int) := by omega
      have pk := (H4.out _ _ k2).2
      obtain ⟨r2, hr2⟩ : ∃ r2, r2 = (Rn.dec (Rn.off f q) (n - q)).1 := ⟨_, rfl⟩
      rw [← hr2] at pk
      have hr2lt : r2 < 2097152 := by rw [hr2]; exact Lx.Ix.rune_lt hf hq
      have cM := refNameS_any r2 wr
      by_cases hc : 48 ≤ r2 ∧ r2 ≤ 57
      · obtain ⟨hlow, hrune⟩ := Lx.rune_low hf hq (by rw [← hr2]; omega)
        have hk2 := hk.one hf hq hlow
        have hE2 : Lx.En f n 4 (q + 1) = Lx.En f n 4 q := by
          have := Lx.En.go (c := 4) hf hq ((Lx.c4_is _).2 (by rw [← hr2]; omega))
          rw [Lx.dec_low (f := Rn.off f q) (by simpa [Rn.off] using hlow)] at this
          exact this.symm
        have hV2 : min (10 * V + (r2 - 48)) 1000001 = min (Lx.vl (Rn.off f p) (j + 1) 0 0) 1000001 := by
          have e : Rn.off f p (0 + j) = r2 := by rw [hr2, hrune, hqq]; simp [Rn.off]
          rw [Lx.vl_snoc, e, hV]
          exact Lx.sat_next _ _ (by omega)
        have u1 : (48 : Int) ≤ r2 := by omega
        have u2 : (r2 : Int) ≤ 57 := by omega
        have u3 : IntKind.i64.wrap (10 * (V : Int)) = 10 * V := by rw [IntKind.wrap_i64]; omega
        have u4 : IntKind.i64.wrap (10 * (V : Int) + r2) = 10 * V + r2 := by rw [IntKind.wrap_i64]; omega
        have u5 : IntKind.i64.wrap (10 * (V : Int) + r2 - 48) = ((10 * V + (r2 - 48) : Nat) : Int) := by rw [IntKind.wrap_i64]; omega
        have HK := hide' (And.intro hk2 (And.intro (hE2.trans hE) (And.intro hV2 (And.intro hkk hqq))))
        clear k2 hq hc hr2 hE2 hk2 hE hk hV hlow hrune hV2 hkk hqq cM
        go_wp2_with fail
        obtain ⟨a1, a2, a3, a4, a5⟩ := HK.out
        refine ⟨⟨j + 1, congrArg (Value.int .i64) (by omega), congrArg (Value.int .i64) (by rw [← a3]; omega), by omega, ?_, ?_, trivial⟩, by simp [RowKit.intOf]; omega⟩
        · rw [show i + (j + 1) = k + 1 by omega, show p + (j + 1) = q + 1 by omega]; exact a1
        · rw [show p + (j + 1) = q + 1 by omega]; exact a2
      · have hE2 : Lx.En f n 4 q = q := Lx.En.stop hq (Bool.eq_false_iff.2 (fun g => hc (by have := (Lx.c4_is _).1 g; rw [← hr2] at this; omega)))
        have hEp : Lx.En f n 4 p = p + j := by rw [← hqq, ← hE, hE2]
        have hrd := HI.out.2.2.1 j hEp
        rw [← hV] at hrd
        have HC := hide' (And.intro hk (And.intro hq (And.intro hkk hqq)))
        by_cases u0 : 48 ≤ r2
        · have u1 : (48 : Int) ≤ r2 := by omega
          have u2 : ¬ (r2 : Int) ≤ 57 := by omega
          have u3 : decide ((r2 : Int) ≤ 57) = false := decide_eq_false u2
          by_cases hb : 1000000 < V
          · rw [if_pos hb] at hrd
            have b1 : (1000000 : Int) < V := by omega
            have H9 := hide' hrd
            clear hrd hE2 hEp hE hk hV hq k2 hkk hqq HI H4 HL HR hb cM hc hr2 u0
            go_wp2_with (refine wpList_store_mid rfl 43 (.tmp 6) (.tmp 97) rfl w.heap.size 0 (Lx.wdC 0 ⟨#[]⟩ 0 (0, 0, 0, 0)) rfl rfl HE.out.there Lx.wdInfo (Lx.wdOne _ _ _ _) ?_)
            exact bodyPost_ret (v := .tuple #[.agg (Lx.wdC 0 ⟨#[]⟩ 0 (0, 0, 0, 0)), .int .i64 ((0 : Nat) : Int), .int .i64 (i : Nat)]) (Lx.results_word Tryd.results28 _ ⟨w.heap.size, 0, none⟩ rfl _ _ _ _ (HE.out.load _ _ _ _) rfl rfl) rfl (Lx.wde_bad (cnt := 0) H9.out (Nat.add_zero p) HPI.out.1 HPI.out.2 (HE.out.fin _))
          · rw [if_neg hb] at hrd
            have b1 : ¬ (1000000 : Int) < V := by omega
            cases hm : Ch.isT Ch.tab 2 r2
            · rw [hm] at cM
              rw [hr2] at hm
              rw [if_neg (fun h => by have h2 := h.2; rw [← hqq, hm] at h2; cases h2)] at hrd
              have H9 := hide' hrd
              clear hrd hE2 hEp hE hk hV hq k2 hkk hqq HI H4 HL HR hb hc hr2 u0 hm
              go_wp2_with fail
              refine cM.mono ?_
              rintro e w2 ⟨rfl, rfl⟩
              clear cM
              go_wp2_with (refine wpList_store_mid rfl 43 (.tmp 6) (.tmp 118) rfl w.heap.size 0 (Lx.wdC 2 ⟨#[]⟩ V (0, 0, 0, 0)) rfl rfl HE.out.there Lx.wdInfo (Lx.wdOne _ _ _ _) ?_)
              obtain ⟨a1, a2, a3, a4⟩ := HC.out
              have z1 : i < k := by omega
              have z2 : j = q - p := by omega
              have z3 : p ≤ q := by omega
              exact bodyPost_ret (v := .tuple #[.agg (Lx.wdC 2 ⟨#[]⟩ V (0, 0, 0, 0)), .int .i64 ((k - i : Nat) : Int), .int .i64 (-1)]) (Lx.results_word Tryd.results28 _ ⟨w.heap.size, 0, none⟩ rfl _ _ _ _ (HE.out.load _ _ _ _) rfl rfl) rfl (Lx.wde_ok (k := k) (q := q) H9.out z1 z2 z3 a1 (HE.out.fin _))
            · rw [hm] at cM
              rw [hr2] at hm
              rw [if_pos ⟨by rw [← hqq]; exact hq, by rw [← hqq]; exact hm⟩] at hrd
              have H9 := hide' hrd
              clear hrd hE2 hEp hE hk hV hq k2 hkk hqq HI H4 HL HR hb hc hr2 u0 hm
              go_wp2_with fail
              refine cM.mono ?_
              rintro e w2 ⟨rfl, rfl⟩
              clear cM
              go_wp2_with (refine wpList_store_mid rfl 43 (.tmp 6) (.tmp 112) rfl w.heap.size 0 (Lx.wdC 2 ⟨#[]⟩ V (0, 0, 0, 0)) rfl rfl HE.out.there Lx.wdInfo (Lx.wdOne _ _ _ _) ?_)
              obtain ⟨a1, a2, a3, a4⟩ := HC.out
              exact bodyPost_ret (v := .tuple #[.agg (Lx.wdC 2 ⟨#[]⟩ V (0, 0, 0, 0)), .int .i64 ((k - i : Nat) : Int), .int .i64 (k : Nat)]) (Lx.results_word Tryd.results28 _ ⟨w.heap.size, 0, none⟩ rfl _ _ _ _ (HE.out.load _ _ _ _) rfl rfl) rfl (Lx.wde_bad (cnt := k - i) H9.out a4.symm a1 a2 (HE.out.fin _))
        · have u1 : ¬ (48 : Int) ≤ r2 := by omega
          have u3 : decide ((48 : Int) ≤ r2) = false := decide_eq_false u1
          by_cases hb : 1000000 < V
          · rw [if_pos hb] at hrd
            have b1 : (1000000 : Int) < V := by omega
            have H9 := hide' hrd
            clear hrd hE2 hEp hE hk hV hq k2 hkk hqq HI H4 HL HR hb cM hc hr2 u0
            go_wp2_with (refine wpList_store_mid rfl 43 (.tmp 6) (.tmp 97) rfl w.heap.size 0 (Lx.wdC 0 ⟨#[]⟩ 0 (0, 0, 0, 0)) rfl rfl HE.out.there Lx.wdInfo (Lx.wdOne _ _ _ _) ?_)
            exact bodyPost_ret (v := .tuple #[.agg (Lx.wdC 0 ⟨#[]⟩ 0 (0, 0, 0, 0)), .int .i64 ((0 : Nat) : Int), .int .i64 (i : Nat)]) (Lx.results_word Tryd.results28 _ ⟨w.heap.size, 0, none⟩ rfl _ _ _ _ (HE.out.load _ _ _ _) rfl rfl) rfl (Lx.wde_bad (cnt := 0) H9.out (Nat.add_zero p) HPI.out.1 HPI.out.2 (HE.out.fin _))
          · rw [if_neg hb] at hrd
            have b1 : ¬ (1000000 : Int) < V := by omega
            cases hm : Ch.isT Ch.tab 2 r2
            · rw [hm] at cM
              rw [hr2] at hm
              rw [if_neg (fun h => by have h2 := h.2; rw [← hqq, hm] at h2; cases h2)] at hrd
              have H9 := hide' hrd
              clear hrd hE2 hEp hE hk hV hq k2 hkk hqq HI H4 HL HR hb hc hr2 u0 hm
              go_wp2_with fail
              refine cM.mono ?_
              rintro e w2 ⟨rfl, rfl⟩
              clear cM
              go_wp2_with (refine wpList_store_mid rfl 43 (.tmp 6) (.tmp 118) rfl w.heap.size 0 (Lx.wdC 2 ⟨#[]⟩ V (0, 0, 0, 0)) rfl rfl HE.out.there Lx.wdInfo (Lx.wdOne _ _ _ _) ?_)
              obtain ⟨a1, a2, a3, a4⟩ := HC.out
              have z1 : i < k := by omega
              have z2 : j = q - p := by omega
              have z3 : p ≤ q := by omega
              exact bodyPost_ret (v := .tuple #[.agg (Lx.wdC 2 ⟨#[]⟩ V (0, 0, 0, 0)), .int .i64 ((k - i : Nat) : Int), .int .i64 (-1)]) (Lx.results_word Tryd.results28 _ ⟨w.heap.size, 0, none⟩ rfl _ _ _ _ (HE.out.load _ _ _ _) rfl rfl) rfl (Lx.wde_ok (k := k) (q := q) H9.out z1 z2 z3 a1 (HE.out.fin _))
            · rw [hm] at cM
              rw [hr2] at hm
              rw [if_pos ⟨by rw [← hqq]; exact hq, by rw [← hqq]; exact hm⟩] at hrd
              have H9 := hide' hrd
              clear hrd hE2 hEp hE hk hV hq k2 hkk hqq HI H4 HL HR hb hc hr2 u0 hm
              go_wp2_with fail
              refine cM.mono ?_
              rintro e w2 ⟨rfl, rfl⟩
              clear cM
              go_wp2_with (refine wpList_store_mid rfl 43 (.tmp 6) (.tmp 112) rfl w.heap.size 0 (Lx.wdC 2 ⟨#[]⟩ V (0, 0, 0, 0)) rfl rfl HE.out.there Lx.wdInfo (Lx.wdOne _ _ _ _) ?_)
              obtain ⟨a1, a2, a3, a4⟩ := HC.out
              exact bodyPost_ret (v := .tuple #[.agg (Lx.wdC 2 ⟨#[]⟩ V (0, 0, 0, 0)), .int .i64 ((k - i : Nat) : Int), .int .i64 (k : Nat)]) (Lx.results_word Tryd.results28 _ ⟨w.heap.size, 0, none⟩ rfl _ _ _ _ (HE.out.load _ _ _ _) rfl rfl) rfl (Lx.wde_bad (cnt := k - i) H9.out a4.symm a1 a2 (HE.out.fin _))
    · have k1 := hk.end_ hq
      rw [← HL.out] at k1
      have t1 : ¬ (k : Int) < (L : Int) := by omega
      have t2 : decide ((k : Int) < (L : Int)) = false := decide_eq_false t1
      have hE2 : Lx.En f n 4 q = q := by rw [Lx.En.end_ hq]; have := hk.1; omega
      have hEp : Lx.En f n 4 p = p + j := by rw [← hqq, ← hE, hE2]
      have hrd := HI.out.2.2.1 j hEp
      rw [← hV, if_neg (c := p + j < n ∧ _) (fun h => hq (by rw [hqq]; exact h.1))] at hrd
      have HC := hide' (And.intro hk (And.intro hkk hqq))
      by_cases hb : 1000000 < V
      · rw [if_pos hb] at hrd
        have b1 : (1000000 : Int) < V := by omega
        have H9 := hide' hrd
        clear hrd hE2 hEp hE hk hV hq k1 hkk hqq HI H4 HL HR hb
        go_wp2_with (refine wpList_store_mid rfl 43 (.tmp 6) (.tmp 97) rfl w.heap.size 0 (Lx.wdC 0 ⟨#[]⟩ 0 (0, 0, 0, 0)) rfl rfl HE.out.there Lx.wdInfo (Lx.wdOne _ _ _ _) ?_)
        exact bodyPost_ret (v := .tuple #[.agg (Lx.wdC 0 ⟨#[]⟩ 0 (0, 0, 0, 0)), .int .i64 ((0 : Nat) : Int), .int .i64 (i : Nat)]) (Lx.results_word Tryd.results28 _ ⟨w.heap.size, 0, none⟩ rfl _ _ _ _ (HE.out.load _ _ _ _) rfl rfl) rfl (Lx.wde_bad (cnt := 0) H9.out (Nat.add_zero p) HPI.out.1 HPI.out.2 (HE.out.fin _))
      · rw [if_neg hb] at hrd
        have b1 : ¬ (1000000 : Int) < V := by omega
        have H9 := hide' hrd
        clear hrd hE2 hEp hE hk hV hq k1 hkk hqq HI H4 HL HR hb
        go_wp2_with (refine wpList_store_mid rfl 43 (.tmp 6) (.tmp 118) rfl w.heap.size 0 (Lx.wdC 2 ⟨#[]⟩ V (0, 0, 0, 0)) rfl rfl HE.out.there Lx.wdInfo (Lx.wdOne _ _ _ _) ?_)
        obtain ⟨a1, a3, a4⟩ := HC.out
        have z1 : i < k := by omega
        have z2 : j = q - p := by omega
        have z3 : p ≤ q := by omega
        exact bodyPost_ret (v := .tuple #[.agg (Lx.wdC 2 ⟨#[]⟩ V (0, 0, 0, 0)), .int .i64 ((k - i : Nat) : Int), .int .i64 (-1)]) (Lx.results_word Tryd.results28 _ ⟨w.heap.size, 0, none⟩ rfl _ _ _ _ (HE.out.load _ _ _ _) rfl rfl) rfl (Lx.wde_ok (k := k) (q := q) H9.out z1 z2 z3 a1 (HE.out.fin _))
end Go.Proofs.YtoccedbnnafjcaaDoor
