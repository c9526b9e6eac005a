/-
  THE WALKS over gimletref10.word, where the word is a text or a sign (made by gen_rww.py)
-/
import Derived.Test.YtoccedbnnafjcaaDoorLxRwX
namespace Go.Proofs.YtoccedbnnafjcaaDoor
open Go.RowKit Go.Lib
namespace Lx
open _root_.Go.Proofs.YtoccedbnnafjcaaDoor.Fd
theorem rd_else {f : Nat → Nat} {n p : Nat} (hf : ∀ j, f j < 256) (hp : p < n) (h2 : Ch.isT Ch.tab 2 (Rn.dec (Rn.off f p) (n - p)).1 = false) (h4 : Ch.isT Ch.tab 4 (Rn.dec (Rn.off f p) (n - p)).1 = false) :
    rd (Rn.off f p) (n - p) = if f p = 34 ∨ f p = 39 then rdTxt (Rn.off f p) (n - p) else rdSgn (Rn.off f p) (n - p) sgd := by
  have n2 : ¬ 0 < lead (Rn.off f p) (n - p) 2 := fun h => by have := (lead_pos (f := Rn.off f p) (n := n - p) (fun _ => hf _) (by omega)).1 h; rw [h2] at this; cases this
  have n4 : ¬ 0 < lead (Rn.off f p) (n - p) 4 := fun h => by have := (lead_pos (f := Rn.off f p) (n := n - p) (fun _ => hf _) (by omega)).1 h; rw [h4] at this; cases this
  unfold rd
  rw [if_neg n2, if_neg n4, sgd_eq]
  rfl
theorem rd_txt {f : Nat → Nat} {n p q : Nat} (hp : p < n) (hq : p + 1 ≤ q) (hqn : q ≤ n) (hno : ∀ j, p + 1 ≤ j → j < q → f j ≠ f p) (he : q < n → f q = f p) :
    rdTxt (Rn.off f p) (n - p) = if q < n then ⟨1, Rn.arr (Rn.off f (p + 1)) (q - (p + 1)), 0, q - (p + 1) + 2, true⟩ else ⟨0, ⟨#[]⟩, 0, 0, false⟩ := by
  have e : idx (Rn.off (Rn.off f p) 1) (n - p - 1) (Rn.off f p 0) = q - (p + 1) := by
    rw [off_off]
    refine idx_of (fun j hj => ?_) (by omega) (fun h => ?_)
    · show f (p + 1 + j) ≠ f (p + 0)
      exact hno _ (by omega) (by omega)
    · show f (p + 1 + (q - (p + 1))) = f (p + 0)
      rw [show p + 1 + (q - (p + 1)) = q by omega]
      exact he (by omega)
  unfold rdTxt
  rw [e, off_off]
  by_cases h : q < n
  · rw [if_pos h, if_pos (by omega)]
  · rw [if_neg h, if_neg (by omega)]
theorem Ix.sign {f : Nat → Nat} {n i p : Nat} (hf : ∀ j, f j < 256) (h : Ix f n i p) (s : List Nat) (hs : pre (Rn.off f p) (n - p) s = true) (h128 : ∀ c ∈ s, c < 128) (hlen : s.length = 1 ∨ s.length = 2) : Ix f n (i + s.length) (p + s.length) := by
  have hp := (pre_iff s (Rn.off f p) (n - p) (fun _ => hf _) (fun c hc => by have := h128 c hc; omega)).1 hs
  have b0 : f p < 128 := by
    have := hp.2 0 (by omega)
    have h2 := h128 s[0] (List.getElem_mem (by omega))
    simp only [Rn.off, Nat.add_zero] at this
    omega
  have n1 := h.one hf (by omega) b0
  rcases hlen with e | e
  · rw [e]; exact n1
  · have b1 : f (p + 1) < 128 := by
      have := hp.2 1 (by omega)
      have h2 := h128 s[1] (List.getElem_mem (by omega))
      simp only [Rn.off] at this
      omega
    rw [e]
    exact n1.one hf (by omega) b1
/-- a character that is another has no such byte -/
theorem char_no {f : Nat → Nat} {n q c : Nat} (hf : ∀ j, f j < 256) (hq : q < n) (hr : Run f n q n) (hc : c < 128) (h : (Rn.dec (Rn.off f q) (n - q)).1 ≠ c) : ∀ j, q ≤ j → j < q + (Rn.dec (Rn.off f q) (n - q)).2 → f j ≠ c := by
  intro j h1 h2 e
  have hw := run_whole hr hq
  have hd := Rn.dec_whole (Rn.off f q) (n - q) (fun _ => hf _) (by omega)
  rw [if_pos hw] at hd
  by_cases ej : j = q
  · subst ej
    have hl : Rn.off f j 0 < 128 := by show f (j + 0) < 128; rw [Nat.add_zero]; omega
    rw [dec_low hl] at h
    apply h
    show f (j + 0) = c
    rw [Nat.add_zero]; exact e
  · rw [hd] at h2
    have h3 : j < q + Rn.fs (Rn.off f q) (n - q) := h2
    have := whole_inner (j := j - q) hw (by omega) (by omega)
    simp only [Rn.off] at this
    rw [show q + (j - q) = j by omega] at this
    omega
theorem run_next {f : Nat → Nat} {n q : Nat} (hf : ∀ j, f j < 256) (hq : q < n) (hr : Run f n q n) : Run f n (q + (Rn.dec (Rn.off f q) (n - q)).2) n := by
  have hw := run_whole hr hq
  have hd := Rn.dec_whole (Rn.off f q) (n - q) (fun _ => hf _) (by omega)
  rw [if_pos hw] at hd
  rw [hd]
  exact run_step hr hq
end Lx
set_option maxRecDepth 100000 in
set_option maxHeartbeats 4000000 in
theorem refWord_txt34 (f : Nat → Nat) (n i p : Nat) (v : Value) (w : World) (hf : ∀ j, f j < 256) (hn : n ≤ 1099511627776) (hR : Lx.CRow w v f n) (hI : Lx.Ix f n i p) (hp : p < n) (hrun : Fd.Run f n p n) (h2 : Ch.isT Ch.tab 2 (Rn.dec (Rn.off f p) (n - p)).1 = false) (h4 : Ch.isT Ch.tab 4 (Rn.dec (Rn.off f p) (n - p)).1 = false) (h0 : (Rn.dec (Rn.off f p) (n - p)).1 = 34) :
    Calls Tryd.prog 28 #[.string (Rn.arr f n), v, .int .i64 i] w fun e w' => Lx.WdE f n i p w e w' := by
  have hsz := Rn.arr_size f n
  obtain ⟨hi, hx⟩ := hI.at_ hp
  have hlen := Lx.chl_len f n hf
  have hR1 := hR.below ((Below.refl w.heap.size w).alloc (Nat.le_refl _) (.cells #[.int .i64 0, .string ⟨#[]⟩, .int .i64 0, .int .i64 0, .int .i64 0, .int .i64 0, .int .i64 0] 43)) (Nat.le_refl _)
  have HR := hide' hR1
  have HE : Hid (Lx.Emp w (w.alloc (.cells #[.int .i64 0, .string ⟨#[]⟩, .int .i64 0, .int .i64 0, .int .i64 0, .int .i64 0, .int .i64 0] 43))) := Lx.Emp.new w
  obtain ⟨pc, cap, rfl, c1, c2, c3⟩ := hR1
  clear hR
  obtain ⟨L, hL⟩ : ∃ L, L = (Rn.chl f n).length := ⟨_, rfl⟩
  rw [← hL] at c1 c3 hi hlen ⊢
  obtain ⟨g, rfl, c4⟩ := c3 (by omega)
  obtain ⟨r, hr⟩ : ∃ r, r = (Rn.dec (Rn.off f p) (n - p)).1 := ⟨_, rfl⟩
  have pp := c4 _ _ hx
  rw [← hr] at pp
  have p0 : (w.alloc (.cells #[.int .i64 0, .string ⟨#[]⟩, .int .i64 0, .int .i64 0, .int .i64 0, .int .i64 0, .int .i64 0] 43)).cell? ⟨g, i * 3, none⟩ = some (.int .i64 (p : Nat)) := pp.1
  have p1 : (w.alloc (.cells #[.int .i64 0, .string ⟨#[]⟩, .int .i64 0, .int .i64 0, .int .i64 0, .int .i64 0, .int .i64 0] 43)).cell? ⟨g, i * 3 + 1, none⟩ = some (.int .i64 (r : Nat)) := pp.2
  clear pp
  have cN := refNameS_any r (w.alloc (.cells #[.int .i64 0, .string ⟨#[]⟩, .int .i64 0, .int .i64 0, .int .i64 0, .int .i64 0, .int .i64 0] 43))
  have t0 : (i : Int) < (L : Int) := by omega
  have H4 := hide' c4
  have HL := hide' hL
  obtain ⟨hlow, hrune⟩ := Lx.rune_low hf hp (by rw [h0]; omega)
  have hfp : f p = 34 := by omega
  have hI1 := hI.one hf hp hlow
  have hrun1 := Lx.run_next hf hp hrun
  rw [Lx.dec_low (f := Rn.off f p) (by simpa [Rn.off] using hlow)] at hrun1
  have hrd := Lx.rd_else hf hp h2 h4
  rw [if_pos (by omega)] at hrd
  have hrc : r = 34 := by rw [hr, h0]
  rw [← hr] at h2
  rw [h2] at cN
  have HI := hide' (And.intro hI1 (And.intro hrun1 (And.intro hrd hfp)))
  have HPI := hide' (And.intro hI hp)
  have e0 : decide ((48 : Int) ≤ r) = false := decide_eq_false (by omega)
  have e0' : ¬ (48 : Int) ≤ r := by omega
  have e1 : ((r : Int) == 34) = true := by simp; omega
  have gp : IntKind.i64.wrap ((p : Int) + 1) = (p : Int) + 1 := by rw [IntKind.wrap_i64]; omega
  have hpn : (p : Int) < n := by omega
  have HRC := hide' hrc
  clear c3 c4 hx hI hI1 hrd hr hL h2 h4 hp hrune hlow hrun hrun1 hfp h0 hrc
  go_enter Tryd.func28, Tryd.ntmps28
  go_wp2_with fail
  refine cN.mono ?_
  rintro e w1 ⟨rfl, rfl⟩
  clear cN
  go_wp2_with fail
  generalize (w.alloc (.cells #[.int .i64 0, .string ⟨#[]⟩, .int .i64 0, .int .i64 0, .int .i64 0, .int .i64 0, .int .i64 0] 43)) = W1 at HR HE H4 p0 p1 ⊢
  go_loopw [11] (fun v11 wr => ∃ k q : Nat, v11 = .int .i64 (k : Nat) ∧ i < k ∧ p + 1 ≤ q ∧ Lx.Ix f n k q ∧ Fd.Run f n q n ∧ (∀ j, p + 1 ≤ j → j < q → f j ≠ 34) ∧ wr = W1) (fun v _ => L - (RowKit.intOf v).toNat)
  case atStart => exact ⟨i + 1, p + 1, rfl, by omega, Nat.le_refl _, HI.out.1, HI.out.2.1, fun j a b => by omega, rfl⟩
  case round =>
    obtain ⟨k, q, rfl, hik, hpq, hk, hru, hno, rfl⟩ := hrel
    have hkL := hk.2.1
    rw [← HL.out] at hkL
    by_cases hq : q < n
    · obtain ⟨k1, k2⟩ := hk.at_ hq
      rw [← HL.out] at k1
      have t1 : (k : Int) < (L : Int) := by omega
      have t3 : ((k : Int) == (L : Int)) = false := by simp; omega
      have pk := (H4.out _ _ k2).2
      have pk0 : wr.cell? ⟨g, k * 3, none⟩ = some (.int .i64 (q : Nat)) := (H4.out _ _ k2).1
      obtain ⟨r2, hr2⟩ : ∃ r2, r2 = (Rn.dec (Rn.off f q) (n - q)).1 := ⟨_, rfl⟩
      rw [← hr2] at pk
      by_cases hc : r2 = r
      · have u1 : ((r2 : Int) != (r : Int)) = false := by simp; omega
        have u2 : ((r2 : Int) == (r : Int)) = true := by simp; omega
        have hfq : f q = 34 := by
          have := HRC.out
          obtain ⟨_, b⟩ := Lx.rune_low hf hq (by rw [← hr2]; omega)
          omega
        have hfp := HI.out.2.2.2
        have hrd := HI.out.2.2.1
        rw [Lx.rd_txt HPI.out.2 hpq hk.1 (fun j a b => by rw [hfp]; exact hno j a b) (fun _ => by omega), if_pos hq] at hrd
        have hk2 := hk.one hf hq (by omega)
        have em := Lx.arr_mid f n (p + 1) q hk.1 hpq
        have g2 : (p : Int) + 1 ≤ q := by omega
        have g3 : (q : Int) ≤ n := by omega
        have g4 : IntKind.i64.wrap ((k : Int) + 1 - (i : Int)) = ((k + 1 - i : Nat) : Int) := by rw [IntKind.wrap_i64]; omega
        have H9 := hide' (And.intro hrd hk2)
        clear k2 hc hr2 hfq hfp hrd hk2 hk hru hno HI HPI HRC H4 HR HL
        go_wp2_with (refine wpList_store_mid rfl 43 (.tmp 6) (.tmp 159) rfl w.heap.size 0 (Lx.wdC 1 (Rn.arr (Rn.off f (p + 1)) (q - (p + 1))) 0 (0, 0, 0, 0)) rfl rfl HE.out.there Lx.wdInfo (Lx.wdOne _ _ _ _) ?_)
        have z1 : i < k + 1 := by omega
        have z2 : q - (p + 1) + 2 = q + 1 - p := by omega
        have z3 : p ≤ q + 1 := by omega
        exact bodyPost_ret (v := .tuple #[.agg (Lx.wdC 1 (Rn.arr (Rn.off f (p + 1)) (q - (p + 1))) 0 (0, 0, 0, 0)), .int .i64 ((k + 1 - i : Nat) : Int), .int .i64 (-1)]) (Lx.results_word Tryd.results28 _ ⟨w.heap.size, 0, none⟩ rfl _ _ _ _ (HE.out.load _ _ _ _) rfl rfl) rfl (Lx.wde_ok (k := k + 1) (q := q + 1) H9.out.1 z1 z2 z3 H9.out.2 (HE.out.fin _))
      · have u1 : ((r2 : Int) != (r : Int)) = true := by simp; omega
        have u2 : ((r2 : Int) == (r : Int)) = false := by simp; omega
        have hk2 := hk.next hf hq
        have hru2 := Lx.run_next hf hq hru
        have hno2 := Lx.char_no (c := 34) hf hq hru (by omega) (by rw [← hr2]; have := HRC.out; omega)
        have HK := hide' (And.intro hk2 (And.intro hru2 (And.intro hno hno2)))
        clear k2 hc hr2 hk2 hru2 hno2 hk hru hno
        go_wp2_with fail
        obtain ⟨a1, a2, a3, a4⟩ := HK.out
        refine ⟨⟨k + 1, _, rfl, by omega, by omega, a1, a2, fun j a b => ?_, trivial⟩, by simp [RowKit.intOf]; omega⟩
        by_cases hjq : j < q
        · exact a3 j a hjq
        · exact a4 j (by omega) b
    · have k1 := hk.end_ hq
      rw [← HL.out] at k1
      have t1 : ¬ (k : Int) < (L : Int) := by omega
      have t2 : decide ((k : Int) < (L : Int)) = false := decide_eq_false t1
      have t3 : ((k : Int) == (L : Int)) = true := by simp; omega
      have hfp := HI.out.2.2.2
      have hrd := HI.out.2.2.1
      rw [Lx.rd_txt HPI.out.2 hpq hk.1 (fun j a b => by rw [hfp]; exact hno j a b) (fun h => absurd h hq), if_neg hq] at hrd
      have H9 := hide' hrd
      clear k1 hfp hrd hk hru hno HI H4 HR HL hq
      go_wp2_with (refine wpList_store_mid rfl 43 (.tmp 6) (.tmp 148) rfl w.heap.size 0 (Lx.wdC 0 ⟨#[]⟩ 0 (0, 0, 0, 0)) rfl rfl HE.out.there Lx.wdInfo (Lx.wdOne _ _ _ _) ?_)
      exact bodyPost_ret (v := .tuple #[.agg (Lx.wdC 0 ⟨#[]⟩ 0 (0, 0, 0, 0)), .int .i64 ((0 : Nat) : Int), .int .i64 (i : Nat)]) (Lx.results_word Tryd.results28 _ ⟨w.heap.size, 0, none⟩ rfl _ _ _ _ (HE.out.load _ _ _ _) rfl rfl) rfl (Lx.wde_bad (cnt := 0) H9.out (Nat.add_zero p) HPI.out.1 HPI.out.2 (HE.out.fin _))
set_option maxRecDepth 100000 in
set_option maxHeartbeats 4000000 in
theorem refWord_txt39 (f : Nat → Nat) (n i p : Nat) (v : Value) (w : World) (hf : ∀ j, f j < 256) (hn : n ≤ 1099511627776) (hR : Lx.CRow w v f n) (hI : Lx.Ix f n i p) (hp : p < n) (hrun : Fd.Run f n p n) (h2 : Ch.isT Ch.tab 2 (Rn.dec (Rn.off f p) (n - p)).1 = false) (h4 : Ch.isT Ch.tab 4 (Rn.dec (Rn.off f p) (n - p)).1 = false) (h0 : (Rn.dec (Rn.off f p) (n - p)).1 = 39) :
    Calls Tryd.prog 28 #[.string (Rn.arr f n), v, .int .i64 i] w fun e w' => Lx.WdE f n i p w e w' := by
  have hsz := Rn.arr_size f n
  obtain ⟨hi, hx⟩ := hI.at_ hp
  have hlen := Lx.chl_len f n hf
  have hR1 := hR.below ((Below.refl w.heap.size w).alloc (Nat.le_refl _) (.cells #[.int .i64 0, .string ⟨#[]⟩, .int .i64 0, .int .i64 0, .int .i64 0, .int .i64 0, .int .i64 0] 43)) (Nat.le_refl _)
  have HR := hide' hR1
  have HE : Hid (Lx.Emp w (w.alloc (.cells #[.int .i64 0, .string ⟨#[]⟩, .int .i64 0, .int .i64 0, .int .i64 0, .int .i64 0, .int .i64 0] 43))) := Lx.Emp.new w
  obtain ⟨pc, cap, rfl, c1, c2, c3⟩ := hR1
  clear hR
  obtain ⟨L, hL⟩ : ∃ L, L = (Rn.chl f n).length := ⟨_, rfl⟩
  rw [← hL] at c1 c3 hi hlen ⊢
  obtain ⟨g, rfl, c4⟩ := c3 (by omega)
  obtain ⟨r, hr⟩ : ∃ r, r = (Rn.dec (Rn.off f p) (n - p)).1 := ⟨_, rfl⟩
  have pp := c4 _ _ hx
  rw [← hr] at pp
  have p0 : (w.alloc (.cells #[.int .i64 0, .string ⟨#[]⟩, .int .i64 0, .int .i64 0, .int .i64 0, .int .i64 0, .int .i64 0] 43)).cell? ⟨g, i * 3, none⟩ = some (.int .i64 (p : Nat)) := pp.1
  have p1 : (w.alloc (.cells #[.int .i64 0, .string ⟨#[]⟩, .int .i64 0, .int .i64 0, .int .i64 0, .int .i64 0, .int .i64 0] 43)).cell? ⟨g, i * 3 + 1, none⟩ = some (.int .i64 (r : Nat)) := pp.2
  clear pp
  have cN := refNameS_any r (w.alloc (.cells #[.int .i64 0, .string ⟨#[]⟩, .int .i64 0, .int .i64 0, .int .i64 0, .int .i64 0, .int .i64 0] 43))
  have t0 : (i : Int) < (L : Int) := by omega
  have H4 := hide' c4
  have HL := hide' hL
  obtain ⟨hlow, hrune⟩ := Lx.rune_low hf hp (by rw [h0]; omega)
  have hfp : f p = 39 := by omega
  have hI1 := hI.one hf hp hlow
  have hrun1 := Lx.run_next hf hp hrun
  rw [Lx.dec_low (f := Rn.off f p) (by simpa [Rn.off] using hlow)] at hrun1
  have hrd := Lx.rd_else hf hp h2 h4
  rw [if_pos (by omega)] at hrd
  have hrc : r = 39 := by rw [hr, h0]
  rw [← hr] at h2
  rw [h2] at cN
  have HI := hide' (And.intro hI1 (And.intro hrun1 (And.intro hrd hfp)))
  have HPI := hide' (And.intro hI hp)
  have e0 : decide ((48 : Int) ≤ r) = false := decide_eq_false (by omega)
  have e0' : ¬ (48 : Int) ≤ r := by omega
  have e1 : ((r : Int) == 34) = false := by simp; omega
  have e2 : ((r : Int) == 39) = true := by simp; omega
  have gp : IntKind.i64.wrap ((p : Int) + 1) = (p : Int) + 1 := by rw [IntKind.wrap_i64]; omega
  have hpn : (p : Int) < n := by omega
  have HRC := hide' hrc
  clear c3 c4 hx hI hI1 hrd hr hL h2 h4 hp hrune hlow hrun hrun1 hfp h0 hrc
  go_enter Tryd.func28, Tryd.ntmps28
  go_wp2_with fail
  refine cN.mono ?_
  rintro e w1 ⟨rfl, rfl⟩
  clear cN
  go_wp2_with fail
  generalize (w.alloc (.cells #[.int .i64 0, .string ⟨#[]⟩, .int .i64 0, .int .i64 0, .int .i64 0, .int .i64 0, .int .i64 0] 43)) = W1 at HR HE H4 p0 p1 ⊢
  go_loopw [11] (fun v11 wr => ∃ k q : Nat, v11 = .int .i64 (k : Nat) ∧ i < k ∧ p + 1 ≤ q ∧ Lx.Ix f n k q ∧ Fd.Run f n q n ∧ (∀ j, p + 1 ≤ j → j < q → f j ≠ 39) ∧ wr = W1) (fun v _ => L - (RowKit.intOf v).toNat)
  case atStart => exact ⟨i + 1, p + 1, rfl, by omega, Nat.le_refl _, HI.out.1, HI.out.2.1, fun j a b => by omega, rfl⟩
  case round =>
    obtain ⟨k, q, rfl, hik, hpq, hk, hru, hno, rfl⟩ := hrel
    have hkL := hk.2.1
    rw [← HL.out] at hkL
    by_cases hq : q < n
    · obtain ⟨k1, k2⟩ := hk.at_ hq
      rw [← HL.out] at k1
      have t1 : (k : Int) < (L : Int) := by omega
      have t3 : ((k : Int) == (L : Int)) = false := by simp; omega
      have pk := (H4.out _ _ k2).2
      have pk0 : wr.cell? ⟨g, k * 3, none⟩ = some (.int .i64 (q : Nat)) := (H4.out _ _ k2).1
      obtain ⟨r2, hr2⟩ : ∃ r2, r2 = (Rn.dec (Rn.off f q) (n - q)).1 := ⟨_, rfl⟩
      rw [← hr2] at pk
      by_cases hc : r2 = r
      · have u1 : ((r2 : Int) != (r : Int)) = false := by simp; omega
        have u2 : ((r2 : Int) == (r : Int)) = true := by simp; omega
        have hfq : f q = 39 := by
          have := HRC.out
          obtain ⟨_, b⟩ := Lx.rune_low hf hq (by rw [← hr2]; omega)
          omega
        have hfp := HI.out.2.2.2
        have hrd := HI.out.2.2.1
        rw [Lx.rd_txt HPI.out.2 hpq hk.1 (fun j a b => by rw [hfp]; exact hno j a b) (fun _ => by omega), if_pos hq] at hrd
        have hk2 := hk.one hf hq (by omega)
        have em := Lx.arr_mid f n (p + 1) q hk.1 hpq
        have g2 : (p : Int) + 1 ≤ q := by omega
        have g3 : (q : Int) ≤ n := by omega
        have g4 : IntKind.i64.wrap ((k : Int) + 1 - (i : Int)) = ((k + 1 - i : Nat) : Int) := by rw [IntKind.wrap_i64]; omega
        have H9 := hide' (And.intro hrd hk2)
        clear k2 hc hr2 hfq hfp hrd hk2 hk hru hno HI HPI HRC H4 HR HL
        go_wp2_with (refine wpList_store_mid rfl 43 (.tmp 6) (.tmp 159) rfl w.heap.size 0 (Lx.wdC 1 (Rn.arr (Rn.off f (p + 1)) (q - (p + 1))) 0 (0, 0, 0, 0)) rfl rfl HE.out.there Lx.wdInfo (Lx.wdOne _ _ _ _) ?_)
        have z1 : i < k + 1 := by omega
        have z2 : q - (p + 1) + 2 = q + 1 - p := by omega
        have z3 : p ≤ q + 1 := by omega
        exact bodyPost_ret (v := .tuple #[.agg (Lx.wdC 1 (Rn.arr (Rn.off f (p + 1)) (q - (p + 1))) 0 (0, 0, 0, 0)), .int .i64 ((k + 1 - i : Nat) : Int), .int .i64 (-1)]) (Lx.results_word Tryd.results28 _ ⟨w.heap.size, 0, none⟩ rfl _ _ _ _ (HE.out.load _ _ _ _) rfl rfl) rfl (Lx.wde_ok (k := k + 1) (q := q + 1) H9.out.1 z1 z2 z3 H9.out.2 (HE.out.fin _))
      · have u1 : ((r2 : Int) != (r : Int)) = true := by simp; omega
        have u2 : ((r2 : Int) == (r : Int)) = false := by simp; omega
        have hk2 := hk.next hf hq
        have hru2 := Lx.run_next hf hq hru
        have hno2 := Lx.char_no (c := 39) hf hq hru (by omega) (by rw [← hr2]; have := HRC.out; omega)
        have HK := hide' (And.intro hk2 (And.intro hru2 (And.intro hno hno2)))
        clear k2 hc hr2 hk2 hru2 hno2 hk hru hno
        go_wp2_with fail
        obtain ⟨a1, a2, a3, a4⟩ := HK.out
        refine ⟨⟨k + 1, _, rfl, by omega, by omega, a1, a2, fun j a b => ?_, trivial⟩, by simp [RowKit.intOf]; omega⟩
        by_cases hjq : j < q
        · exact a3 j a hjq
        · exact a4 j (by omega) b
    · have k1 := hk.end_ hq
      rw [← HL.out] at k1
      have t1 : ¬ (k : Int) < (L : Int) := by omega
      have t2 : decide ((k : Int) < (L : Int)) = false := decide_eq_false t1
      have t3 : ((k : Int) == (L : Int)) = true := by simp; omega
      have hfp := HI.out.2.2.2
      have hrd := HI.out.2.2.1
      rw [Lx.rd_txt HPI.out.2 hpq hk.1 (fun j a b => by rw [hfp]; exact hno j a b) (fun h => absurd h hq), if_neg hq] at hrd
      have H9 := hide' hrd
      clear k1 hfp hrd hk hru hno HI H4 HR HL hq
      go_wp2_with (refine wpList_store_mid rfl 43 (.tmp 6) (.tmp 148) rfl w.heap.size 0 (Lx.wdC 0 ⟨#[]⟩ 0 (0, 0, 0, 0)) rfl rfl HE.out.there Lx.wdInfo (Lx.wdOne _ _ _ _) ?_)
      exact bodyPost_ret (v := .tuple #[.agg (Lx.wdC 0 ⟨#[]⟩ 0 (0, 0, 0, 0)), .int .i64 ((0 : Nat) : Int), .int .i64 (i : Nat)]) (Lx.results_word Tryd.results28 _ ⟨w.heap.size, 0, none⟩ rfl _ _ _ _ (HE.out.load _ _ _ _) rfl rfl) rfl (Lx.wde_bad (cnt := 0) H9.out (Nat.add_zero p) HPI.out.1 HPI.out.2 (HE.out.fin _))
end Go.Proofs.YtoccedbnnafjcaaDoor
