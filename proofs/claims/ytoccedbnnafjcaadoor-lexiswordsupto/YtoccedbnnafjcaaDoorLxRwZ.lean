/-
  THE WALK over gimletref10.word, where the word is a sign; and at any place (made by gen_rww.py)
-/
import Derived.Test.YtoccedbnnafjcaaDoorLxRwY
namespace Go.Proofs.YtoccedbnnafjcaaDoor
open Go.RowKit Go.Lib
namespace Lx
open _root_.Go.Proofs.YtoccedbnnafjcaaDoor.Fd
/-- what sign answers -/
theorem sgn_case {f : Nat → Nat} {n i p : Nat} (hf : ∀ j, f j < 256) (hI : Ix f n i p) : ((rdSgn (Rn.off f p) (n - p) sgd).ok = false ∧ rdSgn (Rn.off f p) (n - p) sgd = ⟨0, ⟨#[]⟩, 0, 0, false⟩) ∨ ∃ s : List Nat, rdSgn (Rn.off f p) (n - p) sgd = ⟨3, bt s, 0, s.length, true⟩ ∧ (s.length = 1 ∨ s.length = 2) ∧ Ix f n (i + s.length) (p + s.length) := by
  have key : ∀ l : List (List Nat), (∀ s ∈ l, (∀ c ∈ s, c < 256) ∧ (∀ c ∈ s, c < 128) ∧ 0 < s.length ∧ s.length ≤ 2) → ((rdSgn (Rn.off f p) (n - p) l).ok = false ∧ rdSgn (Rn.off f p) (n - p) l = ⟨0, ⟨#[]⟩, 0, 0, false⟩) ∨ ∃ s : List Nat, rdSgn (Rn.off f p) (n - p) l = ⟨3, bt s, 0, s.length, true⟩ ∧ (s.length = 1 ∨ s.length = 2) ∧ Ix f n (i + s.length) (p + s.length) := by
    intro l
    induction l with
    | nil => intro _; exact .inl ⟨rfl, rfl⟩
    | cons s l ih =>
      intro hl
      rw [rdSgn_cons]
      by_cases c : pre (Rn.off f p) (n - p) s = true
      · rw [if_pos c]
        obtain ⟨_, b, d, e⟩ := hl s (by simp)
        have hlen : s.length = 1 ∨ s.length = 2 := by omega
        exact .inr ⟨s, rfl, hlen, hI.sign hf s c b hlen⟩
      · rw [if_neg c]
        exact ih (fun s h => hl s (by simp [h]))
  exact key sgd sgd_lt
theorem wde_cnt {f : Nat → Nat} {n i p cnt kd nm wd : Nat} {tx : ByteArray} {w w' : World} (hrd : rd (Rn.off f p) (n - p) = ⟨kd, tx, nm, wd, true⟩) (hc : 0 < cnt) (hk : Ix f n (i + cnt) (p + wd)) (hb : Below w.heap.size w w') :
    WdE f n i p w (.returned (.tuple #[.agg (wdC kd tx nm (0, 0, 0, 0)), .int .i64 (cnt : Nat), .int .i64 (-1)])) w' := by
  have := WdE.ok (f := f) (n := n) (i := i) (p := p) (w := w) cnt w' (by rw [hrd]) hc (by rw [hrd]; exact hk) hb
  rw [hrd] at this
  exact this
theorem str_none {s : List Nat} (h : s.length = 1 ∨ s.length = 2) : ((bt s).toList == []) = false := by
  rw [beq_eq_false_iff_ne]
  intro e
  have := congrArg List.length e
  rw [ByteArray.toList_eq] at this
  have h2 := bt_size s
  have h3 : (bt s).data.toList.length = (bt s).size := rfl
  simp only [List.length_nil] at this
  omega
end Lx
set_option maxRecDepth 100000 in
set_option maxHeartbeats 4000000 in
theorem refWord_sgn (f : Nat → Nat) (n i p : Nat) (v : Value) (w : World) (hf : ∀ j, f j < 256) (hn : n ≤ 1099511627776) (hR : Lx.CRow w v f n) (hI : Lx.Ix f n i p) (hp : p < n) (h2 : Ch.isT Ch.tab 2 (Rn.dec (Rn.off f p) (n - p)).1 = false) (h4 : Ch.isT Ch.tab 4 (Rn.dec (Rn.off f p) (n - p)).1 = false) (h34 : (Rn.dec (Rn.off f p) (n - p)).1 ≠ 34) (h39 : (Rn.dec (Rn.off f p) (n - p)).1 ≠ 39) :
    Calls Tryd.prog 28 #[.string (Rn.arr f n), v, .int .i64 i] w fun e w' => Lx.WdE f n i p w e w' := by
  have hsz := Rn.arr_size f n
  obtain ⟨hi, hx⟩ := hI.at_ hp
  have hlen := Lx.chl_len f n hf
  have hR1 := hR.below ((Below.refl w.heap.size w).alloc (Nat.le_refl _) (.cells #[.int .i64 0, .string ⟨#[]⟩, .int .i64 0, .int .i64 0, .int .i64 0, .int .i64 0, .int .i64 0] 43)) (Nat.le_refl _)
  have HR := hide' hR1
  have HE : Hid (Lx.Emp w (w.alloc (.cells #[.int .i64 0, .string ⟨#[]⟩, .int .i64 0, .int .i64 0, .int .i64 0, .int .i64 0, .int .i64 0] 43))) := Lx.Emp.new w
  obtain ⟨pc, cap, rfl, c1, c2, c3⟩ := hR1
  clear hR
  obtain ⟨L, hL⟩ : ∃ L, L = (Rn.chl f n).length := ⟨_, rfl⟩
  rw [← hL] at c1 c3 hi hlen ⊢
  obtain ⟨g, rfl, c4⟩ := c3 (by omega)
  obtain ⟨r, hr⟩ : ∃ r, r = (Rn.dec (Rn.off f p) (n - p)).1 := ⟨_, rfl⟩
  have pp := c4 _ _ hx
  rw [← hr] at pp
  have p0 : (w.alloc (.cells #[.int .i64 0, .string ⟨#[]⟩, .int .i64 0, .int .i64 0, .int .i64 0, .int .i64 0, .int .i64 0] 43)).cell? ⟨g, i * 3, none⟩ = some (.int .i64 (p : Nat)) := pp.1
  have p1 : (w.alloc (.cells #[.int .i64 0, .string ⟨#[]⟩, .int .i64 0, .int .i64 0, .int .i64 0, .int .i64 0, .int .i64 0] 43)).cell? ⟨g, i * 3 + 1, none⟩ = some (.int .i64 (r : Nat)) := pp.2
  clear pp
  have cN := refNameS_any r (w.alloc (.cells #[.int .i64 0, .string ⟨#[]⟩, .int .i64 0, .int .i64 0, .int .i64 0, .int .i64 0, .int .i64 0] 43))
  have t0 : (i : Int) < (L : Int) := by omega
  have H4 := hide' c4
  have HL := hide' hL
  have hrd := Lx.rd_else hf hp h2 h4
  have hnq : ¬ (f p = 34 ∨ f p = 39) := by
    intro h
    have hl : Rn.off f p 0 < 128 := by show f (p + 0) < 128; rw [Nat.add_zero]; omega
    rw [Lx.dec_low hl] at h34 h39
    have e : Rn.off f p 0 = f p := by show f (p + 0) = _; rw [Nat.add_zero]
    simp only [e] at h34 h39
    omega
  rw [if_neg hnq] at hrd
  have hd4 : ¬ (48 ≤ r ∧ r ≤ 57) := by
    intro h
    have := (Lx.c4_is ((r : Nat) : Int)).2 (by omega)
    rw [hr, h4] at this
    cases this
  rw [← hr] at h2 h34 h39
  rw [h2] at cN
  have cS := refSign_any f n p (w.alloc (.cells #[.int .i64 0, .string ⟨#[]⟩, .int .i64 0, .int .i64 0, .int .i64 0, .int .i64 0, .int .i64 0] 43)) hf (by omega) (by omega)
  have hcase := Lx.sgn_case hf hI
  have e1 : ((r : Int) == 34) = false := by simp; omega
  have e2 : ((r : Int) == 39) = false := by simp; omega
  have HPI := hide' (And.intro hI hp)
  have hfst : decide ((48 : Int) ≤ r) = false ∨ (48 : Int) ≤ r ∧ decide ((r : Int) ≤ 57) = false := by
    by_cases h : 48 ≤ r
    · exact .inr ⟨by omega, decide_eq_false (by omega)⟩
    · exact .inl (decide_eq_false (by omega))
  unfold Lx.sgn at cS
  clear c3 c4 hx hI hr hL h2 h4 hp h34 h39 hnq hd4
  rcases hcase with ⟨_, hs⟩ | ⟨s, hs, hl, hIs⟩
  · rw [hs] at cS hrd
    have H9 := hide' hrd
    clear hs hrd
    rcases hfst with e0 | ⟨e0, e3⟩
    · go_enter Tryd.func28, Tryd.ntmps28
      go_wp2_with fail
      refine cN.mono ?_
      rintro e w1 ⟨rfl, rfl⟩
      clear cN
      go_wp2_with fail
      refine cS.mono ?_
      rintro e w2 ⟨rfl, hb2⟩
      have HE := hide' (HE.out.below hb2)
      clear cS hb2
      go_wp2_with (refine wpList_store_mid rfl 43 (.tmp 6) (.tmp 169) rfl w.heap.size 0 (Lx.wdC 0 ⟨#[]⟩ 0 (0, 0, 0, 0)) rfl rfl HE.out.there Lx.wdInfo (Lx.wdOne _ _ _ _) ?_)
      exact bodyPost_ret (v := .tuple #[.agg (Lx.wdC 0 ⟨#[]⟩ 0 (0, 0, 0, 0)), .int .i64 ((0 : Nat) : Int), .int .i64 (i : Nat)]) (Lx.results_word Tryd.results28 _ ⟨w.heap.size, 0, none⟩ rfl _ _ _ _ (HE.out.load _ _ _ _) rfl rfl) rfl (Lx.wde_bad (cnt := 0) H9.out (Nat.add_zero p) HPI.out.1 HPI.out.2 (HE.out.fin _))
    · go_enter Tryd.func28, Tryd.ntmps28
      go_wp2_with fail
      refine cN.mono ?_
      rintro e w1 ⟨rfl, rfl⟩
      clear cN
      go_wp2_with fail
      refine cS.mono ?_
      rintro e w2 ⟨rfl, hb2⟩
      have HE := hide' (HE.out.below hb2)
      clear cS hb2
      go_wp2_with (refine wpList_store_mid rfl 43 (.tmp 6) (.tmp 169) rfl w.heap.size 0 (Lx.wdC 0 ⟨#[]⟩ 0 (0, 0, 0, 0)) rfl rfl HE.out.there Lx.wdInfo (Lx.wdOne _ _ _ _) ?_)
      exact bodyPost_ret (v := .tuple #[.agg (Lx.wdC 0 ⟨#[]⟩ 0 (0, 0, 0, 0)), .int .i64 ((0 : Nat) : Int), .int .i64 (i : Nat)]) (Lx.results_word Tryd.results28 _ ⟨w.heap.size, 0, none⟩ rfl _ _ _ _ (HE.out.load _ _ _ _) rfl rfl) rfl (Lx.wde_bad (cnt := 0) H9.out (Nat.add_zero p) HPI.out.1 HPI.out.2 (HE.out.fin _))
  · rw [hs] at cS hrd
    have H9 := hide' (And.intro hrd hIs)
    have hbs := Lx.bt_size s
    have hne := Lx.str_none hl
    have HLn := hide' hl
    clear hs hrd hIs hl
    rcases hfst with e0 | ⟨e0, e3⟩
    · go_enter Tryd.func28, Tryd.ntmps28
      go_wp2_with fail
      refine cN.mono ?_
      rintro e w1 ⟨rfl, rfl⟩
      clear cN
      go_wp2_with fail
      refine cS.mono ?_
      rintro e w2 ⟨rfl, hb2⟩
      have HE := hide' (HE.out.below hb2)
      clear cS hb2
      go_wp2_with (refine wpList_store_mid rfl 43 (.tmp 6) (.tmp 172) rfl w.heap.size 0 (Lx.wdC 3 (Lx.bt s) 0 (0, 0, 0, 0)) rfl rfl HE.out.there Lx.wdInfo (Lx.wdOne _ _ _ _) ?_)
      exact bodyPost_ret (v := .tuple #[.agg (Lx.wdC 3 (Lx.bt s) 0 (0, 0, 0, 0)), .int .i64 (s.length : Nat), .int .i64 (-1)]) (Lx.results_word Tryd.results28 _ ⟨w.heap.size, 0, none⟩ rfl _ _ _ _ (HE.out.load _ _ _ _) rfl rfl) rfl (Lx.wde_cnt H9.out.1 (by have := HLn.out; omega) H9.out.2 (HE.out.fin _))
    · go_enter Tryd.func28, Tryd.ntmps28
      go_wp2_with fail
      refine cN.mono ?_
      rintro e w1 ⟨rfl, rfl⟩
      clear cN
      go_wp2_with fail
      refine cS.mono ?_
      rintro e w2 ⟨rfl, hb2⟩
      have HE := hide' (HE.out.below hb2)
      clear cS hb2
      go_wp2_with (refine wpList_store_mid rfl 43 (.tmp 6) (.tmp 172) rfl w.heap.size 0 (Lx.wdC 3 (Lx.bt s) 0 (0, 0, 0, 0)) rfl rfl HE.out.there Lx.wdInfo (Lx.wdOne _ _ _ _) ?_)
      exact bodyPost_ret (v := .tuple #[.agg (Lx.wdC 3 (Lx.bt s) 0 (0, 0, 0, 0)), .int .i64 (s.length : Nat), .int .i64 (-1)]) (Lx.results_word Tryd.results28 _ ⟨w.heap.size, 0, none⟩ rfl _ _ _ _ (HE.out.load _ _ _ _) rfl rfl) rfl (Lx.wde_cnt H9.out.1 (by have := HLn.out; omega) H9.out.2 (HE.out.fin _))
theorem refWord_any (f : Nat → Nat) (n i p : Nat) (v : Value) (w : World) (hf : ∀ j, f j < 256) (hn : n ≤ 1099511627776) (hR : Lx.CRow w v f n) (hI : Lx.Ix f n i p) (hp : p < n) (hrun : Fd.Run f n p n) :
    Calls Tryd.prog 28 #[.string (Rn.arr f n), v, .int .i64 i] w fun e w' => Lx.WdE f n i p w e w' := by
  cases h2 : Ch.isT Ch.tab 2 (Rn.dec (Rn.off f p) (n - p)).1
  · cases h4 : Ch.isT Ch.tab 4 (Rn.dec (Rn.off f p) (n - p)).1
    · by_cases h34 : (Rn.dec (Rn.off f p) (n - p)).1 = 34
      · exact refWord_txt34 f n i p v w hf hn hR hI hp hrun h2 h4 h34
      · by_cases h39 : (Rn.dec (Rn.off f p) (n - p)).1 = 39
        · exact refWord_txt39 f n i p v w hf hn hR hI hp hrun h2 h4 h39
        · exact refWord_sgn f n i p v w hf hn hR hI hp h2 h4 h34 h39
    · exact refWord_num f n i p v w hf hn hR hI hp h2 h4
  · exact refWord_name f n i p v w hf hn hR hI hp h2
end Go.Proofs.YtoccedbnnafjcaaDoor
