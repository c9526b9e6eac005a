/-
  WALKS over gimletref10.end and word, where the word is a name.
-/
import Derived.Test.YtoccedbnnafjcaaDoorLxRwH
import Derived.Test.YtoccedbnnafjcaaDoorLxRwA
import Derived.Test.YtoccedbnnafjcaaDoorLxValM
import Derived.Test.YtoccedbnnafjcaaDoorLxValM
namespace Go.Proofs.YtoccedbnnafjcaaDoor
open Go.RowKit Go.Lib
namespace Lx
/-- the document's characters in memory -/
def CRow (W : World) (v : Value) (f : Nat → Nat) (n : Nat) : Prop :=
  ∃ p cap, v = .slice p (Rn.chl f n).length cap ∧ (Rn.chl f n).length ≤ cap ∧ cap ≤ 9223372036854775807 ∧ (0 < (Rn.chl f n).length → ∃ g, p = some ⟨g, 0, none⟩ ∧ ∀ i x, (Rn.chl f n)[i]? = some x → W.cell? ⟨g, i * 3, none⟩ = some (.int .i64 (x.1 : Nat)) ∧ W.cell? ⟨g, i * 3 + 1, none⟩ = some (.int .i64 (x.2.1 : Nat)))
theorem CRow.below {W W' : World} {B : Nat} {v : Value} {f : Nat → Nat} {n : Nat} (h : CRow W v f n) (hb : Below B W W') (hB : W.heap.size ≤ B) : CRow W' v f n := by
  obtain ⟨p, cap, e, c1, c2, c3⟩ := h
  refine ⟨p, cap, e, c1, c2, fun h0 => ?_⟩
  obtain ⟨g, e2, c4⟩ := c3 h0
  refine ⟨g, e2, fun i x hx => ?_⟩
  obtain ⟨a, b⟩ := c4 i x hx
  exact ⟨(hb.cell (p := ⟨g, i * 3, none⟩) (Nat.lt_of_lt_of_le (block_lt_of_cell a) hB)).trans a, (hb.cell (p := ⟨g, i * 3 + 1, none⟩) (Nat.lt_of_lt_of_le (block_lt_of_cell b) hB)).trans b⟩
/-- what word answers -/
inductive WdE (f : Nat → Nat) (n i p : Nat) (w : World) : Ending → World → Prop
  | ok (cnt : Nat) (w' : World) (h : (rd (Rn.off f p) (n - p)).ok = true) (hc : 0 < cnt) (hI : Ix f n (i + cnt) (p + (rd (Rn.off f p) (n - p)).wd)) (hb : Below w.heap.size w w') : WdE f n i p w (.returned (.tuple #[.agg (wdA (rd (Rn.off f p) (n - p))), .int .i64 (cnt : Nat), .int .i64 (-1)])) w'
  | bad (q : Nat) (tx : ByteArray) (nm cnt k : Nat) (w' : World) (h : (rd (Rn.off f p) (n - p)).ok = false) (hI : Ix f n k (p + (rd (Rn.off f p) (n - p)).wd)) (hlt : p + (rd (Rn.off f p) (n - p)).wd < n) (hb : Below w.heap.size w w') : WdE f n i p w (.returned (.tuple #[.agg (wdC q tx nm (0, 0, 0, 0)), .int .i64 (cnt : Nat), .int .i64 (k : Nat)])) w'
theorem wde_ok {f : Nat → Nat} {n i p k q kd nm wd : Nat} {tx : ByteArray} {w w' : World} (hrd : rd (Rn.off f p) (n - p) = ⟨kd, tx, nm, wd, true⟩) (hik : i < k) (hwd : wd = q - p) (hpq : p ≤ q) (hk : Ix f n k q) (hb : Below w.heap.size w w') :
    WdE f n i p w (.returned (.tuple #[.agg (wdC kd tx nm (0, 0, 0, 0)), .int .i64 ((k - i : Nat) : Int), .int .i64 (-1)])) w' := by
  have := WdE.ok (f := f) (n := n) (i := i) (p := p) (w := w) (k - i) w' (by rw [hrd]) (by omega) (by rw [hrd, show i + (k - i) = k by omega]; show Ix f n k (p + wd); rw [hwd, show p + (q - p) = q by omega]; exact hk) hb
  rw [hrd] at this
  exact this
theorem wde_bad {f : Nat → Nat} {n i p kd nm wd q cnt k kd' nm' : Nat} {tx tx' : ByteArray} {w w' : World} (hrd : rd (Rn.off f p) (n - p) = ⟨kd, tx, nm, wd, false⟩) (hwd : p + wd = q) (hk : Ix f n k q) (hq : q < n) (hb : Below w.heap.size w w') :
    WdE f n i p w (.returned (.tuple #[.agg (wdC kd' tx' nm' (0, 0, 0, 0)), .int .i64 (cnt : Nat), .int .i64 (k : Nat)])) w' :=
  WdE.bad kd' tx' nm' cnt k w' (by rw [hrd]) (by rw [hrd]; show Ix f n k (p + wd); rw [hwd]; exact hk) (by rw [hrd]; show p + wd < n; omega) hb
end Lx
set_option maxHeartbeats 1000000 in
theorem refEnd_any (f : Nat → Nat) (n k q : Nat) (v : Value) (w : World) (hR : Lx.CRow w v f n) (hI : Lx.Ix f n k q) :
    Calls Tryd.prog 53 #[.string (Rn.arr f n), v, .int .i64 k] w fun e w' => e = .returned (.int .i64 (q : Nat)) ∧ w' = w := by
  obtain ⟨pc, cap, rfl, c1, c2, c3⟩ := hR
  have hsz := Rn.arr_size f n
  obtain ⟨L, hL⟩ : ∃ L, L = (Rn.chl f n).length := ⟨_, rfl⟩
  rw [← hL] at c1 c3 ⊢
  by_cases hq : q < n
  · obtain ⟨h1, h2⟩ := hI.at_ hq
    rw [← hL] at h1
    obtain ⟨g, rfl, c4⟩ := c3 (by omega)
    obtain ⟨p0, p1⟩ := c4 _ _ h2
    have t1 : (k : Int) < (L : Int) := by omega
    clear c4 h2 c3 hI hL
    go_enter Tryd.func53, Tryd.ntmps53
    go_wp2
    go_ret
    exact ⟨rfl, rfl⟩
  · have h1 := hI.end_ hq
    have h2 := hI.1
    rw [← hL] at h1
    have t1 : ¬ (k : Int) < (L : Int) := by omega
    obtain rfl : q = n := by omega
    clear c3 hI hL h1
    go_enter Tryd.func53, Tryd.ntmps53
    go_wp2
    go_ret
    exact ⟨rfl, rfl⟩
set_option maxRecDepth 100000 in
set_option maxHeartbeats 4000000 in
theorem refWord_name (f : Nat → Nat) (n i p : Nat) (v : Value) (w : World) (hf : ∀ j, f j < 256) (hn : n ≤ 1099511627776) (hR : Lx.CRow w v f n) (hI : Lx.Ix f n i p) (hp : p < n) (h2 : Ch.isT Ch.tab 2 (Rn.dec (Rn.off f p) (n - p)).1 = true) :
    Calls Tryd.prog 28 #[.string (Rn.arr f n), v, .int .i64 i] w fun e w' => Lx.WdE f n i p w e w' := by
  have hsz := Rn.arr_size f n
  obtain ⟨hi, hx⟩ := hI.at_ hp
  have hI1 := hI.next hf hp
  have hd := Lx.dec_some (Rn.off f p) (n - p) (fun _ => hf _) (by omega)
  have hE1 := (Lx.En.go (c := 3) hf hp (Lx.c23 _ h2)).symm
  have hrd : Lx.rd (Rn.off f p) (n - p) = ⟨0, Rn.arr (Rn.off f p) (Lx.En f n 3 p - p), 0, Lx.En f n 3 p - p, true⟩ := by
    have h0 : 0 < Lx.lead (Rn.off f p) (n - p) 2 := (Lx.lead_pos (fun _ => hf _) (by omega)).2 h2
    have e := Lx.En.abs (f := f) (n := n) (p := p) (c := 3) (by omega)
    unfold Lx.rd
    rw [if_pos h0, show Lx.lead (Rn.off f p) (n - p) 3 = Lx.En f n 3 p - p by omega]
  have hEle := Lx.En.le (f := f) (n := n) (p := p) (c := 3) hf (by omega)
  have hlen : (Rn.chl f n).length ≤ n := by
    have h9 : ∀ (fuel q : Nat), (Rn.chlFrom f n fuel q).length ≤ n - q := by
      intro fuel
      induction fuel with
      | zero => intro q; simp [Rn.chlFrom]
      | succ m ih =>
        intro q
        unfold Rn.chlFrom
        split
        · next hq =>
          have := ih (q + (Rn.dec (Rn.off f q) (n - q)).2)
          have := Lx.dec_some (Rn.off f q) (n - q) (fun _ => hf _) (by omega)
          simp only [List.length_cons]
          omega
        · simp
    exact h9 n 0
  have hR1 := hR.below ((Below.refl w.heap.size w).alloc (Nat.le_refl _) (.cells #[.int .i64 0, .string ⟨#[]⟩, .int .i64 0, .int .i64 0, .int .i64 0, .int .i64 0, .int .i64 0] 43)) (Nat.le_refl _)
  have HR := hide' hR1
  have HE := hide' (Lx.Emp.new w)
  obtain ⟨pc, cap, rfl, c1, c2, c3⟩ := hR1
  clear hR
  obtain ⟨L, hL⟩ : ∃ L, L = (Rn.chl f n).length := ⟨_, rfl⟩
  rw [← hL] at c1 c3 hi hlen ⊢
  obtain ⟨g, rfl, c4⟩ := c3 (by omega)
  obtain ⟨r, hr⟩ : ∃ r, r = (Rn.dec (Rn.off f p) (n - p)).1 := ⟨_, rfl⟩
  have pp := c4 _ _ hx
  rw [← hr] at pp h2
  have p0 : (w.alloc (.cells #[.int .i64 0, .string ⟨#[]⟩, .int .i64 0, .int .i64 0, .int .i64 0, .int .i64 0, .int .i64 0] 43)).cell? ⟨g, i * 3, none⟩ = some (.int .i64 (p : Nat)) := pp.1
  have p1 : (w.alloc (.cells #[.int .i64 0, .string ⟨#[]⟩, .int .i64 0, .int .i64 0, .int .i64 0, .int .i64 0, .int .i64 0] 43)).cell? ⟨g, i * 3 + 1, none⟩ = some (.int .i64 (r : Nat)) := pp.2
  clear pp
  have cN := refNameS_any r (w.alloc (.cells #[.int .i64 0, .string ⟨#[]⟩, .int .i64 0, .int .i64 0, .int .i64 0, .int .i64 0, .int .i64 0] 43))
  rw [h2] at cN
  have t0 : (i : Int) < (L : Int) := by omega
  have H4 := hide' c4
  have HL := hide' hL
  have HI := hide' (And.intro hI1 (And.intro hE1 (And.intro hrd (And.intro hEle hd))))
  have HP := hide' hp
  clear c3 c4 hx hI hI1 hE1 hrd hr hL h2 hEle hd hp
  go_enter Tryd.func28, Tryd.ntmps28
  go_wp2_with fail
  refine cN.mono ?_
  rintro e w1 ⟨rfl, rfl⟩
  clear cN
  go_wp2_with fail
  have HE : Hid (Lx.Emp w (w.alloc (.cells #[.int .i64 0, .string ⟨#[]⟩, .int .i64 0, .int .i64 0, .int .i64 0, .int .i64 0, .int .i64 0] 43))) := HE
  generalize (w.alloc (.cells #[.int .i64 0, .string ⟨#[]⟩, .int .i64 0, .int .i64 0, .int .i64 0, .int .i64 0, .int .i64 0] 43)) = W1 at HR HE H4 p0 p1 ⊢
  go_loopw [11] (fun v wr => ∃ k q : Nat, v = .int .i64 k ∧ Lx.Ix f n k q ∧ i < k ∧ Lx.En f n 3 q = Lx.En f n 3 p ∧ wr = W1) (fun v _ => L - (RowKit.intOf v).toNat)
  case atStart => exact ⟨i + 1, _, rfl, HI.out.1, by omega, HI.out.2.1, rfl⟩
  case round =>
    obtain ⟨k, q, rfl, hk, hik, hE, rfl⟩ := hrel
    by_cases hq : q < n
    · obtain ⟨k1, k2⟩ := hk.at_ hq
      rw [← HL.out] at k1
      have t1 : (k : Int) < (L : Int) := by omega
      have pk := (H4.out _ _ k2).2
      obtain ⟨r2, hr2⟩ : ∃ r2, r2 = (Rn.dec (Rn.off f q) (n - q)).1 := ⟨_, rfl⟩
      rw [← hr2] at pk
      have cR := refRest_any r2 wr
      cases hc : Ch.isT Ch.tab 3 r2
      · rw [hc] at cR
        rw [hr2] at hc
        have hE2 := Lx.En.stop hq hc
        have hEp : Lx.En f n 3 p = q := by rw [← hE, hE2]
        have hrd := HI.out.2.2.1
        rw [hEp] at hrd
        have cE := refEnd_any f n k q _ wr HR.out hk
        rw [← HL.out] at cE
        have hqn := hk.1
        have hpq : p ≤ q := by have := HI.out.2.2.2.1; omega
        have em := Lx.arr_mid f n p q hqn hpq
        have H9 := hide' (And.intro hrd hk)
        have g1 : (0 : Int) ≤ p := by omega
        have g2 : (p : Int) ≤ q := by omega
        have g3 : (q : Int) ≤ n := by omega
        have g4 : IntKind.i64.wrap ((k : Int) - (i : Int)) = ((k - i : Nat) : Int) := by rw [IntKind.wrap_i64]; omega
        clear hrd hE hE2 hEp hk HI H4 HL HR
        clear k2 hq hc hr2
        go_wp2_with fail
        refine cR.mono ?_
        rintro e w2 ⟨rfl, rfl⟩
        clear cR
        go_wp2_with fail
        refine cE.mono ?_
        rintro e w3 ⟨rfl, rfl⟩
        clear cE
        go_wp2_with (refine wpList_store_mid rfl 43 (.tmp 6) (.tmp 50) rfl w.heap.size 0 (Lx.wdC 0 (Rn.arr (Rn.off f p) (q - p)) 0 (0, 0, 0, 0)) rfl rfl HE.out.there Lx.wdInfo (Lx.wdOne _ _ _ _) ?_)
        exact bodyPost_ret (Lx.results_word Tryd.results28 _ ⟨w.heap.size, 0, none⟩ rfl _ _ _ _ (HE.out.load _ _ _ _) rfl rfl) rfl (Lx.wde_ok H9.out.1 (show i < k by omega) rfl hpq H9.out.2 (HE.out.fin _))
      · rw [hc] at cR
        rw [hr2] at hc
        have hE2 := Lx.En.go hf hq hc
        have hk2 := hk.next hf hq
        have HK := hide' (And.intro hk2 (hE2.symm.trans hE))
        clear k2 hq hc hr2 hE2 hk2 hE hk
        go_wp2_with fail
        refine cR.mono ?_
        rintro e w2 ⟨rfl, rfl⟩
        clear cR
        go_wp2
        exact ⟨⟨k + 1, _, rfl, HK.out.1, by omega, HK.out.2, trivial⟩, by simp [RowKit.intOf]; omega⟩
    · have k1 := hk.end_ hq
      rw [← HL.out] at k1
      have t1 : ¬ (k : Int) < (L : Int) := by omega
      have t2 : decide ((k : Int) < (L : Int)) = false := decide_eq_false t1
      have hE2 : Lx.En f n 3 q = q := by rw [Lx.En.end_ hq]; have := hk.1; omega
      have hEp : Lx.En f n 3 p = q := by rw [← hE, hE2]
      have hrd := HI.out.2.2.1
      rw [hEp] at hrd
      have cE := refEnd_any f n k q _ wr HR.out hk
      rw [← HL.out] at cE
      have hqn := hk.1
      have hpq : p ≤ q := by have := HI.out.2.2.2.1; omega
      have em := Lx.arr_mid f n p q hqn hpq
      have H9 := hide' (And.intro hrd hk)
      have g1 : (0 : Int) ≤ p := by omega
      have g2 : (p : Int) ≤ q := by omega
      have g3 : (q : Int) ≤ n := by omega
      have g4 : IntKind.i64.wrap ((k : Int) - (i : Int)) = ((k - i : Nat) : Int) := by rw [IntKind.wrap_i64]; omega
      clear hrd hE hE2 hEp hk HI H4 HL HR
      clear hq k1
      go_wp2_with fail
      refine cE.mono ?_
      rintro e w3 ⟨rfl, rfl⟩
      clear cE
      go_wp2_with (refine wpList_store_mid rfl 43 (.tmp 6) (.tmp 50) rfl w.heap.size 0 (Lx.wdC 0 (Rn.arr (Rn.off f p) (q - p)) 0 (0, 0, 0, 0)) rfl rfl HE.out.there Lx.wdInfo (Lx.wdOne _ _ _ _) ?_)
      exact bodyPost_ret (Lx.results_word Tryd.results28 _ ⟨w.heap.size, 0, none⟩ rfl _ _ _ _ (HE.out.load _ _ _ _) rfl rfl) rfl (Lx.wde_ok H9.out.1 (show i < k by omega) rfl hpq H9.out.2 (HE.out.fin _))
end Go.Proofs.YtoccedbnnafjcaaDoor
