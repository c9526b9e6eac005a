/-
  WALKS over gimletref14.Greatest and Holds.
-/
import Derived.Test.YtipnhfnjoaoceaaKlSz
namespace Go.Proofs.Ytipnhfnjoaoceaa
open Go.RowKit Go.Lib Go.Sort
namespace Kl
mutual
/-- the greatest variable in it -/
def gre : Fm → Int
  | .mk o _ n l => gres (if o = 1 then n else -1) l
def gres : Int → List Fm → Int
  | m, [] => m
  | m, a :: l => gres (max m (gre a)) l
end
mutual
/-- is the variable in it? -/
def hol (v : Int) : Fm → Bool
  | .mk o _ n l => (o == 1 && n == v) || hols v l
def hols (v : Int) : List Fm → Bool
  | [] => false
  | a :: l => hol v a || hols v l
end
theorem gres_step {l : List Fv} {i : Nat} {x : Fv} (hx : l[i]? = some x) (m : Int) : gres m (cts (l.drop i)) = gres (max m (gre (ct x))) (cts (l.drop (i + 1))) := by
  rw [List.drop_eq_getElem_cons (List.getElem?_eq_some_iff.1 hx).1, (List.getElem?_eq_some_iff.1 hx).2]
  simp only [cts]
  rw [gres]
theorem gres_end {l : List Fv} {i : Nat} (h : l.length ≤ i) (m : Int) : gres m (cts (l.drop i)) = m := by
  rw [List.drop_eq_nil_of_le h]
  simp [cts, gres]
theorem hols_step {l : List Fv} {i : Nat} {x : Fv} (hx : l[i]? = some x) (v : Int) : hols v (cts (l.drop i)) = (hol v (ct x) || hols v (cts (l.drop (i + 1)))) := by
  rw [List.drop_eq_getElem_cons (List.getElem?_eq_some_iff.1 hx).1, (List.getElem?_eq_some_iff.1 hx).2]
  simp only [cts]
  rw [hols]
theorem hols_end {l : List Fv} {i : Nat} (h : l.length ≤ i) (v : Int) : hols v (cts (l.drop i)) = false := by
  rw [List.drop_eq_nil_of_le h]
  simp [cts, hols]
def GreE (x : Fv) : Prop := ∀ w, Ok w x → Calls Try.prog 43 #[.agg x.enc.toArray] w fun e w' => e = .returned (.int .i64 (gre (ct x))) ∧ Gr w w'
def HolE (v : Int) (x : Fv) : Prop := ∀ w, Ok w x → Calls Try.prog 44 #[.agg x.enc.toArray, .int .i64 v] w fun e w' => e = .returned (.bool (hol v (ct x))) ∧ Gr w w'
end Kl
set_option maxRecDepth 100000 in
set_option maxHeartbeats 2000000 in
theorem klGreatest1 (o v n : Int) (p : Option Addr) (c : Nat) (l : List Kl.Fv) (ih : ∀ a ∈ l, Kl.GreE a) : Kl.GreE (.mk o v n p c l) := by
  intro w hx
  obtain ⟨x1, x2, x3⟩ := hx.row
  obtain ⟨z, hz⟩ : ∃ z, Kl.gre (Kl.ct (.mk o v n p c l)) = z := ⟨_, rfl⟩
  rw [hz]
  have HR : Hid (Kl.gres (if o = 1 then n else -1) (Kl.cts (l.drop 0)) = z) := by rw [← hz, Kl.ct, Kl.gre]; exact rfl
  obtain ⟨k1, hk1⟩ : ∃ k, l.length = k := ⟨_, rfl⟩
  simp only [Kl.Fv.enc]
  rw [hk1] at x1 x3 ⊢
  obtain ⟨W, hWd⟩ : ∃ W, w.alloc (.cells #[.int .i64 o, .int .i64 v, .int .i64 n, .slice p k1 c] 37) = W := ⟨_, rfl⟩
  have HGW : Hid (Kl.Gr w W) := by rw [← hWd]; exact (Kl.Gr.refl _).alloc _
  have X3 := hide' x3
  have K1 := hide' hk1
  have IH := hide' ih
  have HWd := hide' hWd
  clear x3 hk1 hx ih hz hWd
  by_cases e1 : o = 1
  all_goals first
    | (subst e1; rw [if_pos rfl] at HR)
    | (have f1 : (o == 1) = false := by simpa using e1
       rw [if_neg e1] at HR)
  all_goals go_enter Try.func43, Try.ntmps43
  all_goals go_wp2_with fail
  all_goals rw [HWd.out]
  all_goals go_loopw [3, 14] (fun a u wr => ∃ (i : Nat) (m : Int), u = .int .i64 i ∧ a = .int .i64 m ∧ i ≤ k1 ∧ Hid (Kl.gres m (Kl.cts (l.drop i)) = z) ∧ Hid (Kl.Gr W wr)) (fun _ u _ => k1 - (RowKit.intOf u).toNat)
  all_goals first
    | exact ⟨0, _, rfl, rfl, Nat.zero_le _, HR, Kl.Gr.refl _⟩
    | (clear HR
       obtain ⟨i, m, rfl, rfl, hi1, HI, HG⟩ := hrel
       by_cases hlt : i < k1
       · have t1 : (i : Int) < (k1 : Int) := by omega
         obtain ⟨b, o1, rfl, kx⟩ := X3.out (by omega)
         obtain ⟨x, hx⟩ := Kl.some_of (l := l) (i := i) (by rw [K1.out]; exact hlt)
         obtain ⟨rx, ox⟩ := kx i x hx
         have HST := hide' (Kl.gres_step hx m)
         have HC := hide' (IH.out x (List.mem_of_getElem? hx))
         have HOX := hide' (HGW.out.ok ox)
         obtain ⟨g, hg⟩ : ∃ g, Kl.gre (Kl.ct x) = g := ⟨_, rfl⟩
         unfold Kl.GreE at HC
         rw [hg] at HC HST
         obtain ⟨xo, xv, xn, xp, xc, xl⟩ := x
         obtain ⟨a0, a1, a2, a3⟩ := Kl.cells4 rx
         have q0 := HG.out.cell (HGW.out.cell a0)
         have q1 := HG.out.cell (HGW.out.cell a1)
         have q2 := HG.out.cell (HGW.out.cell a2)
         have q3 := HG.out.cell (HGW.out.cell a3)
         obtain ⟨kx', hkx⟩ : ∃ k, xl.length = k := ⟨_, rfl⟩
         simp only [Kl.Fv.enc, hkx] at HC q3
         clear hx rx ox kx X3 hg a0 a1 a2 a3 hkx IH
         go_wp2_with (go_at_call 43; refine (HC.out _ ((HG.out.alloc _).ok HOX.out)).mono ?_; rintro e w' ⟨rfl, HGr⟩)
         go_roundw
         · exact ⟨i + 1, max m g, by go_num, by first | rfl | simp [max_def] | (simp only [Int.max_def]; split <;> rfl), by omega, HST.out.symm.trans HI.out, (HG.out.alloc _).trans HGr⟩
         · simp [RowKit.intOf]; omega
       · have t1 : ¬ (i : Int) < (k1 : Int) := by omega
         have hz : z = m := by rw [← HI.out, Kl.gres_end (by rw [K1.out]; omega)]
         subst hz
         clear X3 IH HI
         go_wp2_with fail
         go_ret
         exact ⟨rfl, HGW.out.trans HG.out⟩)
theorem klGreatest : ∀ x : Kl.Fv, Kl.GreE x := Kl.Fv.ind fun o v n p c l ih => klGreatest1 o v n p c l ih
set_option maxRecDepth 100000 in
set_option maxHeartbeats 2000000 in
theorem klHolds1 (q : Int) (o v n : Int) (p : Option Addr) (c : Nat) (l : List Kl.Fv) (ih : ∀ a ∈ l, Kl.HolE q a) : Kl.HolE q (.mk o v n p c l) := by
  intro w hx
  obtain ⟨x1, x2, x3⟩ := hx.row
  obtain ⟨z, hz⟩ : ∃ z, Kl.hol q (Kl.ct (.mk o v n p c l)) = z := ⟨_, rfl⟩
  rw [hz]
  obtain ⟨k1, hk1⟩ : ∃ k, l.length = k := ⟨_, rfl⟩
  simp only [Kl.Fv.enc]
  rw [hk1] at x1 x3 ⊢
  by_cases e0 : o = 1 ∧ n = q
  · obtain ⟨rfl, rfl⟩ := e0
    obtain rfl : z = true := by rw [← hz, Kl.ct, Kl.hol]; simp
    clear x3 hk1 hx ih hz
    go_enter Try.func44, Try.ntmps44
    go_wp2_with fail
    go_ret
    exact ⟨rfl, (Kl.Gr.refl _).alloc _⟩
  have HR : Hid (Kl.hols q (Kl.cts (l.drop 0)) = z) := by
    show _ = z
    rw [← hz, Kl.ct, Kl.hol]
    have : (o == 1 && n == q) = false := by simpa using e0
    rw [this]
    simp
  obtain ⟨W, hWd⟩ : ∃ W, w.alloc (.cells #[.int .i64 o, .int .i64 v, .int .i64 n, .slice p k1 c] 37) = W := ⟨_, rfl⟩
  have HGW : Hid (Kl.Gr w W) := by rw [← hWd]; exact (Kl.Gr.refl _).alloc _
  have X3 := hide' x3
  have K1 := hide' hk1
  have IH := hide' ih
  have HWd := hide' hWd
  clear x3 hk1 hx ih hz hWd
  by_cases e1 : o = 1
  all_goals first
    | (subst e1
       have f2 : (n == q) = false := by simpa using e0)
    | (have f1 : (o == 1) = false := by simpa using e1)
  all_goals clear e0
  all_goals go_enter Try.func44, Try.ntmps44
  all_goals go_wp2_with fail
  all_goals rw [HWd.out]
  all_goals go_loopw [19] (fun u wr => ∃ (i : Nat), u = .int .i64 i ∧ i ≤ k1 ∧ Hid (Kl.hols q (Kl.cts (l.drop i)) = z) ∧ Hid (Kl.Gr W wr)) (fun u _ => k1 - (RowKit.intOf u).toNat)
  all_goals first
    | exact ⟨0, rfl, Nat.zero_le _, HR, Kl.Gr.refl _⟩
    | (clear HR
       obtain ⟨i, rfl, hi1, HI, HG⟩ := hrel
       by_cases hlt : i < k1
       · have t1 : (i : Int) < (k1 : Int) := by omega
         obtain ⟨b, o1, rfl, kx⟩ := X3.out (by omega)
         obtain ⟨x, hx⟩ := Kl.some_of (l := l) (i := i) (by rw [K1.out]; exact hlt)
         obtain ⟨rx, ox⟩ := kx i x hx
         have HST := hide' (Kl.hols_step hx q)
         have HC := hide' (IH.out x (List.mem_of_getElem? hx))
         have HOX := hide' (HGW.out.ok ox)
         obtain ⟨g, hg⟩ : ∃ g, Kl.hol q (Kl.ct x) = g := ⟨_, rfl⟩
         unfold Kl.HolE at HC
         rw [hg] at HC HST
         obtain ⟨xo, xv, xn, xp, xc, xl⟩ := x
         obtain ⟨a0, a1, a2, a3⟩ := Kl.cells4 rx
         have q0 := HG.out.cell (HGW.out.cell a0)
         have q1 := HG.out.cell (HGW.out.cell a1)
         have q2 := HG.out.cell (HGW.out.cell a2)
         have q3 := HG.out.cell (HGW.out.cell a3)
         obtain ⟨kx', hkx⟩ : ∃ k, xl.length = k := ⟨_, rfl⟩
         simp only [Kl.Fv.enc, hkx] at HC q3
         clear hx rx ox kx X3 hg a0 a1 a2 a3 hkx IH
         cases g with
         | false =>
           go_wp2_with (go_at_call 44; refine (HC.out _ ((HG.out.alloc _).ok HOX.out)).mono ?_; rintro e w' ⟨rfl, HGr⟩)
           go_roundw
           · exact ⟨i + 1, by go_num, by omega, by have := HST.out; rw [Bool.false_or] at this; exact this.symm.trans HI.out, (HG.out.alloc _).trans HGr⟩
           · simp [RowKit.intOf]; omega
         | true =>
           have hz : z = true := by have := HST.out; rw [Bool.true_or] at this; exact HI.out.symm.trans this
           subst hz
           go_wp2_with (go_at_call 44; refine (HC.out _ ((HG.out.alloc _).ok HOX.out)).mono ?_; rintro e w' ⟨rfl, HGr⟩)
           go_ret
           exact ⟨rfl, HGW.out.trans ((HG.out.alloc _).trans HGr)⟩
       · have t1 : ¬ (i : Int) < (k1 : Int) := by omega
         have hz : z = false := by rw [← HI.out, Kl.hols_end (by rw [K1.out]; omega)]
         subst hz
         clear X3 IH HI
         go_wp2_with fail
         go_ret
         exact ⟨rfl, HGW.out.trans HG.out⟩)
theorem klHolds (q : Int) : ∀ x : Kl.Fv, Kl.HolE q x := Kl.Fv.ind fun o v n p c l ih => klHolds1 q o v n p c l ih
end Go.Proofs.Ytipnhfnjoaoceaa
