/-
  WALKS over slices.IndexFunc and slices.ContainsFunc at formulas, and over the two functions that joined hands them.
-/
import Derived.Test.YtmpmlccomgepjaaKlSpr
import Derived.Test.YtmpmlccomgepjaaKlChkB
namespace Go.Proofs.Ytmpmlccomgepjaa
open Go.RowKit Go.Lib Go.Sort
namespace Kl
theorem any_step {l : List Fv} {i : Nat} {x : Fv} (pr : Fv → Bool) (hx : l[i]? = some x) : (l.drop i).any pr = (pr x || (l.drop (i + 1)).any pr) := by
  rw [List.drop_eq_getElem_cons (List.getElem?_eq_some_iff.1 hx).1, (List.getElem?_eq_some_iff.1 hx).2]
  rfl
theorem neg_of' {k : Int} (h : 0 ≤ k ↔ false = true) : k < 0 := by simp at h; omega
theorem pos_of' {k : Int} (h : 0 ≤ k ↔ true = true) : 0 ≤ k := h.2 rfl
end Kl
set_option maxRecDepth 100000 in
set_option maxHeartbeats 2000000 in
theorem klIndexAny (g : Nat) (q : Value) (eg : ∀ args w, (callFunc g args).run Try.prog w = .ok (.enter g args) w) (pr : Kl.Fv → Bool) (pp : Option Addr) (c : Nat) (l : List Kl.Fv) (w : World) (l1 : l.length ≤ c) (l2 : c ≤ 9223372036854775807)
    (hc : 0 < l.length → ∃ b o, pp = some ⟨b, o, none⟩ ∧ ∀ i x, l[i]? = some x → w.rangeAt b (o + i * 4) x.enc) (hp : ∀ x ∈ l, ∀ W, Kl.Gr w W → Calls Try.prog g #[.agg x.enc.toArray, q] W fun e w' => e = .returned (.bool (pr x)) ∧ Kl.Gr W w') :
    Calls Try.prog 82 #[.slice pp l.length c, .func (.func g) #[] #[q]] w fun e w' => (∃ k : Int, e = .returned (.int .i64 k) ∧ (0 ≤ k ↔ l.any pr = true)) ∧ Kl.Gr w w' := by
  obtain ⟨n, hn⟩ : ∃ n, l.length = n := ⟨_, rfl⟩
  obtain ⟨t, ht⟩ : ∃ t, l.any pr = t := ⟨_, rfl⟩
  rw [hn] at l1 hc ⊢
  have H3 := hide' hc
  have HN := hide' hn
  have HP := hide' hp
  have HT : Hid ((l.drop 0).any pr = t) := ht
  rw [ht]
  clear hc hn ht hp
  go_enter Try.func82, Try.ntmps82
  go_wp2_with fail
  go_loopw [8] (fun b wr => ∃ i : Nat, i ≤ n ∧ b = .int .i64 i ∧ Hid ((l.drop i).any pr = t) ∧ Hid (Kl.Gr w wr)) (fun b _ => n - (RowKit.intOf b).toNat)
  case atStart => exact ⟨0, Nat.zero_le _, rfl, HT, Kl.Gr.refl _⟩
  case round =>
    clear HT
    obtain ⟨i, hi, rfl, HI, HG⟩ := hrel
    by_cases hlt : i < n
    · have t1 : (i : Int) < (n : Int) := by omega
      obtain ⟨b, o, rfl, k⟩ := H3.out (by omega)
      obtain ⟨x, hx⟩ := Kl.some_of (l := l) (i := i) (by rw [HN.out]; exact hlt)
      have rx := k i x hx
      have HS := hide' (Kl.any_step pr hx)
      have h5 := hide' (HP.out x (List.mem_of_getElem? hx) wr HG.out)
      obtain ⟨y, hy⟩ : ∃ y, pr x = y := ⟨_, rfl⟩
      rw [hy] at HS h5
      obtain ⟨xo, xv, xn, xp, xc, xl⟩ := x
      obtain ⟨a0, a1, a2, a3⟩ := Kl.cells4 rx
      have q0 := HG.out.cell a0
      have q1 := HG.out.cell a1
      have q2 := HG.out.cell a2
      have q3 := HG.out.cell a3
      obtain ⟨kx, hkx⟩ : ∃ k, xl.length = k := ⟨_, rfl⟩
      have ex : (Kl.Fv.mk xo xv xn xp xc xl).enc.toArray = #[.int .i64 xo, .int .i64 xv, .int .i64 xn, .slice xp kx xc] := by simp only [Kl.Fv.enc, hkx]
      simp only [hkx] at q3
      simp only [ex] at h5
      clear k hx hy H3 rx a0 a1 a2 a3 hkx ex HP
      cases y with
      | false =>
        go_wp2_with (go_at_fn g; refine h5.out.mono ?_; rintro e w' ⟨rfl, HGr⟩)
        go_roundw
        case rel => exact ⟨i + 1, by omega, by go_num, by have := HS.out; rw [Bool.false_or] at this; exact this.symm.trans HI.out, HG.out.trans HGr⟩
        case measure => simp [RowKit.intOf]; omega
      | true =>
        have ht : Hid (t = true) := by have := HS.out; rw [Bool.true_or] at this; exact HI.out.symm.trans this
        go_wp2_with (go_at_fn g; refine h5.out.mono ?_; rintro e w' ⟨rfl, HGr⟩)
        go_ret
        exact ⟨⟨i, rfl, by rw [ht.out]; simp⟩, HG.out.trans HGr⟩
    · have t1 : ¬ (i : Int) < (n : Int) := by omega
      have ht : Hid (t = false) := by have := HI.out; rw [List.drop_eq_nil_of_le (by rw [HN.out]; omega)] at this; exact this.symm
      clear H3 HI HP
      go_wp2
      go_ret
      exact ⟨⟨-1, rfl, by rw [ht.out]; simp⟩, HG.out⟩
set_option maxRecDepth 100000 in
theorem klHasAny (g : Nat) (q : Value) (eg : ∀ args w, (callFunc g args).run Try.prog w = .ok (.enter g args) w) (pr : Kl.Fv → Bool) (pp : Option Addr) (c : Nat) (l : List Kl.Fv) (w : World) (l1 : l.length ≤ c) (l2 : c ≤ 9223372036854775807)
    (hc : 0 < l.length → ∃ b o, pp = some ⟨b, o, none⟩ ∧ ∀ i x, l[i]? = some x → w.rangeAt b (o + i * 4) x.enc) (hp : ∀ x ∈ l, ∀ W, Kl.Gr w W → Calls Try.prog g #[.agg x.enc.toArray, q] W fun e w' => e = .returned (.bool (pr x)) ∧ Kl.Gr W w') :
    Calls Try.prog 73 #[.slice pp l.length c, .func (.func g) #[] #[q]] w fun e w' => e = .returned (.bool (l.any pr)) ∧ Kl.Gr w w' := by
  have C := hide' (klIndexAny g q eg pr pp c l w l1 l2 hc hp)
  obtain ⟨n, hn⟩ : ∃ n, l.length = n := ⟨_, rfl⟩
  rw [hn] at C ⊢
  clear hn hc hp eg l1
  generalize l.any pr = t at C ⊢
  cases t with
  | false =>
    go_enter Try.func73, Try.ntmps73
    go_wp2_with (go_at_call 82; refine C.out.mono ?_; rintro e w' ⟨⟨k, rfl, hk⟩, HGr⟩; have hk2 := Kl.neg_of' hk; clear hk)
    go_ret
    exact ⟨Kl.ret_bool (decide_eq_false (by omega)), HGr⟩
  | true =>
    go_enter Try.func73, Try.ntmps73
    go_wp2_with (go_at_call 82; refine C.out.mono ?_; rintro e w' ⟨⟨k, rfl, hk⟩, HGr⟩; have hk2 := Kl.pos_of' hk; clear hk)
    go_ret
    exact ⟨rfl, HGr⟩
set_option maxRecDepth 100000 in
theorem klIsSame (x : Kl.Fv) (op : Int) (B : Nat) (w : World) (hj : w.cell? ⟨B, 0, none⟩ = some (.int .i64 op)) : Calls Try.prog 71 #[.agg x.enc.toArray, .pointer (some ⟨B, 0, none⟩)] w fun e w' => e = .returned (.bool (x.op == op)) ∧ Kl.Gr w w' := by
  have hB := block_lt_of_cell hj
  have hB' : B < w.heap.size := hB
  obtain ⟨xo, xv, xn, xp, xc, xl⟩ := x
  show Calls _ _ #[.agg #[.int .i64 xo, .int .i64 xv, .int .i64 xn, .slice xp xl.length xc], _] _ fun e w' => e = .returned (.bool (xo == op)) ∧ Kl.Gr w w'
  generalize xl.length = kx
  clear hB
  by_cases h : xo = op
  · subst h
    rw [show (xo == xo) = true by simp]
    go_enter Try.func71, Try.ntmps71
    go_wp2
    go_ret
    exact ⟨rfl, (Kl.Gr.refl w).alloc _⟩
  · have hb : (xo == op) = false := by simpa using h
    rw [hb]
    clear h
    go_enter Try.func71, Try.ntmps71
    go_wp2
    go_ret
    exact ⟨rfl, (Kl.Gr.refl w).alloc _⟩
set_option maxRecDepth 100000 in
set_option maxHeartbeats 2000000 in
theorem klDiffers (x y : Kl.Fv) (B b k c : Nat) (w : World) (hx : Kl.Ok w x) (hy : Kl.Ok w y) (hk : 0 < k) (hj : w.cell? ⟨B, 0, none⟩ = some (.slice (some ⟨b, 0, none⟩) k c)) (hr : w.rangeAt b 0 y.enc) : Calls Try.prog 72 #[.agg x.enc.toArray, .pointer (some ⟨B, 0, none⟩)] w fun e w' => e = .returned (.bool (decide (Kl.cmpF (Kl.ct x) (Kl.ct y) ≠ 0))) ∧ Kl.Gr w w' := by
  have mixed : Try.prog.follows Departure.mixedOrders = true := by kernel_rfl
  have cC := fun W (g : Kl.Gr w W) => klCompared x y W (g.ok hx) (g.ok hy)
  obtain ⟨g, hg⟩ : ∃ g, Kl.cmpF (Kl.ct x) (Kl.ct y) = g := ⟨_, rfl⟩
  simp only [hg] at cC
  rw [hg]
  obtain ⟨xo, xv, xn, xp, xc, xl⟩ := x
  obtain ⟨yo, yv, yn, yp, yc, yl⟩ := y
  obtain ⟨q0, q1, q2, q3⟩ := Kl.cells4 hr
  obtain ⟨kx, hkx⟩ : ∃ k, xl.length = k := ⟨_, rfl⟩
  obtain ⟨ky, hky⟩ : ∃ k, yl.length = k := ⟨_, rfl⟩
  simp only [Kl.Fv.enc, hkx, hky] at cC ⊢
  rw [hky] at q3
  have CC := hide' cC
  have p0 := fun q os => cell_grown (block_lt_of_cell (((Kl.Gr.refl w).alloc (.cells #[.int .i64 xo, .int .i64 xv, .int .i64 xn, .slice xp kx xc] 26)).cell q0)) (((Kl.Gr.refl w).alloc (.cells #[.int .i64 xo, .int .i64 xv, .int .i64 xn, .slice xp kx xc] 26)).cell q0) q os
  have p1 := fun q os => cell_grown (block_lt_of_cell (((Kl.Gr.refl w).alloc (.cells #[.int .i64 xo, .int .i64 xv, .int .i64 xn, .slice xp kx xc] 26)).cell q1)) (((Kl.Gr.refl w).alloc (.cells #[.int .i64 xo, .int .i64 xv, .int .i64 xn, .slice xp kx xc] 26)).cell q1) q os
  have p2 := fun q os => cell_grown (block_lt_of_cell (((Kl.Gr.refl w).alloc (.cells #[.int .i64 xo, .int .i64 xv, .int .i64 xn, .slice xp kx xc] 26)).cell q2)) (((Kl.Gr.refl w).alloc (.cells #[.int .i64 xo, .int .i64 xv, .int .i64 xn, .slice xp kx xc] 26)).cell q2) q os
  have p3 := fun q os => cell_grown (block_lt_of_cell (((Kl.Gr.refl w).alloc (.cells #[.int .i64 xo, .int .i64 xv, .int .i64 xn, .slice xp kx xc] 26)).cell q3)) (((Kl.Gr.refl w).alloc (.cells #[.int .i64 xo, .int .i64 xv, .int .i64 xn, .slice xp kx xc] 26)).cell q3) q os
  have p4 := fun q os => cell_grown (block_lt_of_cell (((Kl.Gr.refl w).alloc (.cells #[.int .i64 xo, .int .i64 xv, .int .i64 xn, .slice xp kx xc] 26)).cell hj)) (((Kl.Gr.refl w).alloc (.cells #[.int .i64 xo, .int .i64 xv, .int .i64 xn, .slice xp kx xc] 26)).cell hj) q os
  simp only [Nat.zero_add] at p1 p2 p3
  have tk : (0 : Int) < (k : Int) := by omega
  clear cC hg hkx hky hx hy hr q0 q1 q2 q3 hj
  go_enter Try.func72, Try.ntmps72
  go_wp2_with fail
  generalize hW : w.alloc (.cells #[.int .i64 xo, .int .i64 xv, .int .i64 xn, .slice xp kx xc] 26) = W at p0 p1 p2 p3 p4 ⊢
  have HGW : Hid (Kl.Gr w W) := by rw [← hW]; exact (Kl.Gr.refl w).alloc _
  have b0 : ∀ q os, (grow (W.drewN q) os).cell? ⟨w.heap.size, 0, none⟩ = some (.int .i64 xo) := fun q os => cell_grown (by show _ < W.heap.size; rw [← hW]; simp) (by rw [← hW]; simp) q os
  have b1 : ∀ q os, (grow (W.drewN q) os).cell? ⟨w.heap.size, 1, none⟩ = some (.int .i64 xv) := fun q os => cell_grown (by show _ < W.heap.size; rw [← hW]; simp) (by rw [← hW]; simp) q os
  have b2 : ∀ q os, (grow (W.drewN q) os).cell? ⟨w.heap.size, 2, none⟩ = some (.int .i64 xn) := fun q os => cell_grown (by show _ < W.heap.size; rw [← hW]; simp) (by rw [← hW]; simp) q os
  have b3 : ∀ q os, (grow (W.drewN q) os).cell? ⟨w.heap.size, 3, none⟩ = some (.slice xp kx xc) := fun q os => cell_grown (by show _ < W.heap.size; rw [← hW]; simp) (by rw [← hW]; simp) q os
  have HQ : Hid (∀ q os, Calls Try.prog 27 #[.agg #[.int .i64 xo, .int .i64 xv, .int .i64 xn, .slice xp kx xc], .agg #[.int .i64 yo, .int .i64 yv, .int .i64 yn, .slice yp ky yc]] (grow (W.drewN q) os) fun e w' => e = .returned (.int .i64 g) ∧ Kl.Gr (grow (W.drewN q) os) w') := fun q os => CC.out _ (HGW.out.trans ⟨q, os, rfl⟩)
  clear hW CC
  go_quiet_grown (first | (go_at_call 27; refine Calls.grown_of (HQ.out _ _)))
  have HG2 : Hid (Kl.Gr w (grow (W.drewN nq) osq)) := HGW.out.trans ⟨nq, osq, rfl⟩
  clear p0 p1 p2 p3 p4 b0 b1 b2 b3 HQ
  go_wp2_with fail
  go_ret
  exact ⟨Kl.ret_bool (by by_cases c : g = 0 <;> simp [c]), HG2.out⟩
end Go.Proofs.Ytmpmlccomgepjaa
