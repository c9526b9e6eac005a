/-
  THE WALK over kleene.worth and kleene.Eval.
-/
import Derived.Test.YtipnhfnjoaoceaaKlVarM
import Derived.Test.YtipnhfnjoaoceaaKlValLaw
namespace Go.Proofs.Ytipnhfnjoaoceaa
open Go.RowKit Go.Lib Go.Sort
namespace Kl
mutual
/-- its value -/
def ev (vs : List Int) : Fm → Int
  | .mk o v n l => if o = 0 then v else if o = 1 then valL vs n else if o = 2 then andL (evs vs l) else if o = 3 then orL (evs vs l) else notT ((evs vs l).headD 0)
def evs (vs : List Int) : List Fm → List Int
  | [] => []
  | a :: l => ev vs a :: evs vs l
end
theorem evs_map (vs : List Int) : ∀ l : List Fm, evs vs l = l.map (ev vs)
  | [] => by simp [evs]
  | a :: l => by simp [evs, evs_map vs l]
theorem areG_mem {l : List Fv} (h : areG (cts l) = true) : ∀ x ∈ l, isG (ct x) = true := fun x hx => by
  induction l with
  | nil => cases hx
  | cons a l ih =>
    rw [cts] at h
    obtain ⟨h1, h2⟩ := areG_parts h
    rcases List.mem_cons.1 hx with e | e
    · rw [e]; exact h1
    · exact ih h2 e
theorem isG_four {v n : Int} {l : List Fm} (h : isG (.mk 4 v n l) = true) : l.length = 1 := by
  rw [isG] at h
  simp at h
  exact h.1.2
theorem isG_op {o v n : Int} {l : List Fm} (h : isG (.mk o v n l) = true) : o = 0 ∨ o = 1 ∨ o = 2 ∨ o = 3 ∨ o = 4 := by
  rw [isG] at h
  by_cases e0 : o = 0
  · exact .inl e0
  by_cases e1 : o = 1
  · exact .inr (.inl e1)
  by_cases e2 : o = 2
  · exact .inr (.inr (.inl e2))
  by_cases e3 : o = 3
  · exact .inr (.inr (.inr (.inl e3)))
  by_cases e4 : o = 4
  · exact .inr (.inr (.inr (.inr e4)))
  rw [if_neg e0, if_neg e1, if_neg (by omega), if_neg e4] at h
  cases h
theorem owns_bel {w w' : World} {base n k : Nat} {e : TypeId} {v : Value} {xs : List Value} (h : w.ownsRow base e k v n xs) (hg : Below w.heap.size w w') : w'.ownsRow base e k v n xs := by
  refine ⟨h.1, ?_⟩
  rcases h.2 with h0 | ⟨g, cap, cur, h1, h2, h3, h4⟩
  · exact .inl h0
  · refine .inr ⟨g, cap, cur, h1, h2, ?_, h4⟩
    have hlt : g < w.heap.size := (Array.getElem?_eq_some_iff.1 h3).1
    rw [hg.block g hlt]
    exact h3
def WoE (vv : Value) (vs : List Int) (x : Fv) : Prop := ∀ w, isG (ct x) = true → sz (ct x) ≤ 1048576 → Ok w x → Ts w vv vs → Calls Try.prog 46 #[.agg x.enc.toArray, vv] w fun r w' => r = .returned (.int .i64 (ev vs (ct x))) ∧ Below w.heap.size w w'
end Kl
set_option maxRecDepth 100000 in
set_option maxHeartbeats 4000000 in
theorem klWorth1 (pv : Option Addr) (nv cv : Nat) (vs : List Int) (o v n : Int) (p : Option Addr) (c : Nat) (l : List Kl.Fv) (ih : ∀ a ∈ l, Kl.WoE (.slice pv nv cv) vs a) : Kl.WoE (.slice pv nv cv) vs (.mk o v n p c l) := by
  intro w hG hs hx hv
  obtain ⟨i0, hi, hz0, hz1, hz2⟩ := info_parts Kl.trInfo
  obtain ⟨x1, x2, x3⟩ := hx.row
  obtain ⟨k1, hk1⟩ : ∃ k, l.length = k := ⟨_, rfl⟩
  rw [Kl.ct] at hG
  have hop := Kl.isG_op hG
  obtain ⟨g1, g2⟩ := Kl.isG_parts hG
  have hgx := Kl.areG_mem g2
  have h4 : o = 4 → k1 = 1 := fun e => by
    subst e
    have := Kl.isG_four hG
    rw [Kl.cts_len, hk1] at this
    exact this
  obtain ⟨z, hz⟩ : ∃ z, Kl.ev vs (Kl.ct (.mk o v n p c l)) = z := ⟨_, rfl⟩
  rw [hz]
  rw [Kl.ct, Kl.ev] at hz
  obtain ⟨E, hE⟩ : ∃ E, Kl.evs vs (Kl.cts l) = E := ⟨_, rfl⟩
  rw [hE] at hz
  have HE : Hid (∀ i x, l[i]? = some x → E[i]? = some (Kl.ev vs (Kl.ct x))) := fun i x hx => by rw [← hE, Kl.evs_map, Kl.cts_map, List.getElem?_map, List.getElem?_map, hx]; rfl
  have HEL : Hid (E.length = k1) := by show E.length = k1; rw [← hE, Kl.evs_map, List.length_map, Kl.cts_len, hk1]
  have hk : k1 ≤ 1048576 := by
    have h1 := Kl.szs_len (Kl.cts l)
    rw [Kl.cts_len, hk1] at h1
    rw [Kl.sz_mk] at hs
    omega
  have HSZ : Hid (∀ x ∈ l, Kl.sz (Kl.ct x) ≤ 1048576) := fun x hx => by
    have h1 := Kl.szs_mem (l := Kl.cts l) (x := Kl.ct x) (by rw [Kl.cts_map]; exact List.mem_map.2 ⟨x, hx, rfl⟩)
    rw [Kl.sz_mk] at hs
    omega
  have CV := hide' (fun h0 w' (g : Below w.heap.size w w') => klValueOf n (.slice pv nv cv) vs w' (hv.below g) h0)
  have HN : Hid (o = 1 → 0 ≤ n) := fun e => (g1 e).2.1
  have HTS := hide' hv
  have HGX := hide' hgx
  simp only [Kl.Fv.enc]
  rw [hk1] at x1 x3 ⊢
  have X3 := hide' x3
  have K1 := hide' hk1
  have IH := hide' ih
  have HZ := hide' hz
  have H4 := hide' h4
  clear x3 hk1 hx ih hz hs hv hE g1 g2 hG hgx h4
  rcases hop with rfl | rfl | hop
  · obtain rfl : v = z := HZ.out
    clear X3 IH HZ H4 HE CV HGX
    go_enter Try.func46, Try.ntmps46
    go_wp2_with fail
    go_ret
    exact ⟨rfl, (Below.refl _ _).alloc (Nat.le_refl _) _⟩
  · have CV2 := hide' (CV.out (HN.out rfl))
    have HV1 : Hid (Kl.valL vs n = z) := by have := HZ.out; show Kl.valL vs n = z; simpa using this
    rw [HV1.out] at CV2
    clear X3 IH HZ H4 HE CV HGX
    go_enter Try.func46, Try.ntmps46
    go_wp2_with (go_at_call 58; refine (CV2.out _ ((Below.refl _ _).alloc (Nat.le_refl _) _)).mono ?_; rintro r w1 ⟨rfl, rfl⟩)
    go_ret
    exact ⟨rfl, (Below.refl _ _).alloc (Nat.le_refl _) _⟩
  · have b0 : (o == 0) = false := by simp; omega
    have b1 : (o == 1) = false := by simp; omega
    have HOP := hide' hop
    obtain ⟨MC, hMC, hmk⟩ : ∃ MC : Array Value, MC.size = k1 ∧ ∀ W : World, (Instr.makeSlice 22 (.int .i64 0) (.int .i64 (k1 : Nat))).run Try.prog W = .ok (.slice (some ⟨W.heap.size, 0, none⟩) 0 k1) (W.alloc (.cells MC 23)) := by
      refine ⟨madeCells (Value.int .i64 0).cells (k1 * i0.size), by rw [size_madeCells, hz1]; omega, fun W => ?_⟩
      have h := run_make (P := Try.prog) W 22 23 i0 _ Try.underlying22 hi hz0 .i64 .i64 0 (k1 : Nat) (by omega) (by omega) (by rw [hz2]; omega) (by omega)
      simpa using h
    obtain ⟨W, hWd⟩ : ∃ W, (w.alloc (.cells #[.int .i64 o, .int .i64 v, .int .i64 n, .slice p k1 c] 37)).alloc (.cells MC 23) = W := ⟨_, rfl⟩
    have HBW : Hid (Below w.heap.size w W) := by rw [← hWd]; exact ((Below.refl _ _).alloc (Nat.le_refl _) _).alloc (by simp) _
    have HWS : Hid (W.heap.size = w.heap.size + 2) := by show W.heap.size = _; rw [← hWd]; simp
    have HO : Hid (W.ownsRow (w.heap.size + 1) 23 1 (.slice (some ⟨w.heap.size + 1, 0, none⟩) 0 k1) 0 (Kl.ic (E.take 0))) := by
      refine ⟨by simp [Kl.ic], .inr ⟨w.heap.size + 1, k1, MC, rfl, Nat.le_refl _, ?_, Nat.zero_le _, by unfold maxLen; omega, by omega, by simp [Kl.ic]⟩⟩
      rw [← hWd]
      show ((w.heap.push _).push _)[w.heap.size + 1]? = _
      rw [Array.getElem?_push, if_pos (by rw [Array.size_push])]
    have HJ0 : Hid (W.cell? ⟨w.heap.size, 0, none⟩ = some (.int .i64 o)) := by show W.cell? _ = _; rw [← hWd]; simp
    have HJ3 : Hid (W.cell? ⟨w.heap.size, 3, none⟩ = some (.slice p k1 c)) := by show W.cell? _ = _; rw [← hWd]; simp
    have HWd := hide' hWd
    clear hWd hop CV HN
    go_enter Try.func46, Try.ntmps46
    go_wp2_with fail
    rw [HWd.out]
    go_loopw [5, 27] (fun a u wr => ∃ (i : Nat), u = .int .i64 i ∧ i ≤ k1 ∧ Hid (wr.ownsRow (w.heap.size + 1) 23 1 a i (Kl.ic (E.take i))) ∧ Hid (Below (w.heap.size + 1) W wr)) (fun _ u _ => k1 - (RowKit.intOf u).toNat)
    case atStart => exact ⟨0, rfl, Nat.zero_le _, HO, Below.refl _ _⟩
    case round =>
      clear HO hmk
      obtain ⟨i, rfl, hi1, HO, HB⟩ := hrel
      have HBF : Hid (Below w.heap.size w wr) := HBW.out.trans (HB.out.mono (by omega))
      have hws : w.heap.size + 2 ≤ wr.heap.size := by have := HB.out.size; rw [HWS.out] at this; exact this
      by_cases hlt : i < k1
      · have t1 : (i : Int) < (k1 : Int) := by omega
        obtain ⟨b, o1, rfl, kx⟩ := X3.out (by omega)
        obtain ⟨x, hx⟩ := Kl.some_of (l := l) (i := i) (by rw [K1.out]; exact hlt)
        obtain ⟨rx, ox⟩ := kx i x hx
        have HX := hide' (HE.out i x hx)
        obtain ⟨g, hg⟩ : ∃ g, Kl.ev vs (Kl.ct x) = g := ⟨_, rfl⟩
        have HC := IH.out x (List.mem_of_getElem? hx)
        unfold Kl.WoE at HC
        have HC2 := hide' (fun w' (hb : Below w.heap.size w w') => HC w' (HGX.out x (List.mem_of_getElem? hx)) (HSZ.out x (List.mem_of_getElem? hx)) (ox.below hb) (HTS.out.below hb))
        rw [hg] at HC2 HX
        have HS : Hid (Kl.ic (E.take (i + 1)) = Kl.ic (E.take i) ++ [.int .i64 g]) := by show _ = _; rw [Kl.take_snoc HX.out]; simp [Kl.ic]
        obtain ⟨xo, xv, xn, xp, xc, xl⟩ := x
        obtain ⟨a0, a1, a2, a3⟩ := Kl.cells4 rx
        have hcr : ∀ {a : Addr} {u : Value}, w.cell? a = some u → wr.cell? a = some u := fun {a u} h => (HBF.out.cell (p := a) (block_lt_of_cell h)).trans h
        have q0 := hcr a0
        have q1 := hcr a1
        have q2 := hcr a2
        have q3 := hcr a3
        obtain ⟨kx', hkx⟩ : ∃ k, xl.length = k := ⟨_, rfl⟩
        simp only [Kl.Fv.enc, hkx] at HC2 q3
        have HAL : Hid (∀ ob, Below w.heap.size w (wr.alloc ob)) := fun ob => HBF.out.alloc (by omega) ob
        clear hx rx ox kx X3 hg a0 a1 a2 a3 hkx IH HC hcr
        go_wp2_with fail
        refine (HC2.out _ (HAL.out _)).mono ?_
        rintro r w1 ⟨rfl, hb1⟩
        have HB1 : Hid (Below (w.heap.size + 1) W w1) := HB.out.trans ((((Below.refl (w.heap.size + 1) wr).alloc (by omega) _).trans (hb1.mono (by simp; omega))))
        have HO1 := hide' (Kl.owns_bel (HO.out.alloc (.cells #[.int .i64 xo, .int .i64 xv, .int .i64 xn, .slice xp kx' xc] 37)) hb1)
        have hws1 : w.heap.size + 1 ≤ w1.heap.size := by have := HB1.out.size; rw [HWS.out] at this; omega
        clear hb1 HO HB q0 q1 q2 q3 HC2
        go_wp2_with (at_builtin; refine wpList_append_own _ rfl _ _ 22 rfl (w.heap.size + 1) 23 i0 (.int .i64 0) 1 8 Try.underlying22 hi hz0 hz1 hz2 rfl (by decide) _ _ _ rfl (HO1.out.alloc _) ⟨w1.heap.size, 0, none⟩ 1 1 [.int .i64 g] rfl rfl ?d1 ?d2 ?d3 ?d4 ?d5 ?_)
        case d1 => exact Kl.new_one w1 g _
        case d2 => intro u hu; simp at hu; subst hu; rfl
        case d3 => unfold maxLen; omega
        case d4 => omega
        case d5 => simp; omega
        intro v' w3 hown' hg3 _
        have HB3 : Hid (Below (w.heap.size + 1) W w3) := (HB1.out.alloc hws1 (.cells #[.int .i64 g] 23)).grown hg3 (by simp; omega) (fun j hj => (HO1.out.lt j hj).1)
        have HO3 : Hid (w3.ownsRow (w.heap.size + 1) 23 1 v' (i + 1) (Kl.ic (E.take (i + 1)))) := by rw [HS.out]; exact hown'
        clear hown' hg3 HO1 HB1
        go_wp2_with fail
        go_roundw
        case rel => exact ⟨i + 1, by go_num, by omega, HO3, HB3⟩
        case measure => simp [RowKit.intOf]; omega
      · have t1 : ¬ (i : Int) < (k1 : Int) := by omega
        obtain rfl : i = k1 := by omega
        have hT : Kl.Ts wr _ E := Kl.owns_Ts (by have := HO.out; rw [List.take_of_length_le (by rw [HEL.out]; omega)] at this; rw [HEL.out]; exact this)
        have j0 := (HB.out.cell (p := ⟨w.heap.size, 0, none⟩) (by show w.heap.size < _; omega)).trans HJ0.out
        obtain ⟨pa, ca, e, la1, la2, la3⟩ := hT
        rw [HEL.out] at e la1 la3
        subst e
        have HT : Hid (Kl.Ts wr (.slice pa i ca) E) := ⟨pa, ca, by rw [HEL.out], by rw [HEL.out]; exact la1, la2, by rw [HEL.out]; exact la3⟩
        have LA3 := hide' la3
        clear la3 HO X3 IH
        rcases HOP.out with rfl | rfl | rfl
        · obtain rfl : Kl.andL E = z := HZ.out
          have CA := hide' (klAnd _ E wr HT.out)
          go_wp2_with (go_at_call 10; refine CA.out.mono ?_; rintro r w2 ⟨rfl, rfl⟩)
          go_ret
          exact ⟨rfl, HBF.out⟩
        · obtain rfl : Kl.orL E = z := HZ.out
          have CA := hide' (klOr _ E wr HT.out)
          go_wp2_with (go_at_call 11; refine CA.out.mono ?_; rintro r w2 ⟨rfl, rfl⟩)
          go_ret
          exact ⟨rfl, HBF.out⟩
        · obtain rfl := H4.out rfl
          obtain ⟨b, o1, rfl, k⟩ := LA3.out (by omega)
          obtain ⟨y, hy⟩ : ∃ y, E = [y] := by
            have := HEL.out
            match E, this with
            | [y], _ => exact ⟨y, rfl⟩
          subst hy
          have c0 : wr.cell? ⟨b, o1, none⟩ = some (.int .i64 y) := by have := k 0 y rfl; rwa [Nat.add_zero] at this
          have hzy : Hid (Kl.notT y = z) := HZ.out
          have CN := hide' (fun w' => klNot y w')
          rw [hzy.out] at CN
          clear k LA3 HT
          go_wp2_with (go_at_call 17; refine (CN.out _).mono ?_; rintro r w2 ⟨rfl, rfl⟩)
          go_ret
          exact ⟨rfl, HBF.out⟩
theorem klWorth (vv : Value) (vs : List Int) (x : Kl.Fv) (hv : ∃ p n c, vv = .slice p n c) : Kl.WoE vv vs x := by
  obtain ⟨p, n, c, rfl⟩ := hv
  exact Kl.Fv.ind (fun o v n' p' c' l ih => klWorth1 p n c vs o v n' p' c' l ih) x
end Go.Proofs.Ytipnhfnjoaoceaa
