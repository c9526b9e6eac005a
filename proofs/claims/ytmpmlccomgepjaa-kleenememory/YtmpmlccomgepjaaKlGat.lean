/-
  THE WALK over kleene.gathered.
-/
import Derived.Test.YtmpmlccomgepjaaKlVarM
import Derived.Test.YtmpmlccomgepjaaKlVal
namespace Go.Proofs.Ytmpmlccomgepjaa
open Go.RowKit Go.Lib Go.Sort
namespace Kl
theorem Ok.under {w w' : World} {x : Fv} {base : Nat} (h : Ok w x) (hb : Below base w w') (hf : ∀ b ∈ fp x, b < base) : Ok w' x := h.imp x fun a _ ha e => (hb.cell (p := a) (hf _ ha)).trans e
def GatE (x : Fv) : Prop := ∀ (base : Nat) (a : Value) (L : List Int) w, (∀ b ∈ fp x, b < base) → base ≤ w.heap.size → L.length + sz (ct x) ≤ 1048576 → Ok w x → w.ownsRow base 3 1 a L.length (ic L) →
  Calls Try.prog 20 #[a, .agg x.enc.toArray] w fun r w' => ∃ a', r = .returned a' ∧ Hid (w'.ownsRow base 3 1 a' (L ++ gat (ct x)).length (ic (L ++ gat (ct x)))) ∧ Hid (Below base w w')
theorem gats_step {l : List Fv} {i : Nat} {x : Fv} (hx : l[i]? = some x) : gats (cts (l.drop i)) = gat (ct x) ++ gats (cts (l.drop (i + 1))) := by
  rw [List.drop_eq_getElem_cons (List.getElem?_eq_some_iff.1 hx).1, (List.getElem?_eq_some_iff.1 hx).2]
  simp only [cts]
  rw [gats]
theorem gats_end {l : List Fv} {i : Nat} (h : l.length ≤ i) : gats (cts (l.drop i)) = [] := by
  rw [List.drop_eq_nil_of_le h]
  simp [cts, gats]
theorem ic_app (l m : List Int) : ic (l ++ m) = ic l ++ ic m := by simp [ic]
end Kl
set_option maxRecDepth 100000 in
set_option maxHeartbeats 2000000 in
theorem klGathered1 (o v n : Int) (p : Option Addr) (c : Nat) (l : List Kl.Fv) (ih : ∀ a ∈ l, Kl.GatE a) : Kl.GatE (.mk o v n p c l) := by
  intro base a L w hf hbs hs hx hown
  obtain ⟨i0, hi, hz0, hz1, hz2⟩ := info_parts Kl.inInfo
  obtain ⟨x1, x2, x3⟩ := hx.row
  obtain ⟨k1, hk1⟩ : ∃ k, l.length = k := ⟨_, rfl⟩
  obtain ⟨kl, hkl⟩ : ∃ k, L.length = k := ⟨_, rfl⟩
  obtain ⟨Z, hZ⟩ : ∃ Z, L ++ Kl.gat (Kl.ct (.mk o v n p c l)) = Z := ⟨_, rfl⟩
  rw [hZ]
  rw [Kl.sz_mk] at hs
  rw [Kl.ct, Kl.gat] at hZ
  simp only [Kl.Fv.enc]
  rw [hk1] at x1 x3 ⊢
  by_cases e1 : o = 1
  · subst e1
    rw [if_pos rfl] at hZ
    have HO := hide' hown
    have HKL := hide' hkl
    have HZ : Hid (Z.length = kl + 1 ∧ Kl.ic Z = Kl.ic L ++ [.int .i64 n]) := by
      rw [← hZ]
      exact ⟨by simp [hkl], by rw [Kl.ic_app]; rfl⟩
    have hkb : kl < 1048576 := by omega
    clear x3 hk1 hx ih hZ hown hf hs hkl
    go_enter Try.func20, Try.ntmps20
    go_wp2_with (at_builtin; refine wpList_append_own _ rfl _ _ 39 rfl base 3 i0 (.int .i64 0) 1 8 Try.underlying39 hi hz0 hz1 hz2 rfl (by decide) _ L.length (Kl.ic L) rfl ((HO.out.alloc _).alloc _) ⟨w.heap.size + 1, 0, none⟩ 1 1 [.int .i64 n] rfl rfl ?d1 ?d2 ?d3 ?d4 ?d5 ?_)
    case d1 => have h := Kl.new_one (w.alloc (.cells #[.int .i64 1, .int .i64 v, .int .i64 n, .slice p k1 c] 26)) n 3; simpa using h
    case d2 => intro u hu; simp at hu; subst hu; rfl
    case d3 => rw [HKL.out]; unfold maxLen; omega
    case d4 => rw [HKL.out]; omega
    case d5 => simp; omega
    intro v' w3 hown' hg3 _
    have HB3 : Hid (Below base w w3) := ((((Below.refl base w).alloc hbs (.cells #[.int .i64 1, .int .i64 v, .int .i64 n, .slice p k1 c] 26)).alloc (by simp; omega) (.cells #[.int .i64 n] 3)).grown hg3 (by simp; omega) (fun j hj => (HO.out.lt j hj).1))
    have HO3 : Hid (w3.ownsRow base 3 1 v' Z.length (Kl.ic Z)) := by rw [HZ.out.1, HZ.out.2, ← HKL.out]; exact hown'
    clear hown' hg3
    go_wp2_with fail
    go_ret
    exact ⟨_, rfl, HO3, HB3⟩
  · have f1 : (o == 1) = false := by simpa using e1
    rw [if_neg e1] at hZ
    obtain ⟨W, hWd⟩ : ∃ W, w.alloc (.cells #[.int .i64 o, .int .i64 v, .int .i64 n, .slice p k1 c] 26) = W := ⟨_, rfl⟩
    have HBW : Hid (Below base w W) := by rw [← hWd]; exact (Below.refl base w).alloc hbs _
    have HO : Hid (W.ownsRow base 3 1 a L.length (Kl.ic L)) := by rw [← hWd]; exact hown.alloc _
    have HR : Hid (L ++ Kl.gats (Kl.cts (l.drop 0)) = Z) := hZ
    have HS : Hid (L.length + Kl.szs (Kl.cts (l.drop 0)) ≤ 1048576) := by show _ ≤ _; rw [List.drop_zero]; omega
    have HBS : Hid (base ≤ W.heap.size) := by show _ ≤ W.heap.size; rw [← hWd]; simp; omega
    have X3 := hide' x3
    have K1 := hide' hk1
    have IH := hide' ih
    have HF := hide' hf
    have HWd := hide' hWd
    clear x3 hk1 hx ih hZ hown hf hs hkl hWd e1
    go_enter Try.func20, Try.ntmps20
    go_wp2_with fail
    rw [HWd.out]
    go_loopw [0, 18] (fun a u wr => ∃ (i : Nat) (L' : List Int), u = .int .i64 i ∧ i ≤ k1 ∧ Hid (L' ++ Kl.gats (Kl.cts (l.drop i)) = Z) ∧ Hid (L'.length + Kl.szs (Kl.cts (l.drop i)) ≤ 1048576) ∧ Hid (wr.ownsRow base 3 1 a L'.length (Kl.ic L')) ∧ Hid (Below base w wr) ∧ Hid (base ≤ wr.heap.size)) (fun _ u _ => k1 - (RowKit.intOf u).toNat)
    case atStart => exact ⟨0, L, rfl, Nat.zero_le _, HR, HS, HO, HBW, HBS⟩
    case round =>
      clear HR HS HO
      obtain ⟨i, L', rfl, hi1, HI, HS, HO, HB, HBZ⟩ := hrel
      by_cases hlt : i < k1
      · have t1 : (i : Int) < (k1 : Int) := by omega
        obtain ⟨b, o1, rfl, kx⟩ := X3.out (by omega)
        obtain ⟨x, hx⟩ := Kl.some_of (l := l) (i := i) (by rw [K1.out]; exact hlt)
        obtain ⟨rx, ox⟩ := kx i x hx
        have HG := hide' (Kl.gats_step hx)
        have HSS := hide' (Kl.szs_step hx)
        have hfx : ∀ b' ∈ Kl.fp x, b' < base := fun b' hb' => HF.out b' (by
          unfold Kl.fp
          exact List.mem_append_right _ ((Kl.fps_mem l b').2 ⟨x, List.mem_of_getElem? hx, hb'⟩))
        have hbb : b < base := HF.out b (by
          unfold Kl.fp
          exact List.mem_append_left _ (Kl.pb_mem (by rw [K1.out]; omega)))
        have HC := hide' (IH.out x (List.mem_of_getElem? hx))
        unfold Kl.GatE at HC
        have HC2 : Hid (∀ ob, Calls Try.prog 20 #[_, .agg x.enc.toArray] (wr.alloc ob) _) := fun ob => HC.out base _ L' (wr.alloc ob) hfx (by simp; have := HBZ.out; omega) (by have := HS.out; rw [HSS.out] at this; omega) ((ox.under HB.out hfx).below ((Below.refl _ _).alloc (Nat.le_refl _) ob)) (HO.out.alloc ob)
        obtain ⟨G, hG⟩ : ∃ G, Kl.gat (Kl.ct x) = G := ⟨_, rfl⟩
        have HGL : Hid (G.length ≤ Kl.sz (Kl.ct x)) := by rw [← hG]; exact Kl.gat_len _
        have HN1 : Hid ((L' ++ G) ++ Kl.gats (Kl.cts (l.drop (i + 1))) = Z) := by
          show _ = Z
          rw [← HI.out, HG.out, hG, List.append_assoc]
        have HN2 : Hid ((L' ++ G).length + Kl.szs (Kl.cts (l.drop (i + 1))) ≤ 1048576) := by
          show _ ≤ _
          have h1 := HS.out
          have h2 := HGL.out
          rw [HSS.out] at h1
          rw [List.length_append]
          omega
        simp only [hG] at HC2
        obtain ⟨xo, xv, xn, xp, xc, xl⟩ := x
        obtain ⟨a0, a1, a2, a3⟩ := Kl.cells4 rx
        have q0 := (HB.out.cell (p := ⟨b, o1 + i * 4, none⟩) hbb).trans a0
        have q1 := (HB.out.cell (p := ⟨b, o1 + i * 4 + 1, none⟩) hbb).trans a1
        have q2 := (HB.out.cell (p := ⟨b, o1 + i * 4 + 2, none⟩) hbb).trans a2
        have q3 := (HB.out.cell (p := ⟨b, o1 + i * 4 + 3, none⟩) hbb).trans a3
        obtain ⟨kx', hkx⟩ : ∃ k, xl.length = k := ⟨_, rfl⟩
        simp only [Kl.Fv.enc, hkx] at HC2 q3
        clear hx rx ox kx X3 hG a0 a1 a2 a3 hkx IH HC HI HS HO HG HSS HGL hfx hbb
        go_wp2_with (go_at_call 20; refine (HC2.out _).mono ?_; rintro e w' ⟨a', rfl, HO', HB'⟩)
        go_roundw
        case rel => exact ⟨i + 1, L' ++ G, by go_num, by omega, HN1, HN2, HO', (HB.out.alloc HBZ.out _).trans HB'.out, by have := HB'.out.size; simp at this; have := HBZ.out; show base ≤ _; omega⟩
        case measure => simp [RowKit.intOf]; omega
      · have t1 : ¬ (i : Int) < (k1 : Int) := by omega
        have hz : L' = Z := by rw [← HI.out, Kl.gats_end (by rw [K1.out]; omega), List.append_nil]
        subst hz
        clear X3 IH HI HS
        go_wp2_with fail
        go_ret
        exact ⟨_, rfl, HO, HB⟩
theorem klGathered : ∀ x : Kl.Fv, Kl.GatE x := Kl.Fv.ind fun o v n p c l ih => klGathered1 o v n p c l ih
end Go.Proofs.Ytmpmlccomgepjaa
