/-
  THE WALK over (join).of.
-/
import Derived.Test.YtmpmlccomgepjaaKlDen
namespace Go.Proofs.Ytmpmlccomgepjaa
open Go.RowKit Go.Lib Go.Sort
namespace Kl
def LseOf (vv : Value) (vs : List Int) (a : Fv) (w : World) : Prop := ∀ W, Below w.heap.size w W → Calls Try.prog 18 #[.agg a.enc.toArray, vv] W fun r w' => LseE W (lse vs (ct a)) r w'
theorem fin4 {w W w3 : World} {y : Fv} {f : Fm} (hb : Below w.heap.size w W) (hz : W.heap.size = w.heap.size + 2) (h3 : Below W.heap.size W w3) (hlo : Lo w3 y) (hct : ct y = f) (hfp : ∀ b ∈ fp y, W.heap.size ≤ b) (a b c d : Value) :
    LseE w f (.returned (.agg y.enc.toArray)) ((((w3.setCell ⟨w.heap.size + 1, 0, none⟩ a).setCell ⟨w.heap.size + 1, 1, none⟩ b).setCell ⟨w.heap.size + 1, 2, none⟩ c).setCell ⟨w.heap.size + 1, 3, none⟩ d) := by
  have hc : Chs [w.heap.size + 1] w3 ((((w3.setCell ⟨w.heap.size + 1, 0, none⟩ a).setCell ⟨w.heap.size + 1, 1, none⟩ b).setCell ⟨w.heap.size + 1, 2, none⟩ c).setCell ⟨w.heap.size + 1, 3, none⟩ d) := by
    refine Chs.setc (Chs.setc (Chs.setc (Chs.setc (Chs.of_below (Below.refl _ _)) (.inr ?_) _) (.inr ?_) _) (.inr ?_) _) (.inr ?_) _
    all_goals simp
  refine ⟨y, rfl, hlo.keep hc fun b hb hc => ?_, hct, fun b hb => ?_, ?_⟩
  · have := hfp b hb
    simp at hc
    omega
  · have := hfp b hb
    omega
  · have h4 : Below w.heap.size w w3 := hb.trans (h3.mono (by omega))
    refine Below.setCell (Below.setCell (Below.setCell (Below.setCell h4 ?_ _) ?_ _) ?_ _) ?_ _
    all_goals exact Nat.le_succ _
theorem LseE.alloc {w w' : World} {f : Fm} {r : Ending} (h : LseE w f r w') (hs : w.heap.size ≤ w'.heap.size) (o : Obj) : LseE w f r (w'.alloc o) := by
  obtain ⟨y, h1, h2, h3, h4, h5⟩ := h
  exact ⟨y, h1, h2.keep (Chs.of_below (L := []) ((Below.refl _ _).alloc (Nat.le_refl _) o)) fun _ _ => by simp, h3, h4, h5.alloc hs o⟩
theorem ofM_found {op id st : Int} {fs : List Fm} {i : Nat} {f : Fm} (hn : (fs.take i).any (isC st) = false) (hf : fs[i]? = some f) (hs : isC st f = true) : ofM op id st fs = f := by
  have hi := (List.getElem?_eq_some_iff.1 hf).1
  have hmem : f ∈ fs := List.mem_of_getElem? hf
  unfold ofM
  rw [if_pos (List.any_eq_true.2 ⟨f, hmem, hs⟩)]
  have : fs.find? (isC st) = some f := by
    rw [← List.take_append_drop i fs, List.find?_append, List.find?_eq_none.2 fun x hx => by simpa using List.any_eq_false.1 hn x hx]
    rw [List.drop_eq_getElem_cons hi, (List.getElem?_eq_some_iff.1 hf).2]
    simp [hs]
  rw [this]
  rfl
theorem ofM_rest {op id st : Int} {fs : List Fm} (hn : fs.any (isC st) = false) : ofM op id st fs = rst op id (lft id fs) := by
  unfold ofM
  rw [if_neg (by simp [hn])]
theorem isC_ct {y : Fv} {f : Fm} (h : ct y = f) {yo yv yn : Int} {yp : Option Addr} {ky yc : Nat} (he : y.enc = [.int .i64 yo, .int .i64 yv, .int .i64 yn, .slice yp ky yc]) (v : Int) : isC v f = (yo == 0 && yv == v) := by
  obtain ⟨o, v', n, p, c, l⟩ := y
  simp only [Fv.enc, List.cons.injEq, Value.int.injEq, true_and] at he
  rw [← h, ct_mk]
  unfold isC
  simp only [Fm.op, Fm.va, he.1, he.2.1]
end Kl
set_option maxRecDepth 100000 in
set_option maxHeartbeats 4000000 in
theorem klOf (op id st : Int) (p : Option Addr) (c : Nat) (l : List Kl.Fv) (vv : Value) (vs : List Int) (w : World) (l1 : l.length ≤ c) (l2 : c ≤ 9223372036854775807) (hc : 0 < l.length → ∃ b o, p = some ⟨b, o, none⟩ ∧ ∀ i x, l[i]? = some x → w.rangeAt b (o + i * 4) x.enc)
    (hv : Kl.Ts w vv vs) (ih : ∀ a ∈ l, Kl.LseOf vv vs a w) (hs : Kl.szs (l.map Kl.ct) ≤ 1048576) (ho : op = 2 ∨ op = 3) :
    Calls Try.prog 34 #[.agg #[.int .i64 op, .int .i64 id, .int .i64 st], .slice p l.length c, vv] w fun r w' => Kl.LseE w (Kl.ofM op id st (Kl.lses vs (l.map Kl.ct))) r w' := by
  obtain ⟨pv, cv, rfl, _⟩ := hv
  obtain ⟨nv, hnv⟩ : ∃ nv, vs.length = nv := ⟨_, rfl⟩
  obtain ⟨W, hWd⟩ : ∃ W, (w.alloc (.cells #[.int .i64 op, .int .i64 id, .int .i64 st] 61)).alloc (.cells #[.int .i64 0, .int .i64 0, .int .i64 0, .slice none 0 0] 26) = W := ⟨_, rfl⟩
  have HBW : Hid (Below w.heap.size w W) := by rw [← hWd]; exact ((Below.refl _ _).alloc (Nat.le_refl _) _).alloc (by simp) _
  have SZW : Hid (W.heap.size = w.heap.size + 2) := by show W.heap.size = _; rw [← hWd]; simp
  have HJ0 : Hid (W.cell? ⟨w.heap.size, 0, none⟩ = some (.int .i64 op)) := by show W.cell? _ = _; rw [← hWd]; simp
  have HJ1 : Hid (W.cell? ⟨w.heap.size, 1, none⟩ = some (.int .i64 id)) := by show W.cell? _ = _; rw [← hWd]; simp
  have HJ2 : Hid (W.cell? ⟨w.heap.size, 2, none⟩ = some (.int .i64 st)) := by show W.cell? _ = _; rw [← hWd]; simp
  have HD0 : Hid (W.cell? ⟨w.heap.size + 1, 0, none⟩ = some (.int .i64 0)) := by show W.cell? _ = _; rw [← hWd]; simp
  have HD1 : Hid (W.cell? ⟨w.heap.size + 1, 1, none⟩ = some (.int .i64 0)) := by show W.cell? _ = _; rw [← hWd]; simp
  have HD2 : Hid (W.cell? ⟨w.heap.size + 1, 2, none⟩ = some (.int .i64 0)) := by show W.cell? _ = _; rw [← hWd]; simp
  have HD3 : Hid (W.cell? ⟨w.heap.size + 1, 3, none⟩ = some (.slice none 0 0)) := by show W.cell? _ = _; rw [← hWd]; simp
  have HF : Hid (∀ o, W.frozen? ⟨w.heap.size + 1, o, none⟩ = false) := fun o => by rw [← hWd]; simp
  obtain ⟨n, hn⟩ : ∃ n, l.length = n := ⟨_, rfl⟩
  obtain ⟨fs, hfs⟩ : ∃ fs, Kl.lses vs (l.map Kl.ct) = fs := ⟨_, rfl⟩
  have HFS : Hid (∀ i x, l[i]? = some x → fs[i]? = some (Kl.lse vs (Kl.ct x))) := fun i x hx => by rw [← hfs, Kl.lses_map, List.getElem?_map, List.getElem?_map, hx]; rfl
  have HFL : Hid (fs.length = n) := by show fs.length = n; rw [← hfs, Kl.lses_map, List.length_map, List.length_map]; exact hn
  have HSZ : Hid (Kl.szs fs ≤ 1048576) := by show Kl.szs fs ≤ _; rw [← hfs]; exact Nat.le_trans (Kl.lses_sz vs _) hs
  rw [hfs, hn, hnv]
  rw [hn] at l1 hc
  have HN := hide' hn
  have HC := hide' hc
  have HO := hide' ho
  have IH := hide' ih
  have HWd := hide' hWd
  unfold Kl.LseOf at IH
  simp only [hnv] at IH
  clear hn hc hs ho ih hWd hfs hnv
  go_enter Try.func34, Try.ntmps34
  go_wp2_with fail
  rw [HWd.out]
  go_loopw [7, 13] (fun a z wr => ∃ (i : Nat) (Q : List Kl.Fv), z = .int .i64 i ∧ i ≤ n ∧ Hid (Kl.Of W id st fs i Q a wr)) (fun _ z _ => n - (RowKit.intOf z).toNat)
  case atStart => exact ⟨0, [], rfl, Nat.zero_le _, ⟨.inl ⟨rfl, rfl⟩, rfl, rfl, (fun x hx => by cases hx), (fun i j x y _ hx => by simp at hx), (fun g hg => by cases hg), (fun b hb => by simp [Kl.fps] at hb), Below.refl _ _⟩⟩
  case round =>
    obtain ⟨i, Q, rfl, hi, HP⟩ := hrel
    have hrc : ∀ {a : Addr} {u : Value}, a.block < w.heap.size + 2 → W.cell? a = some u → wr.cell? a = some u := fun {a u} ha h => (HP.out.bel.cell (p := a) (by rw [SZW.out]; exact ha)).trans h
    have j0 := hrc (by show w.heap.size < _; omega) HJ0.out
    have j1 := hrc (by show w.heap.size < _; omega) HJ1.out
    have j2 := hrc (by show w.heap.size < _; omega) HJ2.out
    have d0 := hrc (by show w.heap.size + 1 < _; omega) HD0.out
    have d1 := hrc (by show w.heap.size + 1 < _; omega) HD1.out
    have d2 := hrc (by show w.heap.size + 1 < _; omega) HD2.out
    have d3 := hrc (by show w.heap.size + 1 < _; omega) HD3.out
    have d4 : ∀ o, wr.frozen? ⟨w.heap.size + 1, o, none⟩ = false := fun o => (HP.out.bel.frozen (p := ⟨w.heap.size + 1, o, none⟩) (by rw [SZW.out]; show w.heap.size + 1 < _; omega)).trans (HF.out o)
    have hzw : w.heap.size + 1 < wr.heap.size := by have := HP.out.bel.size; rw [SZW.out] at this; omega
    clear hrc
    obtain ⟨pa, ca, rfl, la1, la2⟩ := HP.out.row.form
    obtain ⟨ka, hka⟩ : ∃ k, Q.length = k := ⟨_, rfl⟩
    have HKA := hide' hka
    rw [hka] at la1 HP
    simp only [hka]
    have HQL : Hid (ka ≤ 1048576) := by
      show ka ≤ _
      have h1 := Kl.szs_len (Q.map Kl.ct)
      rw [HP.out.con] at h1
      have h2 := Kl.lft_sz id (fs.take i)
      have h3 : Kl.szs (fs.take i) ≤ Kl.szs fs := by
        conv => rhs; rw [← List.take_append_drop i fs, Kl.szs_app]
        omega
      have h4 := HSZ.out
      rw [← HP.out.con, List.length_map, hka] at h1
      rw [← HP.out.con] at h2
      omega
    clear hka
    by_cases hlt : i < n
    · have t1 : (i : Int) < (n : Int) := by omega
      obtain ⟨b, o, rfl, kx⟩ := HC.out (by omega)
      obtain ⟨x, hx⟩ := Kl.some_of (l := l) (i := i) (by rw [HN.out]; exact hlt)
      have rx := kx i x hx
      have HFX := hide' (HFS.out i x hx)
      obtain ⟨f, hf⟩ : ∃ f, Kl.lse vs (Kl.ct x) = f := ⟨_, rfl⟩
      have cL : Calls Try.prog 18 #[.agg x.enc.toArray, .slice pv nv cv] (wr.alloc (.cells x.enc.toArray 26)) fun r w' => ∃ (y : Kl.Fv) (yo yv yn : Int) (yp : Option Addr) (ky yc : Nat), r = .returned (.agg #[.int .i64 yo, .int .i64 yv, .int .i64 yn, .slice yp ky yc]) ∧ Hid (y.enc = [.int .i64 yo, .int .i64 yv, .int .i64 yn, .slice yp ky yc]) ∧ Hid (Kl.Lo w' y ∧ Kl.ct y = f ∧ (∀ b ∈ Kl.fp y, wr.heap.size ≤ b) ∧ Below wr.heap.size wr w') := by
        have hb1 : Below wr.heap.size wr (wr.alloc (.cells x.enc.toArray 26)) := (Below.refl _ _).alloc (Nat.le_refl _) _
        refine (IH.out x (List.mem_of_getElem? hx) _ ((HBW.out.trans (HP.out.bel.mono HBW.out.size)).trans (hb1.mono (by have := HP.out.bel.size; have := HBW.out.size; omega)))).mono fun r w' h => ?_
        obtain ⟨y, h1, h2, h3, h4, h5⟩ := h
        obtain ⟨yo, yv, yn, yp, yc, yl⟩ := y
        exact ⟨.mk yo yv yn yp yc yl, yo, yv, yn, yp, yl.length, yc, h1, rfl, h2, h3.trans hf, fun b hb => by have := h4 b hb; simp at this; omega, hb1.trans (h5.mono hb1.size)⟩
      rw [hf] at HFX
      obtain ⟨xo, xv, xn, xp, xc, xl⟩ := x
      obtain ⟨kx', hkx⟩ : ∃ k, xl.length = k := ⟨_, rfl⟩
      obtain ⟨a0, a1, a2, a3⟩ := Kl.cells4 rx
      have hcr : ∀ {a : Addr} {u : Value}, w.cell? a = some u → wr.cell? a = some u := fun {a u} h => ((HBW.out.trans (HP.out.bel.mono HBW.out.size)).cell (p := a) (block_lt_of_cell h)).trans h
      have q0 := hcr a0
      have q1 := hcr a1
      have q2 := hcr a2
      have q3 := hcr a3
      have ex : (Kl.Fv.mk xo xv xn xp xc xl).enc.toArray = #[.int .i64 xo, .int .i64 xv, .int .i64 xn, .slice xp kx' xc] := by simp only [Kl.Fv.enc, hkx]
      simp only [hkx] at q3
      simp only [ex] at cL
      have CL := hide' cL
      clear a0 a1 a2 a3 rx kx hx hf hcr ex hkx cL
      go_wp2_with fail
      refine CL.out.mono ?_
      rintro r w1 ⟨y, yo, yv, yn, yp, ky, yc, rfl, HYE, HY⟩
      obtain ⟨y1, y2, y3, y4⟩ := HY.out
      obtain ⟨rc, rf⟩ := Kl.bc y4
      have hzw1 : w.heap.size + 1 < w1.heap.size := by have := y4.size; omega
      have hzw0 : w.heap.size < w1.heap.size := by omega
      have j0' := (rc w.heap.size 0 (by omega)).trans j0
      have j1' := (rc w.heap.size 1 (by omega)).trans j1
      have j2' := (rc w.heap.size 2 (by omega)).trans j2
      have d0' := (rc (w.heap.size + 1) 0 (by omega)).trans d0
      have d1' := (rc (w.heap.size + 1) 1 (by omega)).trans d1
      have d2' := (rc (w.heap.size + 1) 2 (by omega)).trans d2
      have d3' := (rc (w.heap.size + 1) 3 (by omega)).trans d3
      have d4' : ∀ o, w1.frozen? ⟨w.heap.size + 1, o, none⟩ = false := fun o => (rf (w.heap.size + 1) o (by omega)).trans (d4 o)
      have HCS := hide' (Kl.isC_ct y2 HYE.out st)
      have HCI := hide' (Kl.isC_ct y2 HYE.out id)
      have hal : Below w1.heap.size w1 (w1.alloc (.cells #[.int .i64 yo, .int .i64 yv, .int .i64 yn, .slice yp ky yc] 26)) := (Below.refl _ _).alloc (Nat.le_refl _) _
      have HAL := hide' hal
      clear rc rf y1 y2 y3 y4 j0 j1 j2 d0 d1 d2 d3 d4 q0 q1 q2 q3 CL hal
      by_cases e0 : yo = 0
      · subst e0
        by_cases e1 : yv = st
        · subst e1
          have hcs : Kl.isC yv f = true := by rw [HCS.out]; simp
          have HR := hide' (Kl.ofM_found (op := op) (id := id) HP.out.non HFX.out hcs)
          clear hcs
          go_wp2_with fail
          refine bodyPost_ret (v := .agg #[.int .i64 0, .int .i64 yv, .int .i64 yn, .slice yp ky yc]) (by simp [results, Try.results34, go_sem, d0', d1', d2', d3', hzw1]) rfl ?_
          have hbl := HP.out.bel.trans (HY.out.2.2.2.mono HP.out.bel.size)
          have hfin := Kl.fin4 (f := f) HBW.out SZW.out hbl HY.out.1 HY.out.2.1 (fun b hb => Nat.le_trans HP.out.bel.size (HY.out.2.2.1 b hb)) (.int .i64 0) (.int .i64 yv) (.int .i64 yn) (.slice yp ky yc)
          rw [HYE.out] at hfin
          rw [HR.out]
          exact hfin.alloc (by simp [World.setCell]; omega) _
        · have f1 : (yv == st) = false := by simpa using e1
          have hcs : Hid (Kl.isC st f = false) := by show Kl.isC st f = false; rw [HCS.out]; simp [f1]
          clear e1
          by_cases e2 : yv = id
          · subst e2
            have hci : Hid (Kl.isC yv f = true) := by show Kl.isC yv f = true; rw [HCI.out]; simp
            go_wp2_with fail
            go_roundw
            case rel => exact ⟨i + 1, Q, by go_num, by omega, (HP.out.grow (HY.out.2.2.2.trans (HAL.out.mono HY.out.2.2.2.size))).skip HFX.out hcs.out hci.out⟩
            case measure => simp [RowKit.intOf]; omega
          · have f2 : (yv != id) = true := by simpa using e2
            have hci : Hid (Kl.isC id f = false) := by show Kl.isC id f = false; rw [HCI.out]; simp [e2]
            clear e2
            go_wp2_with (first | (at_builtin; refine Kl.wpList_app rfl (.tmp 43) (.tmp 45) rfl (.slice pa ka ca) (.slice (some ⟨w1.heap.size + 1, 0, none⟩) 1 1) Q [y] rfl rfl ?c1 ?c2 ?c3 ?_))
            case c1 => exact (HP.out.grow ((HY.out.2.2.2.trans (HAL.out.mono HY.out.2.2.2.size)).alloc (by have := HY.out.2.2.2.size; simp; omega) _)).row
            case c2 => exact .inr ⟨_, 0, 1, rfl, fun j z hz => by
              match j, hz with
              | 0, hz =>
                simp at hz
                subst hz
                rw [HYE.out]
                intro t u hu
                match t, hu with
                | 0, hu => simp at hu; subst hu; simp
                | 1, hu => simp at hu; subst hu; simp
                | 2, hu => simp at hu; subst hu; simp
                | 3, hu => simp at hu; subst hu; simp
                | t + 4, hu => simp at hu⟩
            case c3 => have := HQL.out; rw [HKA.out]; simp; omega
            intro v' w2 ap gb hat
            have HSP : Hid (Kl.Of W id st fs (i + 1) (Q ++ [y]) v' w2) := HP.out.put HFX.out hcs.out hci.out ((HY.out.2.2.2.trans (HAL.out.mono HY.out.2.2.2.size)).alloc (by have := HY.out.2.2.2.size; simp; omega) _) (HY.out.1.keep (Kl.Chs.of_below (L := []) (HAL.out.alloc (by simp) _)) fun _ _ => by simp) HY.out.2.1 HY.out.2.2.1 ap gb (by simpa using hat)
            clear ap gb hat j0' j1' j2' d0' d1' d2' d3' d4' HYE HCS HCI HAL HY
            go_wp2_with fail
            go_roundw
            case rel => exact ⟨i + 1, Q ++ [y], by go_num, by omega, HSP⟩
            case measure => simp [RowKit.intOf]; omega
      · have f0 : (yo == 0) = false := by simpa using e0
        have f1 : (yo != 0) = true := by simpa using e0
        have hcs : Hid (Kl.isC st f = false) := by show Kl.isC st f = false; rw [HCS.out]; simp [f0]
        have hci : Hid (Kl.isC id f = false) := by show Kl.isC id f = false; rw [HCI.out]; simp [f0]
        clear e0
        go_wp2_with (first | (at_builtin; refine Kl.wpList_app rfl (.tmp 43) (.tmp 45) rfl (.slice pa ka ca) (.slice (some ⟨w1.heap.size + 1, 0, none⟩) 1 1) Q [y] rfl rfl ?e1 ?e2 ?e3 ?_))
        case e1 => exact (HP.out.grow ((HY.out.2.2.2.trans (HAL.out.mono HY.out.2.2.2.size)).alloc (by have := HY.out.2.2.2.size; simp; omega) _)).row
        case e2 => exact .inr ⟨_, 0, 1, rfl, fun j z hz => by
          match j, hz with
          | 0, hz =>
            simp at hz
            subst hz
            rw [HYE.out]
            intro t u hu
            match t, hu with
            | 0, hu => simp at hu; subst hu; simp
            | 1, hu => simp at hu; subst hu; simp
            | 2, hu => simp at hu; subst hu; simp
            | 3, hu => simp at hu; subst hu; simp
            | t + 4, hu => simp at hu⟩
        case e3 => have := HQL.out; rw [HKA.out]; simp; omega
        intro v' w2 ap gb hat
        have HSP : Hid (Kl.Of W id st fs (i + 1) (Q ++ [y]) v' w2) := HP.out.put HFX.out hcs.out hci.out ((HY.out.2.2.2.trans (HAL.out.mono HY.out.2.2.2.size)).alloc (by have := HY.out.2.2.2.size; simp; omega) _) (HY.out.1.keep (Kl.Chs.of_below (L := []) (HAL.out.alloc (by simp) _)) fun _ _ => by simp) HY.out.2.1 HY.out.2.2.1 ap gb (by simpa using hat)
        clear ap gb hat j0' j1' j2' d0' d1' d2' d3' d4' HYE HCS HCI HAL HY
        go_wp2_with fail
        go_roundw
        case rel => exact ⟨i + 1, Q ++ [y], by go_num, by omega, HSP⟩
        case measure => simp [RowKit.intOf]; omega
    · have t1 : ¬ (i : Int) < (n : Int) := by omega
      obtain rfl : i = n := by omega
      have hcon := HP.out.con
      have hnon := HP.out.non
      rw [List.take_of_length_le (by rw [HFL.out]; omega)] at hcon hnon
      have HR := hide' (Kl.ofM_rest (op := op) (id := id) hnon)
      rw [← hcon] at HR
      clear hcon hnon HC IH HFS HFL
      have hzw0 : w.heap.size < wr.heap.size := by omega
      match Q with
      | [] =>
        obtain rfl : ka = 0 := HKA.out.symm
        go_wp2_with (first | (go_at_call 30; refine (klConstant _ _).mono ?_; rintro r w1 ⟨rfl, hb1⟩; obtain ⟨hc, hf⟩ := Kl.bc hb1; have hz1 : w.heap.size + 1 < w1.heap.size := (by have := hb1.size; omega); have HB := hide' hb1; clear hb1))
        refine bodyPost_ret (v := .agg #[.int .i64 0, .int .i64 id, .int .i64 0, .slice none 0 0]) (by simp [results, Try.results34, go_sem, hc, hzw, d0, d1, d2, d3]) rfl ?_
        rw [HR.out]
        exact Kl.fin4 (y := .mk 0 id 0 none 0 []) HBW.out SZW.out (HP.out.bel.trans (HB.out.mono HP.out.bel.size)) (Kl.lo_leaf _ _ _ _ (.inl rfl)) (by rw [Kl.ct_mk]; rfl) (by rw [Kl.fp_leaf]; simp) _ _ _ _
      | [y] =>
        obtain rfl : ka = 1 := HKA.out.symm
        obtain ⟨g, rfl, hrw⟩ : ∃ g, pa = some ⟨g, 0, none⟩ ∧ Kl.Rw wr g ca 1 (Kl.nth [y]) := by
          rcases HP.out.row with ⟨e, _⟩ | ⟨g, cap, e, hr⟩
          · cases e
          · cases e; exact ⟨g, rfl, hr⟩
        have hr := hrw.rng 0 (by omega)
        rw [show Kl.nth [y] 0 = y from rfl] at hr
        have HFIN : Hid (∀ a b c d, Kl.LseE w (Kl.ofM op id st fs) (.returned (.agg y.enc.toArray)) ((((wr.setCell ⟨w.heap.size + 1, 0, none⟩ a).setCell ⟨w.heap.size + 1, 1, none⟩ b).setCell ⟨w.heap.size + 1, 2, none⟩ c).setCell ⟨w.heap.size + 1, 3, none⟩ d)) := fun a b c d => by
          rw [HR.out]
          exact Kl.fin4 HBW.out SZW.out HP.out.bel (HP.out.lo y (by simp)) rfl (fun b hb => HP.out.lowb b (by simp [Kl.fps, hb])) a b c d
        obtain ⟨yo, yv, yn, yp, yc, yl⟩ := y
        obtain ⟨p0, p1, p2, p3⟩ := Kl.cells4 hr
        obtain ⟨ky, hky⟩ : ∃ k, yl.length = k := ⟨_, rfl⟩
        rw [hky] at p3
        have ex : (Kl.Fv.mk yo yv yn yp yc yl).enc.toArray = #[.int .i64 yo, .int .i64 yv, .int .i64 yn, .slice yp ky yc] := by simp only [Kl.Fv.enc, hky]
        simp only [ex] at HFIN
        simp only [Nat.zero_mul, Nat.zero_add] at p0 p1 p2 p3
        clear hr hrw hky ex
        go_wp2_with fail
        refine bodyPost_ret (v := .agg #[.int .i64 yo, .int .i64 yv, .int .i64 yn, .slice yp ky yc]) (by simp [results, Try.results34, go_sem, d0, d1, d2, d3]) rfl ?_
        exact HFIN.out _ _ _ _
      | y :: z :: Q' =>
        have hk2 : 2 ≤ ka := by have := HKA.out; simp at this; omega
        obtain ⟨g, rfl, hrw⟩ : ∃ g, pa = some ⟨g, 0, none⟩ ∧ Kl.Rw wr g ca (y :: z :: Q').length (Kl.nth (y :: z :: Q')) := by
          rcases HP.out.row with ⟨_, e⟩ | ⟨g, cap, e, hr⟩
          · cases e
          · cases e; exact ⟨g, rfl, hr⟩
        have hsz : Kl.szs ((y :: z :: Q').map Kl.ct) ≤ 1048576 := by
          rw [HP.out.con]
          have h2 := Kl.lft_sz id (fs.take i)
          have h3 : Kl.szs (fs.take i) ≤ Kl.szs fs := by
            conv => rhs; rw [← List.take_append_drop i fs, Kl.szs_app]
            omega
          have h4 := HSZ.out
          omega
        have cJ := klJoined op id st g ca (y :: z :: Q') wr hrw HP.out.lo HP.out.dj (HP.out.gp g rfl).1 hsz HO.out (by simp)
        have HJO : Calls Try.prog 46 #[.agg #[.int .i64 op, .int .i64 id, .int .i64 st], .slice (some ⟨g, 0, none⟩) ka ca] wr fun r w' => ∃ (x : Kl.Fv) (yo yv yn : Int) (yp : Option Addr) (ky yc : Nat), r = .returned (.agg #[.int .i64 yo, .int .i64 yv, .int .i64 yn, .slice yp ky yc]) ∧ Hid (x.enc = [.int .i64 yo, .int .i64 yv, .int .i64 yn, .slice yp ky yc]) ∧ Hid (Kl.Lo w' x ∧ Kl.ct x = Kl.ofM op id st fs ∧ (∀ b ∈ Kl.fp x, W.heap.size ≤ b) ∧ Below W.heap.size W w') := by
          rw [HKA.out] at cJ
          refine cJ.mono fun r w' h => ?_
          obtain ⟨x, h1, h2, h3, h4, h5⟩ := h
          obtain ⟨yo, yv, yn, yp, yc, yl⟩ := x
          refine ⟨.mk yo yv yn yp yc yl, yo, yv, yn, yp, yl.length, yc, h1, rfl, h2, ?_, fun b hb => ?_, HP.out.bel.trans (h5.below (fun b hb => HP.out.lowb b hb) HP.out.bel.size)⟩
          · rw [HR.out, h3]; rfl
          · rcases h4 b hb with q | q
            · exact HP.out.lowb b q
            · have := HP.out.bel.size; omega
        have CJ := hide' HJO
        have n0 : ((ka : Int) == 0) = false := by simp; omega
        have n1 : ((ka : Int) == 1) = false := by simp; omega
        clear hrw hsz cJ HJO
        go_wp2_with fail
        refine CJ.out.mono ?_
        rintro r w1 ⟨x, yo, yv, yn, yp, ky, yc, rfl, HYE, HY⟩
        obtain ⟨rc, rf⟩ := Kl.bc HY.out.2.2.2
        have hsw := SZW.out
        have d0' := (rc (w.heap.size + 1) 0 (by omega)).trans HD0.out
        have d1' := (rc (w.heap.size + 1) 1 (by omega)).trans HD1.out
        have d2' := (rc (w.heap.size + 1) 2 (by omega)).trans HD2.out
        have d3' := (rc (w.heap.size + 1) 3 (by omega)).trans HD3.out
        have d4' : ∀ o, w1.frozen? ⟨w.heap.size + 1, o, none⟩ = false := fun o => (rf (w.heap.size + 1) o (by omega)).trans (HF.out o)
        clear rc rf hsw CJ
        go_wp2_with fail
        refine bodyPost_ret (v := .agg #[.int .i64 yo, .int .i64 yv, .int .i64 yn, .slice yp ky yc]) (by simp [results, Try.results34, go_sem, d0', d1', d2', d3']) rfl ?_
        have hfin := Kl.fin4 HBW.out SZW.out HY.out.2.2.2 HY.out.1 HY.out.2.1 HY.out.2.2.1 (.int .i64 yo) (.int .i64 yv) (.int .i64 yn) (.slice yp ky yc)
        rw [HYE.out] at hfin
        exact hfin
end Go.Proofs.Ytmpmlccomgepjaa
