/-
  WALKS over gimletref11.Same and sameAll: are two paths alike? (Made by gen_aksame.py.)
-/
import Derived.Test.YtcnagbkdckipnaaGreatDoorAkMem
import Derived.BigGuard
namespace Go.Proofs.YtcnagbkdckipnaaGreatDoor
open Go.RowKit Go.Lib
namespace Ak
mutual
/-- do they say the same? -/
def eS : Sp → Sp → Bool | .mk ax te nm wh, .mk ax' te' nm' wh' => decide (ax = ax') && (decide (te = te') && (decide (nm.toList = nm'.toList) && eXs wh wh'))
def eX : Xp → Xp → Bool | .mk op ar st aa cm tx nu, .mk op' ar' st' aa' cm' tx' nu' => decide (op = op') && (decide (aa.toList = aa'.toList) && (decide (cm = cm') && (decide (tx.toList = tx'.toList) && (decide (nu = nu') && (eSs st st' && eXs ar ar')))))
def eXs : List Xp → List Xp → Bool
  | [], [] => true
  | a :: l, b :: m => eX a b && eXs l m
  | _, _ => false
def eSs : List Sp → List Sp → Bool
  | [], [] => true
  | a :: l, b :: m => eS a b && eSs l m
  | _, _ => false
end
theorem eXs_len : ∀ (l m : List Xp), l.length ≠ m.length → eXs l m = false
  | [], [], h => absurd rfl h
  | [], _ :: _, _ => by simp [eXs]
  | _ :: _, [], _ => by simp [eXs]
  | a :: l, b :: m, h => by unfold eXs; rw [eXs_len l m (fun e => h (by simp [e])), Bool.and_false]
theorem eSs_len : ∀ (l m : List Sp), l.length ≠ m.length → eSs l m = false
  | [], [], h => absurd rfl h
  | [], _ :: _, _ => by simp [eSs]
  | _ :: _, [], _ => by simp [eSs]
  | a :: l, b :: m, h => by unfold eSs; rw [eSs_len l m (fun e => h (by simp [e])), Bool.and_false]
theorem eXs_step (l m : List Xv) (i : Nat) (x y : Xv) (h : l[i]? = some x) (k : m[i]? = some y) : eXs (cXs (l.drop i)) (cXs (m.drop i)) = (eX (cX x) (cX y) && eXs (cXs (l.drop (i + 1))) (cXs (m.drop (i + 1)))) := by
  obtain ⟨hi, rfl⟩ := List.getElem?_eq_some_iff.1 h
  obtain ⟨ki, rfl⟩ := List.getElem?_eq_some_iff.1 k
  rw [List.drop_eq_getElem_cons hi, List.drop_eq_getElem_cons ki, cXs, cXs, eXs]
theorem eSs_step (l m : List Sv) (i : Nat) (x y : Sv) (h : l[i]? = some x) (k : m[i]? = some y) : eSs (cSs (l.drop i)) (cSs (m.drop i)) = (eS (cS x) (cS y) && eSs (cSs (l.drop (i + 1))) (cSs (m.drop (i + 1)))) := by
  obtain ⟨hi, rfl⟩ := List.getElem?_eq_some_iff.1 h
  obtain ⟨ki, rfl⟩ := List.getElem?_eq_some_iff.1 k
  rw [List.drop_eq_getElem_cons hi, List.drop_eq_getElem_cons ki, cSs, cSs, eSs]
/-- what is asked of sameAll, of Same -/
def SmL (l : List Xv) : Prop := ∀ (W : World) p c (m : List Xv) q d, RowX W p c l → RowX W q d m → Calls Tryz.prog 24 #[.slice p l.length c, .slice q m.length d] W fun r w' => r = .returned (.bool (eXs (cXs l) (cXs m))) ∧ Below W.heap.size W w'
def SmR (l : List Sv) : Prop := ∀ (W : World) p c (m : List Sv) q d, RowS W p c l → RowS W q d m → Calls Tryz.prog 8 #[.agg #[.slice p l.length c], .agg #[.slice q m.length d]] W fun r w' => r = .returned (.bool (eSs (cSs l) (cSs m))) ∧ Below W.heap.size W w'
def sWh : Sv → List Xv | .mk _ _ _ _ _ l => l
def xAr : Xv → List Xv | .mk _ _ _ l _ _ _ _ _ _ _ => l
def xSt : Xv → List Sv | .mk _ _ _ _ _ _ l _ _ _ _ => l
end Ak
set_option maxRecDepth 100000 in
set_option maxHeartbeats 4000000 in
theorem akSame (l : List Ak.Sv) (ih : ∀ a ∈ l, Ak.SmL (Ak.sWh a)) : Ak.SmR l := by
  intro W p c m q d hR hQ
  obtain ⟨h1, h2, h3⟩ := hR
  obtain ⟨k1, k2, k3⟩ := hQ
  obtain ⟨n, hn⟩ : ∃ n, l.length = n := ⟨_, rfl⟩
  obtain ⟨n', hn'⟩ : ∃ n', m.length = n' := ⟨_, rfl⟩
  obtain ⟨ans, hans⟩ : ∃ ans, Ak.eSs (Ak.cSs l) (Ak.cSs m) = ans := ⟨_, rfl⟩
  rw [hans]
  rw [hn] at h1 h3 ⊢
  rw [hn'] at k1 k3 ⊢
  have HB0 : Hid (Below W.heap.size W ((W.alloc (.cells #[.slice p n c] 25)).alloc (.cells #[.slice q n' d] 25))) := ((Below.refl _ _).alloc (Nat.le_refl _) _).alloc (by simp) _
  by_cases hne : n = n'
  rotate_left
  · have ha : ans = false := by rw [← hans]; exact Ak.eSs_len _ _ (by rw [Ak.cSs_map, Ak.cSs_map, List.length_map, List.length_map, hn, hn']; exact hne)
    subst ha
    have HB0b := hide' HB0.out
    have hne' : ((n : Int) == (n' : Int)) = false := by simp; omega
    clear h3 k3 hn hn' hans ih
    go_enter Tryz.func8, Tryz.ntmps8
    go_wp2_with fail
    go_ret
    exact ⟨rfl, HB0b.out⟩
  subst hne
  have HN := hide' hn
  have HM := hide' hn'
  have H3 := hide' h3
  have K3 := hide' k3
  have IH := hide' ih
  have HBX : Hid (((W.alloc (.cells #[.slice p n c] 25)).alloc (.cells #[.slice q n d] 25)).cell? ⟨W.heap.size, 0, none⟩ = some (.slice p n c) ∧ ((W.alloc (.cells #[.slice p n c] 25)).alloc (.cells #[.slice q n d] 25)).cell? ⟨W.heap.size + 1, 0, none⟩ = some (.slice q n d)) := by
    constructor
    · rw [Lib.cell_of_heap ((Below.heap_alloc _ _ _ (by simp)).trans (heap_alloc_new W _))]; rfl
    · have h9 := heap_alloc_new (W.alloc (.cells #[.slice p n c] 25)) (.cells #[.slice q n d] 25)
      rw [World.size_alloc] at h9
      rw [Lib.cell_of_heap h9]; rfl
  have HST : Hid (Ak.eSs (Ak.cSs (l.drop 0)) (Ak.cSs (m.drop 0)) = ans) := by rw [List.drop_zero, List.drop_zero]; exact hans
  clear h3 k3 hn hn' hans ih
  go_enter Tryz.func8, Tryz.ntmps8
  go_wp2_with fail
  go_loopw [18] (fun v wr => ∃ i : Nat, v = .int .i64 i ∧ i ≤ n ∧ Hid (Ak.eSs (Ak.cSs (l.drop i)) (Ak.cSs (m.drop i)) = ans) ∧ Hid (Below W.heap.size W wr) ∧ Hid (wr.cell? ⟨W.heap.size, 0, none⟩ = some (.slice p n c) ∧ wr.cell? ⟨W.heap.size + 1, 0, none⟩ = some (.slice q n d))) (fun v _ => n - (RowKit.intOf v).toNat)
  case atStart => exact ⟨0, rfl, Nat.zero_le _, HST, HB0, HBX⟩
  case round =>
    obtain ⟨i, rfl, hi, HA, HB, HX0⟩ := hrel
    clear HST HB0 HBX
    by_cases hlt : i < n
    · have t1 : (i : Int) < (n : Int) := by omega
      have t0 : (0 : Int) ≤ i := by omega
      obtain ⟨b, o, rfl, hel⟩ := H3.out (by omega)
      obtain ⟨b', o', rfl, hel'⟩ := K3.out (by omega)
      obtain ⟨x, hx⟩ : ∃ x, l[i]? = some x := ⟨_, List.getElem?_eq_getElem (by rw [HN.out]; exact hlt)⟩
      obtain ⟨y, hy⟩ : ∃ y, m[i]? = some y := ⟨_, List.getElem?_eq_getElem (by rw [HM.out]; exact hlt)⟩
      obtain ⟨hrg, hok⟩ := hel i x hx
      obtain ⟨hrg', hok'⟩ := hel' i y hy
      have hcl := IH.out x (List.mem_of_getElem? hx)
      have hst := Ak.eSs_step l m i x y hx hy
      rw [HA.out] at hst
      obtain ⟨ax, te, nm, pw, cw, lw⟩ := x
      obtain ⟨ax', te', nm', pw', cw', lw'⟩ := y
      have hrow := hok.row
      have hrow' := hok'.row
      unfold Ak.cS Ak.eS at hst
      obtain ⟨r, hr⟩ : ∃ r, Ak.eXs (Ak.cXs lw) (Ak.cXs lw') = r := ⟨_, rfl⟩
      rw [hr] at hst
      obtain ⟨lx, hlx⟩ : ∃ lx, lw.length = lx := ⟨_, rfl⟩
      obtain ⟨ly, hly⟩ : ∃ ly, lw'.length = ly := ⟨_, rfl⟩
      have q0 : wr.cell? ⟨b, o + i * 4, none⟩ = some (.int .i64 ax) := by
        have h9 := hrg 0 _ rfl
        exact (HB.out.cell (p := ⟨b, o + i * 4, none⟩) (block_lt_of_cell h9)).trans h9
      have q1 : wr.cell? ⟨b, o + i * 4 + 1, none⟩ = some (.int .i64 te) := by
        have h9 := hrg 1 _ rfl
        exact (HB.out.cell (p := ⟨b, o + i * 4 + 1, none⟩) (block_lt_of_cell h9)).trans h9
      have q2 : wr.cell? ⟨b, o + i * 4 + 2, none⟩ = some (.string nm) := by
        have h9 := hrg 2 _ rfl
        exact (HB.out.cell (p := ⟨b, o + i * 4 + 2, none⟩) (block_lt_of_cell h9)).trans h9
      have q3 : wr.cell? ⟨b, o + i * 4 + 3, none⟩ = some (.slice pw lw.length cw) := by
        have h9 := hrg 3 _ rfl
        exact (HB.out.cell (p := ⟨b, o + i * 4 + 3, none⟩) (block_lt_of_cell h9)).trans h9
      have hb1 : Below W.heap.size W (wr.alloc (.cells #[.int .i64 ax, .int .i64 te, .string nm, .slice pw lx cw] 61)) := HB.out.alloc HB.out.size _
      have r0 : (wr.alloc (.cells #[.int .i64 ax, .int .i64 te, .string nm, .slice pw lx cw] 61)).cell? ⟨b', o' + i * 4, none⟩ = some (.int .i64 ax') := by
        have h9 := hrg' 0 _ rfl
        exact (hb1.cell (p := ⟨b', o' + i * 4, none⟩) (block_lt_of_cell h9)).trans h9
      have r1 : (wr.alloc (.cells #[.int .i64 ax, .int .i64 te, .string nm, .slice pw lx cw] 61)).cell? ⟨b', o' + i * 4 + 1, none⟩ = some (.int .i64 te') := by
        have h9 := hrg' 1 _ rfl
        exact (hb1.cell (p := ⟨b', o' + i * 4 + 1, none⟩) (block_lt_of_cell h9)).trans h9
      have r2 : (wr.alloc (.cells #[.int .i64 ax, .int .i64 te, .string nm, .slice pw lx cw] 61)).cell? ⟨b', o' + i * 4 + 2, none⟩ = some (.string nm') := by
        have h9 := hrg' 2 _ rfl
        exact (hb1.cell (p := ⟨b', o' + i * 4 + 2, none⟩) (block_lt_of_cell h9)).trans h9
      have r3 : (wr.alloc (.cells #[.int .i64 ax, .int .i64 te, .string nm, .slice pw lx cw] 61)).cell? ⟨b', o' + i * 4 + 3, none⟩ = some (.slice pw' lw'.length cw') := by
        have h9 := hrg' 3 _ rfl
        exact (hb1.cell (p := ⟨b', o' + i * 4 + 3, none⟩) (block_lt_of_cell h9)).trans h9
      have u0 := HX0.out.1
      have u1 := HX0.out.2
      have u2 : (wr.alloc (.cells #[.int .i64 ax, .int .i64 te, .string nm, .slice pw lx cw] 61)).cell? ⟨W.heap.size + 1, 0, none⟩ = some (.slice (some ⟨b', o', none⟩) n d) := (((Below.refl wr.heap.size wr).alloc (Nat.le_refl _) (.cells #[.int .i64 ax, .int .i64 te, .string nm, .slice pw lx cw] 61)).cell (p := ⟨W.heap.size + 1, 0, none⟩) (block_lt_of_cell u1)).trans u1
      have hb2 : Below W.heap.size W ((wr.alloc (.cells #[.int .i64 ax, .int .i64 te, .string nm, .slice pw lx cw] 61)).alloc (.cells #[.int .i64 ax', .int .i64 te', .string nm', .slice pw' ly cw'] 61)) := hb1.alloc hb1.size _
      have HX2 : Hid (∀ W', Below ((wr.alloc (.cells #[.int .i64 ax, .int .i64 te, .string nm, .slice pw lx cw] 61)).alloc (.cells #[.int .i64 ax', .int .i64 te', .string nm', .slice pw' ly cw'] 61)).heap.size ((wr.alloc (.cells #[.int .i64 ax, .int .i64 te, .string nm, .slice pw lx cw] 61)).alloc (.cells #[.int .i64 ax', .int .i64 te', .string nm', .slice pw' ly cw'] 61)) W' → W'.cell? ⟨W.heap.size, 0, none⟩ = some (.slice (some ⟨b, o, none⟩) n c) ∧ W'.cell? ⟨W.heap.size + 1, 0, none⟩ = some (.slice (some ⟨b', o', none⟩) n d)) := fun W' hb => by
        have hc : Below wr.heap.size wr W' := (((Below.refl wr.heap.size wr).alloc (Nat.le_refl _) _).alloc (by simp) _).trans (hb.mono (by simp; omega))
        exact ⟨(hc.cell (p := ⟨W.heap.size, 0, none⟩) (block_lt_of_cell u0)).trans u0, (hc.cell (p := ⟨W.heap.size + 1, 0, none⟩) (block_lt_of_cell u1)).trans u1⟩
      have hC := hcl ((wr.alloc (.cells #[.int .i64 ax, .int .i64 te, .string nm, .slice pw lx cw] 61)).alloc (.cells #[.int .i64 ax', .int .i64 te', .string nm', .slice pw' ly cw'] 61)) pw cw lw' pw' cw' (hrow.below hb2) (hrow'.below hb2)
      dsimp only [Ak.sWh] at hC
      rw [hr, hlx, hly] at hC
      rw [hlx] at q3
      rw [hly] at r3
      have HC := hide' hC
      have HB2 := hide' hb2
      have HST := hide' hst
      have HLT := hide' hlt
      clear hel hel' hrg hrg' hok hok' hcl hst hlx hly hr hC hb1 hb2 hrow hrow' hx hy H3 K3 IH HA HB hlt HX0
      by_cases g_ax : ax = ax'
      rotate_left
      · have ha : ans = false := by rw [HST.out]; simp [g_ax]
        subst ha
        have g2 : (ax == ax') = false := by simpa using g_ax
        go_wp2_with fail
        go_ret
        exact ⟨rfl, HB2.out⟩
      subst g_ax
      by_cases g_te : te = te'
      rotate_left
      · have ha : ans = false := by rw [HST.out]; simp [g_te]
        subst ha
        have g2 : (te == te') = false := by simpa using g_te
        go_wp2_with fail
        go_ret
        exact ⟨rfl, HB2.out⟩
      subst g_te
      by_cases g_nm : nm.toList = nm'.toList
      rotate_left
      · have ha : ans = false := by rw [HST.out]; simp [g_nm]
        subst ha
        have g2 : (nm.toList == nm'.toList) = false := by simpa using g_nm
        go_wp2_with fail
        go_ret
        exact ⟨rfl, HB2.out⟩
      have g3_nm : (nm.toList == nm'.toList) = true := by simpa using g_nm
      go_wp2_with fail
      refine HC.out.mono ?_
      rintro e w6 ⟨rfl, hb6⟩
      have HB6 := hide' (HB2.out.trans (hb6.mono HB2.out.size))
      have HX6 := hide' (HX2.out w6 hb6)
      clear hb6
      cases r
      · have ha : ans = false := by rw [HST.out]; simp
        subst ha
        go_wp2_with fail
        go_ret
        exact ⟨rfl, HB6.out⟩
      have ha : Ak.eSs (Ak.cSs (l.drop (i + 1))) (Ak.cSs (m.drop (i + 1))) = ans := by rw [HST.out]; simp [g_nm]
      have HA2 := hide' ha
      have tw : IntKind.i64.wrap ((i : Int) + 1) = (i : Int) + 1 := by rw [IntKind.wrap_i64]; omega
      clear ha
      go_wp2_with fail
      exact ⟨⟨i + 1, rfl, HLT.out, HA2, HB6, HX6⟩, by have := HLT.out; simp [RowKit.intOf]; omega⟩
    · have t1 : ¬ (i : Int) < (n : Int) := by omega
      have ha : ans = true := by rw [← HA.out, List.drop_eq_nil_of_le (by have := HN.out; omega), List.drop_eq_nil_of_le (by have := HM.out; omega)]; simp [Ak.cSs, Ak.eSs]
      subst ha
      go_wp2_with fail
      go_ret
      exact ⟨rfl, HB.out⟩
set_option maxRecDepth 100000 in
set_option maxHeartbeats 4000000 in
theorem akSameAll (l : List Ak.Xv) (ih : ∀ a ∈ l, Ak.SmL (Ak.xAr a)) (is : ∀ a ∈ l, Ak.SmR (Ak.xSt a)) : Ak.SmL l := by
  intro W p c m q d hR hQ
  obtain ⟨h1, h2, h3⟩ := hR
  obtain ⟨k1, k2, k3⟩ := hQ
  obtain ⟨n, hn⟩ : ∃ n, l.length = n := ⟨_, rfl⟩
  obtain ⟨n', hn'⟩ : ∃ n', m.length = n' := ⟨_, rfl⟩
  obtain ⟨ans, hans⟩ : ∃ ans, Ak.eXs (Ak.cXs l) (Ak.cXs m) = ans := ⟨_, rfl⟩
  rw [hans]
  rw [hn] at h1 h3 ⊢
  rw [hn'] at k1 k3 ⊢
  have HB0 : Hid (Below W.heap.size W W) := Below.refl _ _
  by_cases hne : n = n'
  rotate_left
  · have ha : ans = false := by rw [← hans]; exact Ak.eXs_len _ _ (by rw [Ak.cXs_map, Ak.cXs_map, List.length_map, List.length_map, hn, hn']; exact hne)
    subst ha
    have HB0b := hide' HB0.out
    have hne' : ((n : Int) == (n' : Int)) = false := by simp; omega
    clear h3 k3 hn hn' hans ih is
    go_enter Tryz.func24, Tryz.ntmps24
    go_wp2_with fail
    go_ret
    exact ⟨rfl, HB0b.out⟩
  subst hne
  have HN := hide' hn
  have HM := hide' hn'
  have H3 := hide' h3
  have K3 := hide' k3
  have IH := hide' ih
  have IS := hide' is
  have HST : Hid (Ak.eXs (Ak.cXs (l.drop 0)) (Ak.cXs (m.drop 0)) = ans) := by rw [List.drop_zero, List.drop_zero]; exact hans
  clear h3 k3 hn hn' hans ih is
  go_enter Tryz.func24, Tryz.ntmps24
  go_wp2_with fail
  go_loopw [15] (fun v wr => ∃ i : Nat, v = .int .i64 i ∧ i ≤ n ∧ Hid (Ak.eXs (Ak.cXs (l.drop i)) (Ak.cXs (m.drop i)) = ans) ∧ Hid (Below W.heap.size W wr)) (fun v _ => n - (RowKit.intOf v).toNat)
  case atStart => exact ⟨0, rfl, Nat.zero_le _, HST, HB0⟩
  case round =>
    obtain ⟨i, rfl, hi, HA, HB⟩ := hrel
    clear HST HB0
    by_cases hlt : i < n
    · have t1 : (i : Int) < (n : Int) := by omega
      have t0 : (0 : Int) ≤ i := by omega
      obtain ⟨b, o, rfl, hel⟩ := H3.out (by omega)
      obtain ⟨b', o', rfl, hel'⟩ := K3.out (by omega)
      obtain ⟨x, hx⟩ : ∃ x, l[i]? = some x := ⟨_, List.getElem?_eq_getElem (by rw [HN.out]; exact hlt)⟩
      obtain ⟨y, hy⟩ : ∃ y, m[i]? = some y := ⟨_, List.getElem?_eq_getElem (by rw [HM.out]; exact hlt)⟩
      obtain ⟨hrg, hok⟩ := hel i x hx
      obtain ⟨hrg', hok'⟩ := hel' i y hy
      have hcl := IH.out x (List.mem_of_getElem? hx)
      have hcr := IS.out x (List.mem_of_getElem? hx)
      have hst := Ak.eXs_step l m i x y hx hy
      rw [HA.out] at hst
      obtain ⟨op, pa, ca, la, ps, cc, ls, aa, cm, tx, nu⟩ := x
      obtain ⟨op', pa', ca', la', ps', cc', ls', aa', cm', tx', nu'⟩ := y
      obtain ⟨hrow, hrowS⟩ := hok.rows
      obtain ⟨hrow', hrowS'⟩ := hok'.rows
      unfold Ak.cX Ak.eX at hst
      obtain ⟨r, hr⟩ : ∃ r, Ak.eXs (Ak.cXs la) (Ak.cXs la') = r := ⟨_, rfl⟩
      obtain ⟨rs, hrs⟩ : ∃ rs, Ak.eSs (Ak.cSs ls) (Ak.cSs ls') = rs := ⟨_, rfl⟩
      rw [hr, hrs] at hst
      obtain ⟨lx, hlx⟩ : ∃ lx, la.length = lx := ⟨_, rfl⟩
      obtain ⟨ly, hly⟩ : ∃ ly, la'.length = ly := ⟨_, rfl⟩
      obtain ⟨sx, hsx⟩ : ∃ sx, ls.length = sx := ⟨_, rfl⟩
      obtain ⟨sy, hsy⟩ : ∃ sy, ls'.length = sy := ⟨_, rfl⟩
      have q0 : wr.cell? ⟨b, o + i * 7, none⟩ = some (.int .i64 op) := by
        have h9 := hrg 0 _ rfl
        exact (HB.out.cell (p := ⟨b, o + i * 7, none⟩) (block_lt_of_cell h9)).trans h9
      have q1 : wr.cell? ⟨b, o + i * 7 + 1, none⟩ = some (.slice pa la.length ca) := by
        have h9 := hrg 1 _ rfl
        exact (HB.out.cell (p := ⟨b, o + i * 7 + 1, none⟩) (block_lt_of_cell h9)).trans h9
      have q2 : wr.cell? ⟨b, o + i * 7 + 2, none⟩ = some (.slice ps ls.length cc) := by
        have h9 := hrg 2 _ rfl
        exact (HB.out.cell (p := ⟨b, o + i * 7 + 2, none⟩) (block_lt_of_cell h9)).trans h9
      have q3 : wr.cell? ⟨b, o + i * 7 + 3, none⟩ = some (.string aa) := by
        have h9 := hrg 3 _ rfl
        exact (HB.out.cell (p := ⟨b, o + i * 7 + 3, none⟩) (block_lt_of_cell h9)).trans h9
      have q4 : wr.cell? ⟨b, o + i * 7 + 4, none⟩ = some (.int .i64 cm) := by
        have h9 := hrg 4 _ rfl
        exact (HB.out.cell (p := ⟨b, o + i * 7 + 4, none⟩) (block_lt_of_cell h9)).trans h9
      have q5 : wr.cell? ⟨b, o + i * 7 + 5, none⟩ = some (.string tx) := by
        have h9 := hrg 5 _ rfl
        exact (HB.out.cell (p := ⟨b, o + i * 7 + 5, none⟩) (block_lt_of_cell h9)).trans h9
      have q6 : wr.cell? ⟨b, o + i * 7 + 6, none⟩ = some (.int .i64 nu) := by
        have h9 := hrg 6 _ rfl
        exact (HB.out.cell (p := ⟨b, o + i * 7 + 6, none⟩) (block_lt_of_cell h9)).trans h9
      have hb1 : Below W.heap.size W (wr.alloc (.cells #[.int .i64 op, .slice pa lx ca, .slice ps sx cc, .string aa, .int .i64 cm, .string tx, .int .i64 nu] 121)) := HB.out.alloc HB.out.size _
      have r0 : (wr.alloc (.cells #[.int .i64 op, .slice pa lx ca, .slice ps sx cc, .string aa, .int .i64 cm, .string tx, .int .i64 nu] 121)).cell? ⟨b', o' + i * 7, none⟩ = some (.int .i64 op') := by
        have h9 := hrg' 0 _ rfl
        exact (hb1.cell (p := ⟨b', o' + i * 7, none⟩) (block_lt_of_cell h9)).trans h9
      have r1 : (wr.alloc (.cells #[.int .i64 op, .slice pa lx ca, .slice ps sx cc, .string aa, .int .i64 cm, .string tx, .int .i64 nu] 121)).cell? ⟨b', o' + i * 7 + 1, none⟩ = some (.slice pa' la'.length ca') := by
        have h9 := hrg' 1 _ rfl
        exact (hb1.cell (p := ⟨b', o' + i * 7 + 1, none⟩) (block_lt_of_cell h9)).trans h9
      have r2 : (wr.alloc (.cells #[.int .i64 op, .slice pa lx ca, .slice ps sx cc, .string aa, .int .i64 cm, .string tx, .int .i64 nu] 121)).cell? ⟨b', o' + i * 7 + 2, none⟩ = some (.slice ps' ls'.length cc') := by
        have h9 := hrg' 2 _ rfl
        exact (hb1.cell (p := ⟨b', o' + i * 7 + 2, none⟩) (block_lt_of_cell h9)).trans h9
      have r3 : (wr.alloc (.cells #[.int .i64 op, .slice pa lx ca, .slice ps sx cc, .string aa, .int .i64 cm, .string tx, .int .i64 nu] 121)).cell? ⟨b', o' + i * 7 + 3, none⟩ = some (.string aa') := by
        have h9 := hrg' 3 _ rfl
        exact (hb1.cell (p := ⟨b', o' + i * 7 + 3, none⟩) (block_lt_of_cell h9)).trans h9
      have r4 : (wr.alloc (.cells #[.int .i64 op, .slice pa lx ca, .slice ps sx cc, .string aa, .int .i64 cm, .string tx, .int .i64 nu] 121)).cell? ⟨b', o' + i * 7 + 4, none⟩ = some (.int .i64 cm') := by
        have h9 := hrg' 4 _ rfl
        exact (hb1.cell (p := ⟨b', o' + i * 7 + 4, none⟩) (block_lt_of_cell h9)).trans h9
      have r5 : (wr.alloc (.cells #[.int .i64 op, .slice pa lx ca, .slice ps sx cc, .string aa, .int .i64 cm, .string tx, .int .i64 nu] 121)).cell? ⟨b', o' + i * 7 + 5, none⟩ = some (.string tx') := by
        have h9 := hrg' 5 _ rfl
        exact (hb1.cell (p := ⟨b', o' + i * 7 + 5, none⟩) (block_lt_of_cell h9)).trans h9
      have r6 : (wr.alloc (.cells #[.int .i64 op, .slice pa lx ca, .slice ps sx cc, .string aa, .int .i64 cm, .string tx, .int .i64 nu] 121)).cell? ⟨b', o' + i * 7 + 6, none⟩ = some (.int .i64 nu') := by
        have h9 := hrg' 6 _ rfl
        exact (hb1.cell (p := ⟨b', o' + i * 7 + 6, none⟩) (block_lt_of_cell h9)).trans h9
      have hb2 : Below W.heap.size W ((wr.alloc (.cells #[.int .i64 op, .slice pa lx ca, .slice ps sx cc, .string aa, .int .i64 cm, .string tx, .int .i64 nu] 121)).alloc (.cells #[.int .i64 op', .slice pa' ly ca', .slice ps' sy cc', .string aa', .int .i64 cm', .string tx', .int .i64 nu'] 121)) := hb1.alloc hb1.size _
      have hD := hcr ((wr.alloc (.cells #[.int .i64 op, .slice pa lx ca, .slice ps sx cc, .string aa, .int .i64 cm, .string tx, .int .i64 nu] 121)).alloc (.cells #[.int .i64 op', .slice pa' ly ca', .slice ps' sy cc', .string aa', .int .i64 cm', .string tx', .int .i64 nu'] 121)) ps cc ls' ps' cc' (hrowS.below hb2) (hrowS'.below hb2)
      dsimp only [Ak.xSt] at hD
      rw [hrs, hsx, hsy] at hD
      have hC : ∀ W', Below ((wr.alloc (.cells #[.int .i64 op, .slice pa lx ca, .slice ps sx cc, .string aa, .int .i64 cm, .string tx, .int .i64 nu] 121)).alloc (.cells #[.int .i64 op', .slice pa' ly ca', .slice ps' sy cc', .string aa', .int .i64 cm', .string tx', .int .i64 nu'] 121)).heap.size ((wr.alloc (.cells #[.int .i64 op, .slice pa lx ca, .slice ps sx cc, .string aa, .int .i64 cm, .string tx, .int .i64 nu] 121)).alloc (.cells #[.int .i64 op', .slice pa' ly ca', .slice ps' sy cc', .string aa', .int .i64 cm', .string tx', .int .i64 nu'] 121)) W' → Calls Tryz.prog 24 #[.slice pa lx ca, .slice pa' ly ca'] W' fun r' w' => r' = .returned (.bool r) ∧ Below W'.heap.size W' w' := fun W' hb => by
        have := hcl W' pa ca la' pa' ca' ((hrow.below hb2).below hb) ((hrow'.below hb2).below hb)
        dsimp only [Ak.xAr] at this
        rw [hr, hlx, hly] at this
        exact this
      rw [hlx] at q1
      rw [hly] at r1
      rw [hsx] at q2
      rw [hsy] at r2
      have HC := hide' hC
      have HD := hide' hD
      have HB2 := hide' hb2
      have HST := hide' hst
      have HLT := hide' hlt
      clear hel hel' hrg hrg' hok hok' hcl hst hlx hly hr hC hb1 hb2 hrow hrow' hx hy H3 K3 IH HA HB hlt hcr IS hD hrowS hrowS' hrs hsx hsy
      by_cases g_op : op = op'
      rotate_left
      · have ha : ans = false := by rw [HST.out]; simp [g_op]
        subst ha
        have g2 : (op == op') = false := by simpa using g_op
        go_wp2_with fail
        go_ret
        exact ⟨rfl, HB2.out⟩
      subst g_op
      by_cases g_aa : aa.toList = aa'.toList
      rotate_left
      · have ha : ans = false := by rw [HST.out]; simp [g_aa]
        subst ha
        have g2 : (aa.toList == aa'.toList) = false := by simpa using g_aa
        go_wp2_with fail
        go_ret
        exact ⟨rfl, HB2.out⟩
      have g3_aa : (aa.toList == aa'.toList) = true := by simpa using g_aa
      by_cases g_cm : cm = cm'
      rotate_left
      · have ha : ans = false := by rw [HST.out]; simp [g_cm]
        subst ha
        have g2 : (cm == cm') = false := by simpa using g_cm
        go_wp2_with fail
        go_ret
        exact ⟨rfl, HB2.out⟩
      subst g_cm
      by_cases g_tx : tx.toList = tx'.toList
      rotate_left
      · have ha : ans = false := by rw [HST.out]; simp [g_tx]
        subst ha
        have g2 : (tx.toList == tx'.toList) = false := by simpa using g_tx
        go_wp2_with fail
        go_ret
        exact ⟨rfl, HB2.out⟩
      have g3_tx : (tx.toList == tx'.toList) = true := by simpa using g_tx
      by_cases g_nu : nu = nu'
      rotate_left
      · have ha : ans = false := by rw [HST.out]; simp [g_nu]
        subst ha
        have g2 : (nu == nu') = false := by simpa using g_nu
        go_wp2_with fail
        go_ret
        exact ⟨rfl, HB2.out⟩
      subst g_nu
      go_wp2_with fail
      refine HD.out.mono ?_
      rintro e w5 ⟨rfl, hb5⟩
      have HB5 := hide' (HB2.out.trans (hb5.mono HB2.out.size))
      have HC5 := hide' (HC.out w5 hb5)
      have x1 : w5.cell? ⟨wr.heap.size, 1, none⟩ = some (.slice pa lx ca) := (hb5.cell (p := ⟨wr.heap.size, 1, none⟩) (by simp; omega)).trans (by simp)
      have y1 : w5.cell? ⟨wr.heap.size + 1, 1, none⟩ = some (.slice pa' ly ca') := (hb5.cell (p := ⟨wr.heap.size + 1, 1, none⟩) (by simp)).trans (by simp)
      clear hb5 HC HD
      cases rs
      · have ha : ans = false := by rw [HST.out]; simp
        subst ha
        go_wp2_with fail
        go_ret
        exact ⟨rfl, HB5.out⟩
      go_wp2_with fail
      refine HC5.out.mono ?_
      rintro e w6 ⟨rfl, hb6⟩
      have HB6 := hide' (HB5.out.trans (hb6.mono HB5.out.size))
      clear hb6
      cases r
      · have ha : ans = false := by rw [HST.out]; simp
        subst ha
        go_wp2_with fail
        go_ret
        exact ⟨rfl, HB6.out⟩
      have ha : Ak.eXs (Ak.cXs (l.drop (i + 1))) (Ak.cXs (m.drop (i + 1))) = ans := by rw [HST.out]; simp [g_aa, g_tx]
      have HA2 := hide' ha
      have tw : IntKind.i64.wrap ((i : Int) + 1) = (i : Int) + 1 := by rw [IntKind.wrap_i64]; omega
      clear ha
      go_wp2_with fail
      exact ⟨⟨i + 1, rfl, HLT.out, HA2, HB6⟩, by have := HLT.out; simp [RowKit.intOf]; omega⟩
    · have t1 : ¬ (i : Int) < (n : Int) := by omega
      have ha : ans = true := by rw [← HA.out, List.drop_eq_nil_of_le (by have := HN.out; omega), List.drop_eq_nil_of_le (by have := HM.out; omega)]; simp [Ak.cXs, Ak.eXs]
      subst ha
      go_wp2_with fail
      go_ret
      exact ⟨rfl, HB.out⟩
theorem akSames : (∀ x : Ak.Sv, Ak.SmL (Ak.sWh x)) ∧ (∀ x : Ak.Xv, Ak.SmL (Ak.xAr x) ∧ Ak.SmR (Ak.xSt x)) := by
  have hs : ∀ ax te nm p c wh, (∀ a ∈ wh, (fun x : Ak.Xv => Ak.SmL (Ak.xAr x) ∧ Ak.SmR (Ak.xSt x)) a) → (fun x : Ak.Sv => Ak.SmL (Ak.sWh x)) (.mk ax te nm p c wh) := fun ax te nm p c wh ih => akSameAll wh (fun a ha => (ih a ha).1) (fun a ha => (ih a ha).2)
  have hx : ∀ op p c ar sp sc st aa cm tx nu, (∀ a ∈ ar, (fun x : Ak.Xv => Ak.SmL (Ak.xAr x) ∧ Ak.SmR (Ak.xSt x)) a) → (∀ a ∈ st, (fun x : Ak.Sv => Ak.SmL (Ak.sWh x)) a) → (fun x : Ak.Xv => Ak.SmL (Ak.xAr x) ∧ Ak.SmR (Ak.xSt x)) (.mk op p c ar sp sc st aa cm tx nu) := fun op p c ar sp sc st aa cm tx nu ia is => ⟨akSameAll ar (fun a ha => (ia a ha).1) (fun a ha => (ia a ha).2), akSame st is⟩
  exact ⟨Ak.Sv.ind hs hx, Ak.Xv.ind hs hx⟩
theorem akSameOf (l : List Ak.Sv) : Ak.SmR l := akSame l fun a _ => akSames.1 a
end Go.Proofs.YtcnagbkdckipnaaGreatDoor
