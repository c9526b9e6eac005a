/-
  WALKS over ask.Same, sameStep, sameExpr and slices.EqualFunc at steps and expressions (gen_aksm.py writes this text).
-/
import Derived.Test.YtcnagbkdckipnaaGreatDoorAkSame
namespace Go.Proofs.YtcnagbkdckipnaaGreatDoor
open Go.RowKit Go.Lib
namespace Ak
/-- what is asked of the four, and of Same -/
def SmStep (x : Sv) : Prop := ∀ (W : World) (y : Sv), OkS W x → OkS W y → Calls Tryz.prog 29 #[.agg x.enc.toArray, .agg y.enc.toArray] W fun r w' => r = .returned (.bool (eS (cS x) (cS y))) ∧ Below W.heap.size W w'
def SmExpr (x : Xv) : Prop := ∀ (W : World) (y : Xv), OkX W x → OkX W y → Calls Tryz.prog 64 #[.agg x.enc.toArray, .agg y.enc.toArray] W fun r w' => r = .returned (.bool (eX (cX x) (cX y))) ∧ Below W.heap.size W w'
def EqS (l : List Sv) : Prop := ∀ (W : World) p c (m : List Sv) q d, RowS W p c l → RowS W q d m → Calls Tryz.prog 28 #[.slice p l.length c, .slice q m.length d, .func (.func 29) #[] #[]] W fun r w' => r = .returned (.bool (eSs (cSs l) (cSs m))) ∧ Below W.heap.size W w'
def EqX (l : List Xv) : Prop := ∀ (W : World) p c (m : List Xv) q d, RowX W p c l → RowX W q d m → Calls Tryz.prog 63 #[.slice p l.length c, .slice q m.length d, .func (.func 64) #[] #[]] W fun r w' => r = .returned (.bool (eXs (cXs l) (cXs m))) ∧ Below W.heap.size W w'
def SmPath (l : List Sv) : Prop := ∀ (W : World) p c (m : List Sv) q d, RowS W p c l → RowS W q d m → Calls Tryz.prog 12 #[.agg #[.slice p l.length c], .agg #[.slice q m.length d]] W fun r w' => r = .returned (.bool (eSs (cSs l) (cSs m))) ∧ Below W.heap.size W w'
end Ak
set_option maxRecDepth 100000 in
set_option maxHeartbeats 4000000 in
theorem smEqS (l : List Ak.Sv) (ih : ∀ a ∈ l, Ak.SmStep a) : Ak.EqS l := by
  intro W p c m q d hR hQ
  obtain ⟨h1, h2, h3⟩ := hR
  obtain ⟨k1, k2, k3⟩ := hQ
  obtain ⟨n, hn⟩ : ∃ n, l.length = n := ⟨_, rfl⟩
  obtain ⟨n', hn'⟩ : ∃ n', m.length = n' := ⟨_, rfl⟩
  obtain ⟨ans, hans⟩ : ∃ ans, Ak.eSs (Ak.cSs l) (Ak.cSs m) = ans := ⟨_, rfl⟩
  rw [hans]
  rw [hn] at h1 h3 ⊢
  rw [hn'] at k1 k3 ⊢
  by_cases hne : n = n'
  rotate_left
  · have ha : ans = false := by rw [← hans]; exact Ak.eSs_len _ _ (by rw [Ak.cSs_map, Ak.cSs_map, List.length_map, List.length_map, hn, hn']; exact hne)
    subst ha
    have hne' : ((n : Int) != (n' : Int)) = true := by simp; omega
    clear h3 k3 hn hn' hans ih
    go_enter Tryz.func28, Tryz.ntmps28
    go_wp2_with fail
    go_ret
    exact ⟨rfl, Below.refl _ _⟩
  subst hne
  have HN := hide' hn
  have HM := hide' hn'
  have H3 := hide' h3
  have K3 := hide' k3
  have IH := hide' ih
  have HNC : Hid (n ≤ 9223372036854775807) := hide' (by omega)
  have HST : Hid (Ak.eSs (Ak.cSs (l.drop 0)) (Ak.cSs (m.drop 0)) = ans) := by rw [List.drop_zero, List.drop_zero]; exact hans
  have HB0 := hide' (Below.refl W.heap.size W)
  clear h1 h2 h3 k1 k2 k3 hn hn' hans ih
  go_enter Tryz.func28, Tryz.ntmps28
  go_wp2_with fail
  go_loopw [17] (fun v wr => ∃ i : Nat, v = .int .i64 i ∧ i ≤ n ∧ Hid (Ak.eSs (Ak.cSs (l.drop i)) (Ak.cSs (m.drop i)) = ans) ∧ Hid (Below W.heap.size W wr)) (fun v _ => n - (RowKit.intOf v).toNat)
  case atStart => exact ⟨0, rfl, Nat.zero_le _, HST, HB0⟩
  case round =>
    obtain ⟨i, rfl, hi, HA, HB⟩ := hrel
    clear HST HB0
    by_cases hlt : i < n
    · have t1 : (i : Int) < (n : Int) := by omega
      have t0 : (0 : Int) ≤ i := by omega
      obtain ⟨b, o, rfl, hel⟩ := H3.out (by omega)
      obtain ⟨b', o', rfl, hel'⟩ := K3.out (by omega)
      obtain ⟨x, hx⟩ : ∃ x, l[i]? = some x := ⟨_, List.getElem?_eq_getElem (by rw [HN.out]; exact hlt)⟩
      obtain ⟨y, hy⟩ : ∃ y, m[i]? = some y := ⟨_, List.getElem?_eq_getElem (by rw [HM.out]; exact hlt)⟩
      obtain ⟨hrg, hok⟩ := hel i x hx
      obtain ⟨hrg', hok'⟩ := hel' i y hy
      have hcl := IH.out x (List.mem_of_getElem? hx)
      have hst := Ak.eSs_step l m i x y hx hy
      rw [HA.out] at hst
      obtain ⟨r, hr⟩ : ∃ r, Ak.eS (Ak.cS x) (Ak.cS y) = r := ⟨_, rfl⟩
      have hC := fun (w : World) (hb : Below W.heap.size W w) => hcl w y (hok.below hb) (hok'.below hb)
      rw [hr] at hst hC
      obtain ⟨ax, te, nm, pw, cw, lw⟩ := x
      obtain ⟨ax', te', nm', pw', cw', lw'⟩ := y
      obtain ⟨lx, hlx⟩ : ∃ k, lw.length = k := ⟨_, rfl⟩
      obtain ⟨lx', hlx'⟩ : ∃ k, lw'.length = k := ⟨_, rfl⟩
      have hrg2 : W.rangeAt b (o + i * 4) [.int .i64 ax, .int .i64 te, .string nm, .slice pw lx cw] := by rw [← hlx]; exact hrg
      have hrg2' : W.rangeAt b' (o' + i * 4) [.int .i64 ax', .int .i64 te', .string nm', .slice pw' lx' cw'] := by rw [← hlx']; exact hrg'
      have HC : Hid (∀ w : World, Below W.heap.size W w → Calls Tryz.prog 29 #[.agg #[.int .i64 ax, .int .i64 te, .string nm, .slice pw lx cw], .agg #[.int .i64 ax', .int .i64 te', .string nm', .slice pw' lx' cw']] w fun r' w' => r' = .returned (.bool r) ∧ Below w.heap.size w w') := hide' (fun w hb => by rw [← hlx, ← hlx']; exact hC w hb)
      have q0 : wr.cell? ⟨b, o + i * 4, none⟩ = some (.int .i64 ax) := by
        have h9 := hrg2 0 _ rfl
        exact (HB.out.cell (p := ⟨b, o + i * 4, none⟩) (block_lt_of_cell h9)).trans h9
      have q1 : wr.cell? ⟨b, o + i * 4 + 1, none⟩ = some (.int .i64 te) := by
        have h9 := hrg2 1 _ rfl
        exact (HB.out.cell (p := ⟨b, o + i * 4 + 1, none⟩) (block_lt_of_cell h9)).trans h9
      have q2 : wr.cell? ⟨b, o + i * 4 + 2, none⟩ = some (.string nm) := by
        have h9 := hrg2 2 _ rfl
        exact (HB.out.cell (p := ⟨b, o + i * 4 + 2, none⟩) (block_lt_of_cell h9)).trans h9
      have q3 : wr.cell? ⟨b, o + i * 4 + 3, none⟩ = some (.slice pw lx cw) := by
        have h9 := hrg2 3 _ rfl
        exact (HB.out.cell (p := ⟨b, o + i * 4 + 3, none⟩) (block_lt_of_cell h9)).trans h9
      have hb1 : Below W.heap.size W (wr.alloc (.cells #[.int .i64 ax, .int .i64 te, .string nm, .slice pw lx cw] 61)) := HB.out.alloc HB.out.size _
      have r0 : (wr.alloc (.cells #[.int .i64 ax, .int .i64 te, .string nm, .slice pw lx cw] 61)).cell? ⟨b', o' + i * 4, none⟩ = some (.int .i64 ax') := by
        have h9 := hrg2' 0 _ rfl
        exact (hb1.cell (p := ⟨b', o' + i * 4, none⟩) (block_lt_of_cell h9)).trans h9
      have r1 : (wr.alloc (.cells #[.int .i64 ax, .int .i64 te, .string nm, .slice pw lx cw] 61)).cell? ⟨b', o' + i * 4 + 1, none⟩ = some (.int .i64 te') := by
        have h9 := hrg2' 1 _ rfl
        exact (hb1.cell (p := ⟨b', o' + i * 4 + 1, none⟩) (block_lt_of_cell h9)).trans h9
      have r2 : (wr.alloc (.cells #[.int .i64 ax, .int .i64 te, .string nm, .slice pw lx cw] 61)).cell? ⟨b', o' + i * 4 + 2, none⟩ = some (.string nm') := by
        have h9 := hrg2' 2 _ rfl
        exact (hb1.cell (p := ⟨b', o' + i * 4 + 2, none⟩) (block_lt_of_cell h9)).trans h9
      have r3 : (wr.alloc (.cells #[.int .i64 ax, .int .i64 te, .string nm, .slice pw lx cw] 61)).cell? ⟨b', o' + i * 4 + 3, none⟩ = some (.slice pw' lx' cw') := by
        have h9 := hrg2' 3 _ rfl
        exact (hb1.cell (p := ⟨b', o' + i * 4 + 3, none⟩) (block_lt_of_cell h9)).trans h9
      have hb2 : Below W.heap.size W ((wr.alloc (.cells #[.int .i64 ax, .int .i64 te, .string nm, .slice pw lx cw] 61)).alloc (.cells #[.int .i64 ax', .int .i64 te', .string nm', .slice pw' lx' cw'] 61)) := hb1.alloc hb1.size _
      have HB2 := hide' hb2
      have HST := hide' hst
      have HLT := hide' hlt
      have tw : IntKind.i64.wrap ((i : Int) + 1) = (i : Int) + 1 := by have := HNC.out; rw [IntKind.wrap_i64]; omega
      clear hel hel' hrg hrg' hrg2 hrg2' hok hok' hcl hst hC hr hb1 hb2 hx hy H3 K3 IH HA HB hlt hlx hlx'
      go_wp2_with fail
      refine (HC.out _ HB2.out).mono ?_
      rintro e w6 ⟨rfl, hb6⟩
      have HB6 := hide' (HB2.out.trans (hb6.mono HB2.out.size))
      clear hb6 HC
      cases r
      · have ha : ans = false := by rw [HST.out]; simp
        subst ha
        go_wp2_with fail
        go_ret
        exact ⟨rfl, HB6.out⟩
      have ha : Ak.eSs (Ak.cSs (l.drop (i + 1))) (Ak.cSs (m.drop (i + 1))) = ans := by rw [HST.out]; simp
      have HA2 := hide' ha
      clear ha
      go_wp2_with fail
      exact ⟨⟨i + 1, rfl, HLT.out, HA2, HB6⟩, by have := HLT.out; simp [RowKit.intOf]; omega⟩
    · have t1 : ¬ (i : Int) < (n : Int) := by omega
      have ha : ans = true := by rw [← HA.out, List.drop_eq_nil_of_le (by have := HN.out; omega), List.drop_eq_nil_of_le (by have := HM.out; omega)]; simp [Ak.cSs, Ak.eSs]
      subst ha
      go_wp2_with fail
      go_ret
      exact ⟨rfl, HB.out⟩
set_option maxRecDepth 100000 in
set_option maxHeartbeats 4000000 in
theorem smEqX (l : List Ak.Xv) (ih : ∀ a ∈ l, Ak.SmExpr a) : Ak.EqX l := by
  intro W p c m q d hR hQ
  obtain ⟨h1, h2, h3⟩ := hR
  obtain ⟨k1, k2, k3⟩ := hQ
  obtain ⟨n, hn⟩ : ∃ n, l.length = n := ⟨_, rfl⟩
  obtain ⟨n', hn'⟩ : ∃ n', m.length = n' := ⟨_, rfl⟩
  obtain ⟨ans, hans⟩ : ∃ ans, Ak.eXs (Ak.cXs l) (Ak.cXs m) = ans := ⟨_, rfl⟩
  rw [hans]
  rw [hn] at h1 h3 ⊢
  rw [hn'] at k1 k3 ⊢
  by_cases hne : n = n'
  rotate_left
  · have ha : ans = false := by rw [← hans]; exact Ak.eXs_len _ _ (by rw [Ak.cXs_map, Ak.cXs_map, List.length_map, List.length_map, hn, hn']; exact hne)
    subst ha
    have hne' : ((n : Int) != (n' : Int)) = true := by simp; omega
    clear h3 k3 hn hn' hans ih
    go_enter Tryz.func63, Tryz.ntmps63
    go_wp2_with fail
    go_ret
    exact ⟨rfl, Below.refl _ _⟩
  subst hne
  have HN := hide' hn
  have HM := hide' hn'
  have H3 := hide' h3
  have K3 := hide' k3
  have IH := hide' ih
  have HNC : Hid (n ≤ 9223372036854775807) := hide' (by omega)
  have HST : Hid (Ak.eXs (Ak.cXs (l.drop 0)) (Ak.cXs (m.drop 0)) = ans) := by rw [List.drop_zero, List.drop_zero]; exact hans
  have HB0 := hide' (Below.refl W.heap.size W)
  clear h1 h2 h3 k1 k2 k3 hn hn' hans ih
  go_enter Tryz.func63, Tryz.ntmps63
  go_wp2_with fail
  go_loopw [17] (fun v wr => ∃ i : Nat, v = .int .i64 i ∧ i ≤ n ∧ Hid (Ak.eXs (Ak.cXs (l.drop i)) (Ak.cXs (m.drop i)) = ans) ∧ Hid (Below W.heap.size W wr)) (fun v _ => n - (RowKit.intOf v).toNat)
  case atStart => exact ⟨0, rfl, Nat.zero_le _, HST, HB0⟩
  case round =>
    obtain ⟨i, rfl, hi, HA, HB⟩ := hrel
    clear HST HB0
    by_cases hlt : i < n
    · have t1 : (i : Int) < (n : Int) := by omega
      have t0 : (0 : Int) ≤ i := by omega
      obtain ⟨b, o, rfl, hel⟩ := H3.out (by omega)
      obtain ⟨b', o', rfl, hel'⟩ := K3.out (by omega)
      obtain ⟨x, hx⟩ : ∃ x, l[i]? = some x := ⟨_, List.getElem?_eq_getElem (by rw [HN.out]; exact hlt)⟩
      obtain ⟨y, hy⟩ : ∃ y, m[i]? = some y := ⟨_, List.getElem?_eq_getElem (by rw [HM.out]; exact hlt)⟩
      obtain ⟨hrg, hok⟩ := hel i x hx
      obtain ⟨hrg', hok'⟩ := hel' i y hy
      have hcl := IH.out x (List.mem_of_getElem? hx)
      have hst := Ak.eXs_step l m i x y hx hy
      rw [HA.out] at hst
      obtain ⟨r, hr⟩ : ∃ r, Ak.eX (Ak.cX x) (Ak.cX y) = r := ⟨_, rfl⟩
      have hC := fun (w : World) (hb : Below W.heap.size W w) => hcl w y (hok.below hb) (hok'.below hb)
      rw [hr] at hst hC
      obtain ⟨op, pa, ca, ar, ps, cc, st, aa, cm, tx, nu⟩ := x
      obtain ⟨op', pa', ca', ar', ps', cc', st', aa', cm', tx', nu'⟩ := y
      obtain ⟨la, hla⟩ : ∃ k, ar.length = k := ⟨_, rfl⟩
      obtain ⟨la', hla'⟩ : ∃ k, ar'.length = k := ⟨_, rfl⟩
      obtain ⟨ls, hls⟩ : ∃ k, st.length = k := ⟨_, rfl⟩
      obtain ⟨ls', hls'⟩ : ∃ k, st'.length = k := ⟨_, rfl⟩
      have hrg2 : W.rangeAt b (o + i * 7) [.int .i64 op, .slice pa la ca, .slice ps ls cc, .string aa, .int .i64 cm, .string tx, .int .i64 nu] := by rw [← hla, ← hls]; exact hrg
      have hrg2' : W.rangeAt b' (o' + i * 7) [.int .i64 op', .slice pa' la' ca', .slice ps' ls' cc', .string aa', .int .i64 cm', .string tx', .int .i64 nu'] := by rw [← hla', ← hls']; exact hrg'
      have HC : Hid (∀ w : World, Below W.heap.size W w → Calls Tryz.prog 64 #[.agg #[.int .i64 op, .slice pa la ca, .slice ps ls cc, .string aa, .int .i64 cm, .string tx, .int .i64 nu], .agg #[.int .i64 op', .slice pa' la' ca', .slice ps' ls' cc', .string aa', .int .i64 cm', .string tx', .int .i64 nu']] w fun r' w' => r' = .returned (.bool r) ∧ Below w.heap.size w w') := hide' (fun w hb => by rw [← hla, ← hls, ← hla', ← hls']; exact hC w hb)
      have q0 : wr.cell? ⟨b, o + i * 7, none⟩ = some (.int .i64 op) := by
        have h9 := hrg2 0 _ rfl
        exact (HB.out.cell (p := ⟨b, o + i * 7, none⟩) (block_lt_of_cell h9)).trans h9
      have q1 : wr.cell? ⟨b, o + i * 7 + 1, none⟩ = some (.slice pa la ca) := by
        have h9 := hrg2 1 _ rfl
        exact (HB.out.cell (p := ⟨b, o + i * 7 + 1, none⟩) (block_lt_of_cell h9)).trans h9
      have q2 : wr.cell? ⟨b, o + i * 7 + 2, none⟩ = some (.slice ps ls cc) := by
        have h9 := hrg2 2 _ rfl
        exact (HB.out.cell (p := ⟨b, o + i * 7 + 2, none⟩) (block_lt_of_cell h9)).trans h9
      have q3 : wr.cell? ⟨b, o + i * 7 + 3, none⟩ = some (.string aa) := by
        have h9 := hrg2 3 _ rfl
        exact (HB.out.cell (p := ⟨b, o + i * 7 + 3, none⟩) (block_lt_of_cell h9)).trans h9
      have q4 : wr.cell? ⟨b, o + i * 7 + 4, none⟩ = some (.int .i64 cm) := by
        have h9 := hrg2 4 _ rfl
        exact (HB.out.cell (p := ⟨b, o + i * 7 + 4, none⟩) (block_lt_of_cell h9)).trans h9
      have q5 : wr.cell? ⟨b, o + i * 7 + 5, none⟩ = some (.string tx) := by
        have h9 := hrg2 5 _ rfl
        exact (HB.out.cell (p := ⟨b, o + i * 7 + 5, none⟩) (block_lt_of_cell h9)).trans h9
      have q6 : wr.cell? ⟨b, o + i * 7 + 6, none⟩ = some (.int .i64 nu) := by
        have h9 := hrg2 6 _ rfl
        exact (HB.out.cell (p := ⟨b, o + i * 7 + 6, none⟩) (block_lt_of_cell h9)).trans h9
      have hb1 : Below W.heap.size W (wr.alloc (.cells #[.int .i64 op, .slice pa la ca, .slice ps ls cc, .string aa, .int .i64 cm, .string tx, .int .i64 nu] 121)) := HB.out.alloc HB.out.size _
      have r0 : (wr.alloc (.cells #[.int .i64 op, .slice pa la ca, .slice ps ls cc, .string aa, .int .i64 cm, .string tx, .int .i64 nu] 121)).cell? ⟨b', o' + i * 7, none⟩ = some (.int .i64 op') := by
        have h9 := hrg2' 0 _ rfl
        exact (hb1.cell (p := ⟨b', o' + i * 7, none⟩) (block_lt_of_cell h9)).trans h9
      have r1 : (wr.alloc (.cells #[.int .i64 op, .slice pa la ca, .slice ps ls cc, .string aa, .int .i64 cm, .string tx, .int .i64 nu] 121)).cell? ⟨b', o' + i * 7 + 1, none⟩ = some (.slice pa' la' ca') := by
        have h9 := hrg2' 1 _ rfl
        exact (hb1.cell (p := ⟨b', o' + i * 7 + 1, none⟩) (block_lt_of_cell h9)).trans h9
      have r2 : (wr.alloc (.cells #[.int .i64 op, .slice pa la ca, .slice ps ls cc, .string aa, .int .i64 cm, .string tx, .int .i64 nu] 121)).cell? ⟨b', o' + i * 7 + 2, none⟩ = some (.slice ps' ls' cc') := by
        have h9 := hrg2' 2 _ rfl
        exact (hb1.cell (p := ⟨b', o' + i * 7 + 2, none⟩) (block_lt_of_cell h9)).trans h9
      have r3 : (wr.alloc (.cells #[.int .i64 op, .slice pa la ca, .slice ps ls cc, .string aa, .int .i64 cm, .string tx, .int .i64 nu] 121)).cell? ⟨b', o' + i * 7 + 3, none⟩ = some (.string aa') := by
        have h9 := hrg2' 3 _ rfl
        exact (hb1.cell (p := ⟨b', o' + i * 7 + 3, none⟩) (block_lt_of_cell h9)).trans h9
      have r4 : (wr.alloc (.cells #[.int .i64 op, .slice pa la ca, .slice ps ls cc, .string aa, .int .i64 cm, .string tx, .int .i64 nu] 121)).cell? ⟨b', o' + i * 7 + 4, none⟩ = some (.int .i64 cm') := by
        have h9 := hrg2' 4 _ rfl
        exact (hb1.cell (p := ⟨b', o' + i * 7 + 4, none⟩) (block_lt_of_cell h9)).trans h9
      have r5 : (wr.alloc (.cells #[.int .i64 op, .slice pa la ca, .slice ps ls cc, .string aa, .int .i64 cm, .string tx, .int .i64 nu] 121)).cell? ⟨b', o' + i * 7 + 5, none⟩ = some (.string tx') := by
        have h9 := hrg2' 5 _ rfl
        exact (hb1.cell (p := ⟨b', o' + i * 7 + 5, none⟩) (block_lt_of_cell h9)).trans h9
      have r6 : (wr.alloc (.cells #[.int .i64 op, .slice pa la ca, .slice ps ls cc, .string aa, .int .i64 cm, .string tx, .int .i64 nu] 121)).cell? ⟨b', o' + i * 7 + 6, none⟩ = some (.int .i64 nu') := by
        have h9 := hrg2' 6 _ rfl
        exact (hb1.cell (p := ⟨b', o' + i * 7 + 6, none⟩) (block_lt_of_cell h9)).trans h9
      have hb2 : Below W.heap.size W ((wr.alloc (.cells #[.int .i64 op, .slice pa la ca, .slice ps ls cc, .string aa, .int .i64 cm, .string tx, .int .i64 nu] 121)).alloc (.cells #[.int .i64 op', .slice pa' la' ca', .slice ps' ls' cc', .string aa', .int .i64 cm', .string tx', .int .i64 nu'] 121)) := hb1.alloc hb1.size _
      have HB2 := hide' hb2
      have HST := hide' hst
      have HLT := hide' hlt
      have tw : IntKind.i64.wrap ((i : Int) + 1) = (i : Int) + 1 := by have := HNC.out; rw [IntKind.wrap_i64]; omega
      clear hel hel' hrg hrg' hrg2 hrg2' hok hok' hcl hst hC hr hb1 hb2 hx hy H3 K3 IH HA HB hlt hla hla' hls hls'
      go_wp2_with fail
      refine (HC.out _ HB2.out).mono ?_
      rintro e w6 ⟨rfl, hb6⟩
      have HB6 := hide' (HB2.out.trans (hb6.mono HB2.out.size))
      clear hb6 HC
      cases r
      · have ha : ans = false := by rw [HST.out]; simp
        subst ha
        go_wp2_with fail
        go_ret
        exact ⟨rfl, HB6.out⟩
      have ha : Ak.eXs (Ak.cXs (l.drop (i + 1))) (Ak.cXs (m.drop (i + 1))) = ans := by rw [HST.out]; simp
      have HA2 := hide' ha
      clear ha
      go_wp2_with fail
      exact ⟨⟨i + 1, rfl, HLT.out, HA2, HB6⟩, by have := HLT.out; simp [RowKit.intOf]; omega⟩
    · have t1 : ¬ (i : Int) < (n : Int) := by omega
      have ha : ans = true := by rw [← HA.out, List.drop_eq_nil_of_le (by have := HN.out; omega), List.drop_eq_nil_of_le (by have := HM.out; omega)]; simp [Ak.cXs, Ak.eXs]
      subst ha
      go_wp2_with fail
      go_ret
      exact ⟨rfl, HB.out⟩
set_option maxRecDepth 100000 in
set_option maxHeartbeats 2000000 in
theorem smPath (l : List Ak.Sv) (h : Ak.EqS l) : Ak.SmPath l := by
  intro W p c m q d hR hQ
  have hb : Below W.heap.size W ((W.alloc (.cells #[.slice p l.length c] 25)).alloc (.cells #[.slice q m.length d] 25)) := ((Below.refl _ _).alloc (Nat.le_refl _) _).alloc (by rw [World.size_alloc]; omega) _
  have C := h _ p c m q d (hR.below hb) (hQ.below hb)
  obtain ⟨n, hn⟩ : ∃ n, l.length = n := ⟨_, rfl⟩
  obtain ⟨n', hn'⟩ : ∃ n', m.length = n' := ⟨_, rfl⟩
  obtain ⟨ans, hans⟩ : ∃ ans, Ak.eSs (Ak.cSs l) (Ak.cSs m) = ans := ⟨_, rfl⟩
  rw [hn, hn'] at C hb ⊢
  rw [hans] at C ⊢
  have HB := hide' hb
  clear hR hQ hb hn hn' hans
  go_enter Tryz.func12, Tryz.ntmps12
  go_wp2_with fail
  refine C.mono ?_
  rintro e w2 ⟨rfl, hb2⟩
  have HB2 := hide' (HB.out.trans (hb2.mono HB.out.size))
  clear hb2 C HB
  go_wp2_with fail
  go_ret
  exact ⟨rfl, HB2.out⟩
set_option maxRecDepth 100000 in
set_option maxHeartbeats 4000000 in
theorem smStep (ax te : Int) (nm : ByteArray) (pw : Option Addr) (cw : Nat) (lw : List Ak.Xv) (he : Ak.EqX lw) : Ak.SmStep (.mk ax te nm pw cw lw) := by
  intro W y hok hok'
  obtain ⟨ax', te', nm', pw', cw', lw'⟩ := y
  have hrow := hok.row
  have hrow' := hok'.row
  change Calls Tryz.prog 29 #[.agg #[.int .i64 ax, .int .i64 te, .string nm, .slice pw lw.length cw], .agg #[.int .i64 ax', .int .i64 te', .string nm', .slice pw' lw'.length cw']] W fun r w' => r = .returned (.bool (Ak.eS (Ak.cS (.mk ax te nm pw cw lw)) (Ak.cS (.mk ax' te' nm' pw' cw' lw')))) ∧ Below W.heap.size W w'
  unfold Ak.cS Ak.eS
  have hC := fun (w : World) (hb : Below W.heap.size W w) => he w pw cw lw' pw' cw' (hrow.below hb) (hrow'.below hb)
  obtain ⟨r, hr⟩ : ∃ r, Ak.eXs (Ak.cXs lw) (Ak.cXs lw') = r := ⟨_, rfl⟩
  obtain ⟨lx, hlx⟩ : ∃ k, lw.length = k := ⟨_, rfl⟩
  obtain ⟨lx', hlx'⟩ : ∃ k, lw'.length = k := ⟨_, rfl⟩
  rw [hlx, hlx'] at hC ⊢
  rw [hr] at hC ⊢
  have hb2 : Below W.heap.size W ((W.alloc (.cells #[.int .i64 ax, .int .i64 te, .string nm, .slice pw lx cw] 61)).alloc (.cells #[.int .i64 ax', .int .i64 te', .string nm', .slice pw' lx' cw'] 61)) := ((Below.refl _ _).alloc (Nat.le_refl _) _).alloc (by rw [World.size_alloc]; omega) _
  have HC := hide' hC
  have HB2 := hide' hb2
  clear hok hok' hrow hrow' he hC hr hlx hlx' hb2
  by_cases g_ax : ax = ax'
  rotate_left
  · have g2 : (ax == ax') = false := by simpa using g_ax
    rw [decide_eq_false g_ax, Bool.false_and]
    go_enter Tryz.func29, Tryz.ntmps29
    go_wp2_with fail
    go_ret
    exact ⟨rfl, HB2.out⟩
  subst g_ax
  rw [show decide (ax = ax) = true from decide_eq_true rfl, Bool.true_and]
  by_cases g_te : te = te'
  rotate_left
  · have g2 : (te == te') = false := by simpa using g_te
    rw [decide_eq_false g_te, Bool.false_and]
    go_enter Tryz.func29, Tryz.ntmps29
    go_wp2_with fail
    go_ret
    exact ⟨rfl, HB2.out⟩
  subst g_te
  rw [show decide (te = te) = true from decide_eq_true rfl, Bool.true_and]
  by_cases g_nm : nm.toList = nm'.toList
  rotate_left
  · have g2 : (nm.toList == nm'.toList) = false := by simpa using g_nm
    rw [decide_eq_false g_nm, Bool.false_and]
    go_enter Tryz.func29, Tryz.ntmps29
    go_wp2_with fail
    go_ret
    exact ⟨rfl, HB2.out⟩
  have g3_nm : (nm.toList == nm'.toList) = true := by simpa using g_nm
  rw [decide_eq_true g_nm, Bool.true_and]
  go_enter Tryz.func29, Tryz.ntmps29
  go_wp2_with fail
  refine (HC.out _ HB2.out).mono ?_
  rintro e w5 ⟨rfl, hb5⟩
  have HB5 := hide' (HB2.out.trans (hb5.mono HB2.out.size))
  clear hb5 HC
  go_wp2_with fail
  go_ret
  exact ⟨rfl, HB5.out⟩
set_option maxRecDepth 100000 in
set_option maxHeartbeats 8000000 in
theorem smExpr (op : Int) (pa : Option Addr) (ca : Nat) (ar : List Ak.Xv) (ps : Option Addr) (cc : Nat) (st : List Ak.Sv) (aa : ByteArray) (cm : Int) (tx : ByteArray) (nu : Int) (he : Ak.EqX ar) (hs : Ak.SmPath st) : Ak.SmExpr (.mk op pa ca ar ps cc st aa cm tx nu) := by
  intro W y hok hok'
  obtain ⟨op', pa', ca', ar', ps', cc', st', aa', cm', tx', nu'⟩ := y
  obtain ⟨hrow, hrs⟩ := hok.rows
  obtain ⟨hrow', hrs'⟩ := hok'.rows
  change Calls Tryz.prog 64 #[.agg #[.int .i64 op, .slice pa ar.length ca, .slice ps st.length cc, .string aa, .int .i64 cm, .string tx, .int .i64 nu], .agg #[.int .i64 op', .slice pa' ar'.length ca', .slice ps' st'.length cc', .string aa', .int .i64 cm', .string tx', .int .i64 nu']] W fun r w' => r = .returned (.bool (Ak.eX (Ak.cX (.mk op pa ca ar ps cc st aa cm tx nu)) (Ak.cX (.mk op' pa' ca' ar' ps' cc' st' aa' cm' tx' nu')))) ∧ Below W.heap.size W w'
  unfold Ak.cX Ak.eX
  have hC := fun (w : World) (hb : Below W.heap.size W w) => he w pa ca ar' pa' ca' (hrow.below hb) (hrow'.below hb)
  have hD := fun (w : World) (hb : Below W.heap.size W w) => hs w ps cc st' ps' cc' (hrs.below hb) (hrs'.below hb)
  obtain ⟨r, hr⟩ : ∃ r, Ak.eXs (Ak.cXs ar) (Ak.cXs ar') = r := ⟨_, rfl⟩
  obtain ⟨rs, hrss⟩ : ∃ r, Ak.eSs (Ak.cSs st) (Ak.cSs st') = r := ⟨_, rfl⟩
  obtain ⟨la, hla⟩ : ∃ k, ar.length = k := ⟨_, rfl⟩
  obtain ⟨la', hla'⟩ : ∃ k, ar'.length = k := ⟨_, rfl⟩
  obtain ⟨ls, hls⟩ : ∃ k, st.length = k := ⟨_, rfl⟩
  obtain ⟨ls', hls'⟩ : ∃ k, st'.length = k := ⟨_, rfl⟩
  rw [hla, hla'] at hC
  rw [hls, hls'] at hD
  rw [hla, hla', hls, hls', hr, hrss]
  rw [hr] at hC
  rw [hrss] at hD
  have hb2 : Below W.heap.size W ((W.alloc (.cells #[.int .i64 op, .slice pa la ca, .slice ps ls cc, .string aa, .int .i64 cm, .string tx, .int .i64 nu] 121)).alloc (.cells #[.int .i64 op', .slice pa' la' ca', .slice ps' ls' cc', .string aa', .int .i64 cm', .string tx', .int .i64 nu'] 121)) := ((Below.refl _ _).alloc (Nat.le_refl _) _).alloc (by rw [World.size_alloc]; omega) _
  have HX := hide' (heap_alloc_new W (.cells #[.int .i64 op, .slice pa la ca, .slice ps ls cc, .string aa, .int .i64 cm, .string tx, .int .i64 nu] 121))
  have HC := hide' hC
  have HD := hide' hD
  have HB2 := hide' hb2
  clear hok hok' hrow hrow' hrs hrs' he hs hC hD hr hrss hla hla' hls hls' hb2
  by_cases g_op : op = op'
  rotate_left
  · have g2 : (op == op') = false := by simpa using g_op
    rw [decide_eq_false g_op, Bool.false_and]
    go_enter Tryz.func64, Tryz.ntmps64
    go_wp2_with fail
    go_ret
    exact ⟨rfl, HB2.out⟩
  subst g_op
  rw [show decide (op = op) = true from decide_eq_true rfl, Bool.true_and]
  by_cases g_aa : aa.toList = aa'.toList
  rotate_left
  · have g2 : (aa.toList == aa'.toList) = false := by simpa using g_aa
    rw [decide_eq_false g_aa, Bool.false_and]
    go_enter Tryz.func64, Tryz.ntmps64
    go_wp2_with fail
    go_ret
    exact ⟨rfl, HB2.out⟩
  have g3_aa : (aa.toList == aa'.toList) = true := by simpa using g_aa
  rw [decide_eq_true g_aa, Bool.true_and]
  by_cases g_cm : cm = cm'
  rotate_left
  · have g2 : (cm == cm') = false := by simpa using g_cm
    rw [decide_eq_false g_cm, Bool.false_and]
    go_enter Tryz.func64, Tryz.ntmps64
    go_wp2_with fail
    go_ret
    exact ⟨rfl, HB2.out⟩
  subst g_cm
  rw [show decide (cm = cm) = true from decide_eq_true rfl, Bool.true_and]
  by_cases g_tx : tx.toList = tx'.toList
  rotate_left
  · have g2 : (tx.toList == tx'.toList) = false := by simpa using g_tx
    rw [decide_eq_false g_tx, Bool.false_and]
    go_enter Tryz.func64, Tryz.ntmps64
    go_wp2_with fail
    go_ret
    exact ⟨rfl, HB2.out⟩
  have g3_tx : (tx.toList == tx'.toList) = true := by simpa using g_tx
  rw [decide_eq_true g_tx, Bool.true_and]
  by_cases g_nu : nu = nu'
  rotate_left
  · have g2 : (nu == nu') = false := by simpa using g_nu
    rw [decide_eq_false g_nu, Bool.false_and]
    go_enter Tryz.func64, Tryz.ntmps64
    go_wp2_with fail
    go_ret
    exact ⟨rfl, HB2.out⟩
  subst g_nu
  rw [show decide (nu = nu) = true from decide_eq_true rfl, Bool.true_and]
  cases rs with
  | false =>
    go_enter Tryz.func64, Tryz.ntmps64
    go_wp2_with fail
    refine (HD.out _ HB2.out).mono ?_
    rintro e w5 ⟨rfl, hb5⟩
    have HB5 := hide' (HB2.out.trans (hb5.mono HB2.out.size))
    clear hb5 HD
    go_wp2_with fail
    go_ret
    exact ⟨rfl, HB5.out⟩
  | true =>
    go_enter Tryz.func64, Tryz.ntmps64
    go_wp2_with fail
    refine (HD.out _ HB2.out).mono ?_
    rintro e w5 ⟨rfl, hb5⟩
    have HB5 := hide' (HB2.out.trans (hb5.mono HB2.out.size))
    have x1 : w5.cell? ⟨W.heap.size, 1, none⟩ = some (.slice pa la ca) := (hb5.cell (p := ⟨W.heap.size, 1, none⟩) (by simp; omega)).trans (by simp)
    have y1 : w5.cell? ⟨W.heap.size + 1, 1, none⟩ = some (.slice pa' la' ca') := (hb5.cell (p := ⟨W.heap.size + 1, 1, none⟩) (by simp)).trans (by simp)
    clear hb5 HD
    go_wp2_with fail
    refine (HC.out _ HB5.out).mono ?_
    rintro e w6 ⟨rfl, hb6⟩
    have HB6 := hide' (HB5.out.trans (hb6.mono HB5.out.size))
    clear hb6 HC
    go_wp2_with fail
    go_ret
    exact ⟨rfl, HB6.out⟩
theorem smAll : (∀ x, Ak.SmStep x) ∧ ∀ x, Ak.SmExpr x := by
  have hs : ∀ ax te nm p c wh, (∀ a ∈ wh, Ak.SmExpr a) → Ak.SmStep (.mk ax te nm p c wh) := fun ax te nm p c wh ih => smStep ax te nm p c wh (smEqX wh ih)
  have he : ∀ op p c ar sp sc st aa cm tx nu, (∀ a ∈ ar, Ak.SmExpr a) → (∀ a ∈ st, Ak.SmStep a) → Ak.SmExpr (.mk op p c ar sp sc st aa cm tx nu) := fun op p c ar sp sc st aa cm tx nu ia is => smExpr op p c ar sp sc st aa cm tx nu (smEqX ar ia) (smPath st (smEqS st is))
  exact ⟨Ak.Sv.ind hs he, Ak.Xv.ind hs he⟩
theorem akSamePath (l : List Ak.Sv) : Ak.SmPath l := smPath l (smEqS l fun a _ => smAll.1 a)
end Go.Proofs.YtcnagbkdckipnaaGreatDoor
