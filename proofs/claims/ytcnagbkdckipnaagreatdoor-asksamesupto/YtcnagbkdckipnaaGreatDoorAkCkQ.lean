import Derived.Test.YtcnagbkdckipnaaGreatDoorAkCkN
/-
  WALKS over the survey's path, step and parts (gen_akckw.py writes this text).
-/
namespace Go.Proofs.YtcnagbkdckipnaaGreatDoor
open Go.RowKit Go.Lib Go.Sort
namespace Ak
/-- where the survey stands: all that was there when it began is as it was -/
structure CkS (w0 W : World) (b : Nat) (s : Sy) (w : World) : Prop where
  lo : w0.heap.size ≤ b
  b0 : Below w0.heap.size w0 w
  pb : Pb b W w
  c : SvC w b s
theorem CkS.below {w0 W : World} {b : Nat} {s : Sy} {w w' : World} (h : CkS w0 W b s w) (hb : Below w.heap.size w w') : CkS w0 W b s w' := ⟨h.lo, h.b0.trans (hb.mono h.b0.size), h.pb.trans (.of_below hb), h.c.below hb⟩
theorem CkS.go {w0 W : World} {b : Nat} {s s' : Sy} {w w' : World} (h : CkS w0 W b s w) (hp : Pb b w w') (hc : SvC w' b s') : CkS w0 W b s' w' := ⟨h.lo, Pb.new h.b0 hp h.lo, h.pb.trans hp, hc⟩
theorem CkS.cell {w0 W : World} {b : Nat} {s : Sy} {w : World} (h : CkS w0 W b s w) {a : Addr} {v : Value} (e : w0.cell? a = some v) : w.cell? a = some v := (h.b0.cell (p := a) (block_lt_of_cell e)).trans e
def arX : Xv → List Xv | .mk _ _ _ l _ _ _ _ _ _ _ => l
/-- what is asked of step, expr, parts, path -/
def StepS (w0 : World) (NB QB : ByteArray → Bool) (x : Sv) : Prop := OkS w0 x → ∀ (W : World) (b : Nat) (s : Sy) (br : Nat), Below w0.heap.size w0 W → w0.heap.size ≤ b → SvC W b s → br ≤ 201 → Calls Tryz.prog 128 #[.pointer (some ⟨b, 0, none⟩), .agg x.enc.toArray, .int .i64 (br : Nat)] W (ChE b W (stepC NB QB (cS x) br s))
def ExprS (w0 : World) (NB QB : ByteArray → Bool) (x : Xv) : Prop := OkX w0 x → ∀ (W : World) (b : Nat) (s : Sy) (br : Nat), Below w0.heap.size w0 W → w0.heap.size ≤ b → SvC W b s → br ≤ 202 → Calls Tryz.prog 136 #[.pointer (some ⟨b, 0, none⟩), .agg x.enc.toArray, .int .i64 (br : Nat)] W (ChE b W (exprC NB QB (cX x) br s))
def PartS (w0 : World) (NB QB : ByteArray → Bool) (x : Xv) : Prop := OkX w0 x → ∀ (W : World) (b : Nat) (s : Sy) (br : Nat), Below w0.heap.size w0 W → w0.heap.size ≤ b → SvC W b s → br ≤ 201 → Calls Tryz.prog 153 #[.pointer (some ⟨b, 0, none⟩), .agg x.enc.toArray, .int .i64 (br : Nat)] W (ChE b W (partC NB QB (opX (cX x)) (cXs (arX x)) br s))
def PathS (w0 : World) (NB QB : ByteArray → Bool) (l : List Sv) : Prop := ∀ (W : World) (b : Nat) (s : Sy) (p : Option Addr) (c br : Nat), Below w0.heap.size w0 W → w0.heap.size ≤ b → RowS w0 p c l → SvC W b s → br ≤ 202 → Calls Tryz.prog 113 #[.pointer (some ⟨b, 0, none⟩), .agg #[.slice p l.length c], .int .i64 (br : Nat)] W (ChE b W (pathC NB QB (cSs l) br s))
theorem cSs_len (l : List Sv) : (cSs l).length = l.length := by rw [cSs_map, List.length_map]
theorem cXs_len (l : List Xv) : (cXs l).length = l.length := by rw [cXs_map, List.length_map]
theorem stepsC_at (NB QB : ByteArray → Bool) (l : List Sv) (i : Nat) (x : Sv) (br : Nat) (s : Sy) (h : l[i]? = some x) : stepsC NB QB (cSs (l.drop i)) br s = (stepC NB QB (cS x) br s).bind (stepsC NB QB (cSs (l.drop (i + 1))) br) := by
  obtain ⟨hi, rfl⟩ := List.getElem?_eq_some_iff.1 h
  rw [List.drop_eq_getElem_cons hi, cSs, stepsC]
theorem stepsC_end (NB QB : ByteArray → Bool) (l : List Sv) (i : Nat) (br : Nat) (s : Sy) (h : l.length ≤ i) : stepsC NB QB (cSs (l.drop i)) br s = some s := by
  rw [List.drop_eq_nil_of_le h, cSs, stepsC]
theorem listC_at (NB QB : ByteArray → Bool) (l : List Xv) (i : Nat) (x : Xv) (br : Nat) (s : Sy) (h : l[i]? = some x) : listC NB QB (cXs (l.drop i)) br s = (exprC NB QB (cX x) br s).bind (listC NB QB (cXs (l.drop (i + 1))) br) := by
  obtain ⟨hi, rfl⟩ := List.getElem?_eq_some_iff.1 h
  rw [List.drop_eq_getElem_cons hi, cXs, listC]
theorem listC_end (NB QB : ByteArray → Bool) (l : List Xv) (i : Nat) (br : Nat) (s : Sy) (h : l.length ≤ i) : listC NB QB (cXs (l.drop i)) br s = some s := by
  rw [List.drop_eq_nil_of_le h, cXs, listC]
theorem partC_at (NB QB : ByteArray → Bool) (op : Int) (l : List Xv) (i : Nat) (x : Xv) (br : Nat) (s : Sy) (h : l[i]? = some x) : partC NB QB op (cXs (l.drop i)) br s = (exprC NB QB (cX x) (br + (nbB op (opX (cX x))).toNat) s).bind (partC NB QB op (cXs (l.drop (i + 1))) br) := by
  obtain ⟨hi, rfl⟩ := List.getElem?_eq_some_iff.1 h
  rw [List.drop_eq_getElem_cons hi, cXs, partC]
theorem partC_end (NB QB : ByteArray → Bool) (op : Int) (l : List Xv) (i : Nat) (br : Nat) (s : Sy) (h : l.length ≤ i) : partC NB QB op (cXs (l.drop i)) br s = some s := by
  rw [List.drop_eq_nil_of_le h, cXs, partC]
end Ak
set_option maxRecDepth 100000 in
set_option maxHeartbeats 8000000 in
theorem ckPath {w0 : World} {NB QB : ByteArray → Bool} (l : List Ak.Sv) (ih : ∀ a ∈ l, Ak.StepS w0 NB QB a) : Ak.PathS w0 NB QB l := by
  intro W b s p c br hb0 hlo hR hC hbr
  obtain ⟨h1, h2, h3⟩ := hR
  obtain ⟨n, hn⟩ : ∃ n, l.length = n := ⟨_, rfl⟩
  unfold Ak.pathC
  rw [Ak.cSs_len, hn]
  rw [hn] at h1 h3
  have hbl := hC.lt
  have hbox : Below W.heap.size W (W.alloc (.cells #[.slice p n c] 25)) := (Below.refl _ _).alloc (Nat.le_refl _) _
  have hS1 : Ak.CkS w0 W b s (W.alloc (.cells #[.slice p n c] 25)) := (Ak.CkS.mk hlo hb0 (.refl b W) hC).below hbox
  have xb := Ak.heap_new W (.cells #[.slice p n c] 25)
  have s1 : (W.alloc (.cells #[.slice p n c] 25)).heap.size = W.heap.size + 1 := World.size_alloc W _
  by_cases h0 : n = 0
  · subst h0
    rw [if_neg (by omega)]
    have HS1 := hide' hS1
    clear h1 h2 h3 hb0 hC hS1 ih hn xb hbox s1
    go_enter Tryz.func113, Tryz.ntmps113
    go_wp2_with fail
    go_ret
    exact ⟨rfl, HS1.out.pb⟩
  have t0 : ((n : Int) == 0) = false := by simp; omega
  have C := ckReach _ b s br hS1.c
  by_cases hbr2 : br ≤ 200
  rotate_left
  · rw [if_neg (fun e => hbr2 e.2)]
    rw [decide_eq_false hbr2] at C
    have HS1 := hide' hS1
    clear h1 h2 h3 hb0 hC hS1 ih hn xb hbox s1
    go_enter Tryz.func113, Tryz.ntmps113
    go_wp2_with fail
    refine C.mono ?_
    rintro e w2 ⟨rfl, hq, hc⟩
    have HS2 := hide' (HS1.out.go hq hc)
    clear hq hc C
    go_wp2_with fail
    go_ret
    exact ⟨rfl, HS2.out.pb⟩
  rw [if_pos ⟨h0, hbr2⟩]
  rw [decide_eq_true hbr2] at C
  obtain ⟨ans, hans⟩ : ∃ a, Ak.stepsC NB QB (Ak.cSs l) br (Ak.mxS br s) = a := ⟨_, rfl⟩
  rw [hans]
  have HA0 : Hid (Ak.stepsC NB QB (Ak.cSs (l.drop 0)) br (Ak.mxS br s) = ans) := hide' (by rw [List.drop_zero]; exact hans)
  have HS1 := hide' hS1
  have HXB := hide' xb
  have HN := hide' hn
  have HNC : Hid (n ≤ 9223372036854775807) := hide' (by omega)
  have H3 := hide' h3
  have IH := hide' ih
  clear h1 h2 h3 hb0 hC hS1 ih hn xb hbox hans h0
  go_enter Tryz.func113, Tryz.ntmps113
  go_wp2_with fail
  refine C.mono ?_
  rintro e w2 ⟨rfl, hq, hc⟩
  have HS2 := hide' (HS1.out.go hq hc)
  have x2 : w2.cell? ⟨W.heap.size, 0, none⟩ = some (.slice p n c) := by rw [Lib.cell_of_heap ((hq.block W.heap.size (by omega) (by omega)).trans HXB.out)]; rfl
  clear hq hc C HS1
  go_wp2_with fail
  go_loopw [22] (fun v wr => ∃ (i : Nat) (s' : Ak.Sy), v = .int .i64 i ∧ i ≤ n ∧ Hid (Ak.stepsC NB QB (Ak.cSs (l.drop i)) br s' = ans) ∧ Hid (Ak.CkS w0 W b s' wr)) (fun v _ => n - (RowKit.intOf v).toNat)
  case atStart => exact ⟨0, _, rfl, Nat.zero_le _, HA0, HS2⟩
  case round =>
    obtain ⟨i, s', rfl, hi, HA, HS⟩ := hrel
    clear HA0 HS2 x2
    by_cases hlt : i < n
    · have t1 : (i : Int) < (n : Int) := by omega
      have t0 : (0 : Int) ≤ i := by omega
      obtain ⟨g, o, rfl, hel⟩ := H3.out (by omega)
      obtain ⟨x, hx⟩ : ∃ x, l[i]? = some x := ⟨_, List.getElem?_eq_getElem (by rw [HN.out]; exact hlt)⟩
      obtain ⟨hrg, hok⟩ := hel i x hx
      have hcl := IH.out x (List.mem_of_getElem? hx) hok
      have hst := Ak.stepsC_at NB QB l i x br s' hx
      rw [HA.out] at hst
      obtain ⟨ax, te, nm, pw, cw, lw⟩ := x
      obtain ⟨lx, hlx⟩ : ∃ lx, lw.length = lx := ⟨_, rfl⟩
      have hrg2 : w0.rangeAt g (o + i * 4) [.int .i64 ax, .int .i64 te, .string nm, .slice pw lx cw] := by rw [← hlx]; exact hrg
      have HC := hide' (hcl (wr.alloc (.cells #[.int .i64 ax, .int .i64 te, .string nm, .slice pw lx cw] 61)) b s' br (HS.out.below ((Below.refl _ _).alloc (Nat.le_refl _) _)).b0 HS.out.lo (HS.out.below ((Below.refl _ _).alloc (Nat.le_refl _) _)).c (by omega))
      have HS3 := hide' (HS.out.below ((Below.refl wr.heap.size wr).alloc (Nat.le_refl _) (.cells #[.int .i64 ax, .int .i64 te, .string nm, .slice pw lx cw] 61)))
      have q0 := HS.out.cell (hrg2 0 _ rfl)
      have q1 := HS.out.cell (hrg2 1 _ rfl)
      have q2 := HS.out.cell (hrg2 2 _ rfl)
      have q3 := HS.out.cell (hrg2 3 _ rfl)
      rw [Nat.add_zero] at q0
      obtain ⟨r, hr⟩ : ∃ r, Ak.stepC NB QB (Ak.cS (.mk ax te nm pw cw lw)) br s' = r := ⟨_, rfl⟩
      rw [hr] at hst
      have HC2 : Hid (Calls Tryz.prog 128 #[.pointer (some ⟨b, 0, none⟩), .agg #[.int .i64 ax, .int .i64 te, .string nm, .slice pw lx cw], .int .i64 (br : Nat)] (wr.alloc (.cells #[.int .i64 ax, .int .i64 te, .string nm, .slice pw lx cw] 61)) (Ak.ChE b (wr.alloc (.cells #[.int .i64 ax, .int .i64 te, .string nm, .slice pw lx cw] 61)) r)) := hide' (by rw [← hr, ← hlx]; rw [← hlx] at HC; exact HC.out)
      have HST := hide' hst
      clear hel hrg hrg2 hok hcl hst hr hx hlx HC HA HS H3 IH
      go_wp2_with fail
      refine HC2.out.mono ?_
      clear HC2
      cases r with
      | none =>
        rintro e w5 ⟨rfl, hq⟩
        have HP5 := hide' (HS3.out.pb.trans hq)
        have ha : ans = none := HST.out
        subst ha
        clear hq
        go_wp2_with fail
        go_ret
        exact ⟨rfl, HP5.out⟩
      | some s2 =>
        rintro e w5 ⟨rfl, hq, hc⟩
        have HS5 := hide' (HS3.out.go hq hc)
        have HA2 : Hid (Ak.stepsC NB QB (Ak.cSs (l.drop (i + 1))) br s2 = ans) := hide' HST.out.symm
        have tw : IntKind.i64.wrap ((i : Int) + 1) = (i : Int) + 1 := by have := HNC.out; rw [IntKind.wrap_i64]; omega
        have HLT := hide' hlt
        clear hq hc HST HS3 hlt
        go_wp2_with fail
        exact ⟨⟨i + 1, s2, rfl, HLT.out, HA2, HS5⟩, by have := HLT.out; simp [RowKit.intOf]; omega⟩
    · have t1 : ¬ (i : Int) < (n : Int) := by omega
      have ha : ans = some s' := by rw [← HA.out]; exact Ak.stepsC_end NB QB l i br s' (by have := HN.out; omega)
      subst ha
      go_wp2_with fail
      go_ret
      exact ⟨rfl, HS.out.pb, HS.out.c⟩
set_option maxRecDepth 100000 in
set_option maxHeartbeats 8000000 in
theorem ckStep {w0 : World} {NB QB : ByteArray → Bool} (hx : Ak.CkX w0 NB QB) (ax te : Int) (nm : ByteArray) (pw : Option Addr) (cw : Nat) (l : List Ak.Xv) (hz : nm.size ≤ 9223372036854775807) (ih : ∀ a ∈ l, Ak.ExprS w0 NB QB a) : Ak.StepS w0 NB QB (.mk ax te nm pw cw l) := by
  intro hok W b s br hb0 hlo hC hbr
  obtain ⟨h1, h2, h3⟩ := hok.row
  obtain ⟨n, hn⟩ : ∃ n, l.length = n := ⟨_, rfl⟩
  unfold Ak.cS Ak.stepC
  change Calls Tryz.prog 128 #[.pointer (some ⟨b, 0, none⟩), .agg #[.int .i64 ax, .int .i64 te, .string nm, .slice pw l.length cw], .int .i64 (br : Nat)] W _
  rw [hn]
  rw [hn] at h1 h3
  have hbl := hC.lt
  obtain ⟨z, k⟩ := s
  have c0 : W.cell? ⟨b, 0, none⟩ = some (.int .i64 z) := by rw [Lib.cell_of_heap hC]; rfl
  have f0 : W.frozen? ⟨b, 0, none⟩ = false := Lib.frozen_of_heap hC 0
  have s0 : (W.setCell ⟨b, 0, none⟩ (.int .i64 (wrap64 (z + 1)))).heap.size = W.heap.size := by simp
  have hS1 : Ak.CkS w0 W b (Ak.inc (z, k)) (W.setCell ⟨b, 0, none⟩ (.int .i64 (wrap64 (z + 1)))) := (Ak.CkS.mk hlo hb0 (.refl b W) hC).go (Ak.Pb.set _ _ _ _) (Go.Joins.block_setCell (i := 0) hC _)
  have hS2 : Ak.CkS w0 W b (Ak.inc (z, k)) ((W.setCell ⟨b, 0, none⟩ (.int .i64 (wrap64 (z + 1)))).alloc (.cells #[.int .i64 ax, .int .i64 te, .string nm, .slice pw n cw] 61)) := hS1.below ((Below.refl _ _).alloc (Nat.le_refl _) _)
  have hx2 : ((W.setCell ⟨b, 0, none⟩ (.int .i64 (wrap64 (z + 1)))).alloc (.cells #[.int .i64 ax, .int .i64 te, .string nm, .slice pw n cw] 61)).heap[W.heap.size]? = some (.cells #[.int .i64 ax, .int .i64 te, .string nm, .slice pw n cw] 61 (0, 0)) := by
    have := Ak.heap_new (W.setCell ⟨b, 0, none⟩ (.int .i64 (wrap64 (z + 1)))) (.cells #[.int .i64 ax, .int .i64 te, .string nm, .slice pw n cw] 61)
    rwa [s0] at this
  have s2 : ((W.setCell ⟨b, 0, none⟩ (.int .i64 (wrap64 (z + 1)))).alloc (.cells #[.int .i64 ax, .int .i64 te, .string nm, .slice pw n cw] 61)).heap.size = W.heap.size + 1 := by rw [World.size_alloc, s0]
  have HS2 := hide' hS2
  have HX2 := hide' hx2
  have C := ckIsTest hx ((W.setCell ⟨b, 0, none⟩ (.int .i64 (wrap64 (z + 1)))).alloc (.cells #[.int .i64 ax, .int .i64 te, .string nm, .slice pw n cw] 61)) te nm hz hS2.b0
  have H3 := hide' h3
  have HNC : Hid (n ≤ 9223372036854775807) := hide' (by omega)
  have IH := hide' ih
  have HN := hide' hn
  clear hx hok h1 h2 h3 hn ih hb0 hC hS1 hS2 hx2 s0 hz
  by_cases ha0 : 0 ≤ ax
  rotate_left
  · rw [if_neg (fun e => ha0 e.1.1)]
    clear C
    have t1 : ax < 0 := by omega
    go_enter Tryz.func128, Tryz.ntmps128
    go_wp2_with fail
    go_ret
    exact ⟨rfl, HS2.out.pb⟩
  by_cases ha3 : ax ≤ 3
  rotate_left
  · rw [if_neg (fun e => ha3 e.1.2)]
    clear C
    have t1 : ¬ ax < 0 := by omega
    have t3 : 3 < ax := by omega
    go_enter Tryz.func128, Tryz.ntmps128
    go_wp2_with fail
    go_ret
    exact ⟨rfl, HS2.out.pb⟩
  have t1 : ¬ ax < 0 := by omega
  have t3 : ¬ 3 < ax := by omega
  obtain ⟨t, ht⟩ : ∃ t, Ak.tstB NB te nm = t := ⟨_, rfl⟩
  rw [ht] at C ⊢
  cases t
  · rw [if_neg (fun e => by simp at e)]
    go_enter Tryz.func128, Tryz.ntmps128
    go_wp2_with fail
    refine C.mono ?_
    rintro e w3 ⟨rfl, hb3⟩
    have HS3 := hide' (HS2.out.below hb3)
    clear hb3 C
    go_wp2_with fail
    go_ret
    exact ⟨rfl, HS3.out.pb⟩
  rw [if_pos ⟨⟨ha0, ha3⟩, rfl⟩]
  obtain ⟨ans, hans⟩ : ∃ a, Ak.listC NB QB (Ak.cXs l) (br + 1) (Ak.inc (z, k)) = a := ⟨_, rfl⟩
  rw [hans]
  have HA0 : Hid (Ak.listC NB QB (Ak.cXs (l.drop 0)) (br + 1) (Ak.inc (z, k)) = ans) := hide' (by rw [List.drop_zero]; exact hans)
  have twb : IntKind.i64.wrap ((br : Int) + 1) = ((br + 1 : Nat) : Int) := by rw [IntKind.wrap_i64]; omega
  clear hans ht
  go_enter Tryz.func128, Tryz.ntmps128
  go_wp2_with fail
  refine C.mono ?_
  rintro e w3 ⟨rfl, hb3⟩
  have HS3 := hide' (HS2.out.below hb3)
  have b3 : w3.cell? ⟨W.heap.size, 3, none⟩ = some (.slice pw n cw) := by rw [Lib.cell_of_heap ((hb3.block W.heap.size (by omega)).trans HX2.out)]; rfl
  clear hb3 C c0 f0 HS2
  go_wp2_with fail
  go_loopw [35] (fun v wr => ∃ (i : Nat) (s' : Ak.Sy), v = .int .i64 i ∧ i ≤ n ∧ Hid (Ak.listC NB QB (Ak.cXs (l.drop i)) (br + 1) s' = ans) ∧ Hid (Ak.CkS w0 W b s' wr)) (fun v _ => n - (RowKit.intOf v).toNat)
  case atStart => exact ⟨0, _, rfl, Nat.zero_le _, HA0, HS3⟩
  case round =>
    obtain ⟨i, s', rfl, hi, HA, HS⟩ := hrel
    clear HA0 HS3 b3
    by_cases hlt : i < n
    · have t1 : (i : Int) < (n : Int) := by omega
      have t0 : (0 : Int) ≤ i := by omega
      obtain ⟨g, o, rfl, hel⟩ := H3.out (by omega)
      obtain ⟨x, hx⟩ : ∃ x, l[i]? = some x := ⟨_, List.getElem?_eq_getElem (by rw [HN.out]; exact hlt)⟩
      obtain ⟨hrg, hok⟩ := hel i x hx
      have hcl := IH.out x (List.mem_of_getElem? hx) hok
      have hst := Ak.listC_at NB QB l i x (br + 1) s' hx
      rw [HA.out] at hst
      obtain ⟨op, pa, ca, ar, ps, cc, st, aa, cm, tx, nu⟩ := x
      obtain ⟨la, hla⟩ : ∃ k, ar.length = k := ⟨_, rfl⟩
      obtain ⟨ls, hls⟩ : ∃ k, st.length = k := ⟨_, rfl⟩
      have hrg2 : w0.rangeAt g (o + i * 7) [.int .i64 op, .slice pa la ca, .slice ps ls cc, .string aa, .int .i64 cm, .string tx, .int .i64 nu] := by rw [← hla, ← hls]; exact hrg
      have HC := hide' (hcl (wr.alloc (.cells #[.int .i64 op, .slice pa la ca, .slice ps ls cc, .string aa, .int .i64 cm, .string tx, .int .i64 nu] 121)) b s' (br + 1) (HS.out.below ((Below.refl _ _).alloc (Nat.le_refl _) _)).b0 HS.out.lo (HS.out.below ((Below.refl _ _).alloc (Nat.le_refl _) _)).c (by omega))
      have HS4 := hide' (HS.out.below ((Below.refl wr.heap.size wr).alloc (Nat.le_refl _) (.cells #[.int .i64 op, .slice pa la ca, .slice ps ls cc, .string aa, .int .i64 cm, .string tx, .int .i64 nu] 121)))
      have q0 := HS.out.cell (hrg2 0 _ rfl)
      have q1 := HS.out.cell (hrg2 1 _ rfl)
      have q2 := HS.out.cell (hrg2 2 _ rfl)
      have q3 := HS.out.cell (hrg2 3 _ rfl)
      have q4 := HS.out.cell (hrg2 4 _ rfl)
      have q5 := HS.out.cell (hrg2 5 _ rfl)
      have q6 := HS.out.cell (hrg2 6 _ rfl)
      rw [Nat.add_zero] at q0
      obtain ⟨r, hr⟩ : ∃ r, Ak.exprC NB QB (Ak.cX (.mk op pa ca ar ps cc st aa cm tx nu)) (br + 1) s' = r := ⟨_, rfl⟩
      rw [hr] at hst
      have HC2 : Hid (Calls Tryz.prog 136 #[.pointer (some ⟨b, 0, none⟩), .agg #[.int .i64 op, .slice pa la ca, .slice ps ls cc, .string aa, .int .i64 cm, .string tx, .int .i64 nu], .int .i64 (br + 1 : Nat)] (wr.alloc (.cells #[.int .i64 op, .slice pa la ca, .slice ps ls cc, .string aa, .int .i64 cm, .string tx, .int .i64 nu] 121)) (Ak.ChE b (wr.alloc (.cells #[.int .i64 op, .slice pa la ca, .slice ps ls cc, .string aa, .int .i64 cm, .string tx, .int .i64 nu] 121)) r)) := hide' (by rw [← hr, ← hla, ← hls]; rw [← hla, ← hls] at HC; exact HC.out)
      have HST := hide' hst
      clear hel hrg hrg2 hok hcl hst hr hx hla hls HC HA HS H3 IH
      go_wp2_with fail
      refine HC2.out.mono ?_
      clear HC2
      cases r with
      | none =>
        rintro e w5 ⟨rfl, hq⟩
        have HP5 := hide' (HS4.out.pb.trans hq)
        have ha : ans = none := HST.out
        subst ha
        clear hq
        go_wp2_with fail
        go_ret
        exact ⟨rfl, HP5.out⟩
      | some s2 =>
        rintro e w5 ⟨rfl, hq, hc⟩
        have HS5 := hide' (HS4.out.go hq hc)
        have HA2 : Hid (Ak.listC NB QB (Ak.cXs (l.drop (i + 1))) (br + 1) s2 = ans) := hide' HST.out.symm
        have tw : IntKind.i64.wrap ((i : Int) + 1) = (i : Int) + 1 := by have := HNC.out; rw [IntKind.wrap_i64]; omega
        have HLT := hide' hlt
        clear hq hc HST HS4 hlt
        go_wp2_with fail
        exact ⟨⟨i + 1, s2, rfl, HLT.out, HA2, HS5⟩, by have := HLT.out; simp [RowKit.intOf]; omega⟩
    · have t1 : ¬ (i : Int) < (n : Int) := by omega
      have ha : ans = some s' := by rw [← HA.out]; exact Ak.listC_end NB QB l i (br + 1) s' (by have := HN.out; omega)
      subst ha
      go_wp2_with fail
      go_ret
      exact ⟨rfl, HS.out.pb, HS.out.c⟩
end Go.Proofs.YtcnagbkdckipnaaGreatDoor
/-
  THE WALK over the survey's parts (gen_akckw.py writes this text).
-/
namespace Go.Proofs.YtcnagbkdckipnaaGreatDoor
open Go.RowKit Go.Lib Go.Sort
set_option maxRecDepth 100000 in
set_option maxHeartbeats 8000000 in
theorem ckParts {w0 : World} {NB QB : ByteArray → Bool} (oo : Int) (po : Option Addr) (co : Nat) (l : List Ak.Xv) (so : Option Addr) (sco : Nat) (sto : List Ak.Sv) (ao : ByteArray) (mo : Int) (to_ : ByteArray) (no : Int) (ih : ∀ a ∈ l, Ak.ExprS w0 NB QB a) : Ak.PartS w0 NB QB (.mk oo po co l so sco sto ao mo to_ no) := by
  intro hok W b s br hb0 hlo hC hbr
  obtain ⟨h1, h2, h3⟩ := hok.rows.1
  obtain ⟨n, hn⟩ : ∃ n, l.length = n := ⟨_, rfl⟩
  obtain ⟨ns, hns⟩ : ∃ n, sto.length = n := ⟨_, rfl⟩
  change Calls Tryz.prog 153 #[.pointer (some ⟨b, 0, none⟩), .agg #[.int .i64 oo, .slice po l.length co, .slice so sto.length sco, .string ao, .int .i64 mo, .string to_, .int .i64 no], .int .i64 (br : Nat)] W (Ak.ChE b W (Ak.partC NB QB (Ak.opX (Ak.cX (.mk oo po co l so sco sto ao mo to_ no))) (Ak.cXs l) br s))
  rw [show Ak.opX (Ak.cX (.mk oo po co l so sco sto ao mo to_ no)) = oo by simp [Ak.cX, Ak.opX]]
  rw [hn, hns]
  rw [hn] at h1 h3
  have hbl := hC.lt
  have hbox : Below W.heap.size W (W.alloc (.cells #[.int .i64 oo, .slice po n co, .slice so ns sco, .string ao, .int .i64 mo, .string to_, .int .i64 no] 121)) := (Below.refl _ _).alloc (Nat.le_refl _) _
  have hS1 : Ak.CkS w0 W b s (W.alloc (.cells #[.int .i64 oo, .slice po n co, .slice so ns sco, .string ao, .int .i64 mo, .string to_, .int .i64 no] 121)) := (Ak.CkS.mk hlo hb0 (.refl b W) hC).below hbox
  have xb := Ak.heap_new W (.cells #[.int .i64 oo, .slice po n co, .slice so ns sco, .string ao, .int .i64 mo, .string to_, .int .i64 no] 121)
  have x0 : (W.alloc (.cells #[.int .i64 oo, .slice po n co, .slice so ns sco, .string ao, .int .i64 mo, .string to_, .int .i64 no] 121)).cell? ⟨W.heap.size, 0, none⟩ = some (.int .i64 oo) := by rw [Lib.cell_of_heap xb]; rfl
  have s1 : (W.alloc (.cells #[.int .i64 oo, .slice po n co, .slice so ns sco, .string ao, .int .i64 mo, .string to_, .int .i64 no] 121)).heap.size = W.heap.size + 1 := World.size_alloc W _
  obtain ⟨ans, hans⟩ : ∃ a, Ak.partC NB QB oo (Ak.cXs l) br s = a := ⟨_, rfl⟩
  rw [hans]
  have HA0 : Hid (Ak.partC NB QB oo (Ak.cXs (l.drop 0)) br s = ans) := hide' (by rw [List.drop_zero]; exact hans)
  have HS1 := hide' hS1
  have HX1 := hide' x0
  have HN := hide' hn
  have HNC : Hid (n ≤ 9223372036854775807) := hide' (by omega)
  have H3 := hide' h3
  have IH := hide' ih
  have HSZ : Hid (W.heap.size + 1 ≤ (W.alloc (.cells #[.int .i64 oo, .slice po n co, .slice so ns sco, .string ao, .int .i64 mo, .string to_, .int .i64 no] 121)).heap.size) := hide' (by omega)
  have twb : IntKind.i64.wrap ((br : Int) + 1) = ((br + 1 : Nat) : Int) := by rw [IntKind.wrap_i64]; omega
  clear hok h1 h2 h3 hb0 hC hS1 ih hn hns xb x0 hbox hans s1
  go_enter Tryz.func153, Tryz.ntmps153
  go_wp2_with fail
  go_loopw [13] (fun v wr => ∃ (i : Nat) (s' : Ak.Sy), v = .int .i64 i ∧ i ≤ n ∧ Hid (Ak.partC NB QB oo (Ak.cXs (l.drop i)) br s' = ans) ∧ Hid (Ak.CkS w0 W b s' wr) ∧ Hid (wr.cell? ⟨W.heap.size, 0, none⟩ = some (.int .i64 oo)) ∧ Hid (W.heap.size + 1 ≤ wr.heap.size)) (fun v _ => n - (RowKit.intOf v).toNat)
  case atStart => exact ⟨0, _, rfl, Nat.zero_le _, HA0, HS1, HX1, HSZ⟩
  case round =>
    obtain ⟨i, s', rfl, hi, HA, HS, HX, HZ⟩ := hrel
    clear HA0 HS1 HX1 HSZ
    by_cases hlt : i < n
    · have t1 : (i : Int) < (n : Int) := by omega
      have t0 : (0 : Int) ≤ i := by omega
      obtain ⟨g, o, rfl, hel⟩ := H3.out (by omega)
      obtain ⟨x, hx⟩ : ∃ x, l[i]? = some x := ⟨_, List.getElem?_eq_getElem (by rw [HN.out]; exact hlt)⟩
      obtain ⟨hrg, hok⟩ := hel i x hx
      have hcl := IH.out x (List.mem_of_getElem? hx) hok
      have hst := Ak.partC_at NB QB oo l i x br s' hx
      rw [HA.out] at hst
      obtain ⟨op, pa, ca, ar, ps, cc, st, aa, cm, tx, nu⟩ := x
      rw [show Ak.opX (Ak.cX (.mk op pa ca ar ps cc st aa cm tx nu)) = op by simp [Ak.cX, Ak.opX]] at hst
      obtain ⟨la, hla⟩ : ∃ k, ar.length = k := ⟨_, rfl⟩
      obtain ⟨ls, hls⟩ : ∃ k, st.length = k := ⟨_, rfl⟩
      have hrg2 : w0.rangeAt g (o + i * 7) [.int .i64 op, .slice pa la ca, .slice ps ls cc, .string aa, .int .i64 cm, .string tx, .int .i64 nu] := by rw [← hla, ← hls]; exact hrg
      have hEl : Below wr.heap.size wr (wr.alloc (.cells #[.int .i64 op, .slice pa la ca, .slice ps ls cc, .string aa, .int .i64 cm, .string tx, .int .i64 nu] 121)) := (Below.refl _ _).alloc (Nat.le_refl _) _
      have HS4 := hide' (HS.out.below hEl)
      have HE4 := hide' (Ak.heap_new wr (.cells #[.int .i64 op, .slice pa la ca, .slice ps ls cc, .string aa, .int .i64 cm, .string tx, .int .i64 nu] 121))
      have x4 : (wr.alloc (.cells #[.int .i64 op, .slice pa la ca, .slice ps ls cc, .string aa, .int .i64 cm, .string tx, .int .i64 nu] 121)).cell? ⟨W.heap.size, 0, none⟩ = some (.int .i64 oo) := (hEl.cell (p := ⟨W.heap.size, 0, none⟩) (block_lt_of_cell HX.out)).trans HX.out
      have HX4 := hide' x4
      have s4 : (wr.alloc (.cells #[.int .i64 op, .slice pa la ca, .slice ps ls cc, .string aa, .int .i64 cm, .string tx, .int .i64 nu] 121)).heap.size = wr.heap.size + 1 := World.size_alloc wr _
      have CN := hide' (ckNeeds (wr.alloc (.cells #[.int .i64 op, .slice pa la ca, .slice ps ls cc, .string aa, .int .i64 cm, .string tx, .int .i64 nu] 121)) oo op)
      have q0 := HS.out.cell (hrg2 0 _ rfl)
      have q1 := HS.out.cell (hrg2 1 _ rfl)
      have q2 := HS.out.cell (hrg2 2 _ rfl)
      have q3 := HS.out.cell (hrg2 3 _ rfl)
      have q4 := HS.out.cell (hrg2 4 _ rfl)
      have q5 := HS.out.cell (hrg2 5 _ rfl)
      have q6 := HS.out.cell (hrg2 6 _ rfl)
      rw [Nat.add_zero] at q0
      obtain ⟨t, ht⟩ : ∃ t, Ak.nbB oo op = t := ⟨_, rfl⟩
      rw [ht] at hst CN
      obtain ⟨r, hr⟩ : ∃ r, Ak.exprC NB QB (Ak.cX (.mk op pa ca ar ps cc st aa cm tx nu)) (br + t.toNat) s' = r := ⟨_, rfl⟩
      rw [hr] at hst
      have HC2 : Hid (∀ w5, Ak.CkS w0 W b s' w5 → Calls Tryz.prog 136 #[.pointer (some ⟨b, 0, none⟩), .agg #[.int .i64 op, .slice pa la ca, .slice ps ls cc, .string aa, .int .i64 cm, .string tx, .int .i64 nu], .int .i64 (br + t.toNat : Nat)] w5 (Ak.ChE b w5 r)) := hide' (fun w5 hS5 => by
        rw [← hr, ← hla, ← hls]
        exact hcl w5 b s' (br + t.toNat) hS5.b0 hS5.lo hS5.c (by have := Bool.toNat_le t; omega))
      have HST := hide' hst
      have HZ2 := hide' HZ.out
      have x0 := HX.out
      clear hel hrg hrg2 hok hcl hst hr ht hx hla hls HA HS H3 IH hEl
      go_wp2_with fail
      refine CN.out.mono ?_
      rintro e w5 ⟨rfl, hb5⟩
      have HS5 := hide' (HS4.out.below hb5)
      have HX5 := hide' ((hb5.cell (p := ⟨W.heap.size, 0, none⟩) (block_lt_of_cell HX4.out)).trans HX4.out)
      have he5 := (hb5.block wr.heap.size (by omega)).trans HE4.out
      have e0 : w5.cell? ⟨wr.heap.size, 0, none⟩ = some (.int .i64 op) := by rw [Lib.cell_of_heap he5]; rfl
      have e1 : w5.cell? ⟨wr.heap.size, 1, none⟩ = some (.slice pa la ca) := by rw [Lib.cell_of_heap he5]; rfl
      have e2 : w5.cell? ⟨wr.heap.size, 2, none⟩ = some (.slice ps ls cc) := by rw [Lib.cell_of_heap he5]; rfl
      have e3 : w5.cell? ⟨wr.heap.size, 3, none⟩ = some (.string aa) := by rw [Lib.cell_of_heap he5]; rfl
      have e4 : w5.cell? ⟨wr.heap.size, 4, none⟩ = some (.int .i64 cm) := by rw [Lib.cell_of_heap he5]; rfl
      have e5 : w5.cell? ⟨wr.heap.size, 5, none⟩ = some (.string tx) := by rw [Lib.cell_of_heap he5]; rfl
      have e6 : w5.cell? ⟨wr.heap.size, 6, none⟩ = some (.int .i64 nu) := by rw [Lib.cell_of_heap he5]; rfl
      have hs5 := hb5.size
      clear hb5 CN he5 x4 x0
      cases t
      · go_wp2_with fail
        refine (HC2.out _ HS5.out).mono ?_
        clear HC2
        cases r with
        | none =>
          rintro e w6 ⟨rfl, hq⟩
          have HP6 := hide' (HS5.out.pb.trans hq)
          have ha : ans = none := HST.out
          subst ha
          clear hq
          go_wp2_with fail
          go_ret
          exact ⟨rfl, HP6.out⟩
        | some s2 =>
          rintro e w6 ⟨rfl, hq, hc⟩
          have HS6 := hide' (HS5.out.go hq hc)
          have HX6 := hide' (hq.cell HX5.out (by show W.heap.size ≠ b; omega))
          have HZ6 : Hid (W.heap.size + 1 ≤ w6.heap.size) := hide' (by have := hq.size; have := HZ2.out; omega)
          have HA2 : Hid (Ak.partC NB QB oo (Ak.cXs (l.drop (i + 1))) br s2 = ans) := hide' HST.out.symm
          have tw : IntKind.i64.wrap ((i : Int) + 1) = (i : Int) + 1 := by have := HNC.out; rw [IntKind.wrap_i64]; omega
          have HLT := hide' hlt
          clear hq hc HST HS5 HX5 hlt
          go_wp2_with fail
          exact ⟨⟨i + 1, s2, rfl, HLT.out, HA2, HS6, HX6, HZ6⟩, by have := HLT.out; simp [RowKit.intOf]; omega⟩
      · go_wp2_with fail
        refine (HC2.out _ HS5.out).mono ?_
        clear HC2
        cases r with
        | none =>
          rintro e w6 ⟨rfl, hq⟩
          have HP6 := hide' (HS5.out.pb.trans hq)
          have ha : ans = none := HST.out
          subst ha
          clear hq
          go_wp2_with fail
          go_ret
          exact ⟨rfl, HP6.out⟩
        | some s2 =>
          rintro e w6 ⟨rfl, hq, hc⟩
          have HS6 := hide' (HS5.out.go hq hc)
          have HX6 := hide' (hq.cell HX5.out (by show W.heap.size ≠ b; omega))
          have HZ6 : Hid (W.heap.size + 1 ≤ w6.heap.size) := hide' (by have := hq.size; have := HZ2.out; omega)
          have HA2 : Hid (Ak.partC NB QB oo (Ak.cXs (l.drop (i + 1))) br s2 = ans) := hide' HST.out.symm
          have tw : IntKind.i64.wrap ((i : Int) + 1) = (i : Int) + 1 := by have := HNC.out; rw [IntKind.wrap_i64]; omega
          have HLT := hide' hlt
          clear hq hc HST HS5 HX5 hlt
          go_wp2_with fail
          exact ⟨⟨i + 1, s2, rfl, HLT.out, HA2, HS6, HX6, HZ6⟩, by have := HLT.out; simp [RowKit.intOf]; omega⟩
    · have t1 : ¬ (i : Int) < (n : Int) := by omega
      have ha : ans = some s' := by rw [← HA.out]; exact Ak.partC_end NB QB oo l i br s' (by have := HN.out; omega)
      subst ha
      go_wp2_with fail
      go_ret
      exact ⟨rfl, HS.out.pb, HS.out.c⟩
end Go.Proofs.YtcnagbkdckipnaaGreatDoor
