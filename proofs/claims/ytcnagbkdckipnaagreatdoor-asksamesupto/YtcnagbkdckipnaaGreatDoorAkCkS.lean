/-
  THE WALK over the survey's expr where it asks for nodes (gen_akckw.py writes this text).
-/
import Derived.Test.YtcnagbkdckipnaaGreatDoorAkCkR
namespace Go.Proofs.YtcnagbkdckipnaaGreatDoor
open Go.RowKit Go.Lib Go.Sort
namespace Ak
theorem Bx.drew {B : Nat} {v0 v1 v2 v3 v4 v5 v6 : Value} {w : World} (h : Bx B v0 v1 v2 v3 v4 v5 v6 w) : Bx B v0 v1 v2 v3 v4 v5 v6 w.drew := h
theorem Bx.imp {B : Nat} {v0 v1 v2 v3 v4 v5 v6 : Value} {w w' : World} (h : Bx B v0 v1 v2 v3 v4 v5 v6 w) (hk : ∀ (a : Addr) v, a.block = B → w.cell? a = some v → w'.cell? a = some v) : Bx B v0 v1 v2 v3 v4 v5 v6 w' :=
  ⟨hk _ _ rfl h.1, hk _ _ rfl h.2.1, hk _ _ rfl h.2.2.1, hk _ _ rfl h.2.2.2.1, hk _ _ rfl h.2.2.2.2.1, hk _ _ rfl h.2.2.2.2.2.1, hk _ _ rfl h.2.2.2.2.2.2⟩
theorem Bx.below {B : Nat} {v0 v1 v2 v3 v4 v5 v6 : Value} {w w' : World} (h : Bx B v0 v1 v2 v3 v4 v5 v6 w) (hb : Below w.heap.size w w') : Bx B v0 v1 v2 v3 v4 v5 v6 w' := h.imp fun a _ _ e => (hb.cell (p := a) (block_lt_of_cell e)).trans e
/-- a world in which nothing of w is changed -/
structure WdB (w : World) where
  w' : World
  h : Below w.heap.size w w'
instance (w : World) : Inhabited (WdB w) := ⟨⟨w, Below.refl _ _⟩⟩
theorem wp_region_wd {P : Program} {id : Nat} {Q : Exit → Act → World → Prop} {a : Act} {w : World} {l : List Oper} (hm : P.follows .mixedOrders = true) (hB : Region.lexB .any l.toArray = true)
    (h : wpQuiet P l.toArray (fun w' => ∃ p : WdB w, w' = p.w') (fun a' => ∀ w', (∃ p : WdB w, w' = p.w') → Q .normal a' w') l a) : (Code.region id l.toArray true).wp P Q a w :=
  wp_region_quiet (C := fun w' => ∃ p : WdB w, w' = p.w') hm hB ⟨⟨w.drew, (Below.refl _ _).drew⟩, rfl⟩ (by simpa using h)
theorem wd_call {P : Program} {f : FuncId} {args : Array Value} {w : World} {p : WdB w} {v : Value} (h : Calls P f args p.w' fun r w' => r = .returned v ∧ Below p.w'.heap.size p.w' w') : Calls P f args p.w' fun e w'' => e = .returned v ∧ ∃ q : WdB w, w'' = q.w' :=
  h.mono fun _ w'' ⟨he, hb⟩ => ⟨he, ⟨w'', p.h.trans (hb.mono p.h.size)⟩, rfl⟩
theorem wd_b0 {w0 W : World} {b : Nat} {s : Sy} {w : World} (h : CkS w0 W b s w) (p : WdB w) : Below w0.heap.size w0 p.w' := (h.below p.h).b0
theorem wd_cell {w : World} {a : Addr} {v : Value} (h : w.cell? a = some v) (p : WdB w) : p.w'.cell? a = some v := (p.h.cell (p := a) (block_lt_of_cell h)).trans h
theorem Bx.pb {B P : Nat} {v0 v1 v2 v3 v4 v5 v6 : Value} {w w' : World} (h : Bx B v0 v1 v2 v3 v4 v5 v6 w) (hp : Pb P w w') (hB : B ≠ P) : Bx B v0 v1 v2 v3 v4 v5 v6 w' := h.imp fun a _ e1 e => hp.cell e (by omega)
end Ak
set_option maxRecDepth 100000 in
set_option maxHeartbeats 40000000 in
theorem ckExprSome {w0 : World} {NB QB : ByteArray → Bool} (hx : Ak.CkX w0 NB QB) (op : Int) (pa : Option Addr) (ca : Nat) (ar : List Ak.Xv) (ps : Option Addr) (cc : Nat) (st : List Ak.Sv) (aa : ByteArray) (cm : Int) (tx : ByteArray) (nu : Int) (hop : op = 3) (hza : aa.size ≤ 9223372036854775807) (hzt : tx.size ≤ 9223372036854775807) (is : ∀ a ∈ st, Ak.StepS w0 NB QB a) : Ak.ExprS w0 NB QB (.mk op pa ca ar ps cc st aa cm tx nu) := by
  intro hok W b s br hb0 hlo hC hbr
  obtain ⟨la, hla⟩ : ∃ k, ar.length = k := ⟨_, rfl⟩
  obtain ⟨ls, hls⟩ : ∃ k, st.length = k := ⟨_, rfl⟩
  change Calls Tryz.prog 136 #[.pointer (some ⟨b, 0, none⟩), .agg #[.int .i64 op, .slice pa ar.length ca, .slice ps st.length cc, .string aa, .int .i64 cm, .string tx, .int .i64 nu], .int .i64 (br : Nat)] W (Ak.ChE b W (Ak.exprC NB QB (Ak.cX (.mk op pa ca ar ps cc st aa cm tx nu)) br s))
  rw [hla, hls]
  rw [show Ak.cX (.mk op pa ca ar ps cc st aa cm tx nu) = .mk op (Ak.cXs ar) (Ak.cSs st) aa cm tx nu by simp [Ak.cX]]
  have hbl := hC.lt
  obtain ⟨z, k⟩ := s
  have c0 : W.cell? ⟨b, 0, none⟩ = some (.int .i64 z) := by rw [Lib.cell_of_heap hC]; rfl
  have f0 : W.frozen? ⟨b, 0, none⟩ = false := Lib.frozen_of_heap hC 0
  have s0 : (W.setCell ⟨b, 0, none⟩ (.int .i64 (wrap64 (z + 1)))).heap.size = W.heap.size := by simp
  have hS1 : Ak.CkS w0 W b (Ak.inc (z, k)) (W.setCell ⟨b, 0, none⟩ (.int .i64 (wrap64 (z + 1)))) := (Ak.CkS.mk hlo hb0 (.refl b W) hC).go (Ak.Pb.set _ _ _ _) (Go.Joins.block_setCell (i := 0) hC _)
  have hS2 : Ak.CkS w0 W b (Ak.inc (z, k)) ((W.setCell ⟨b, 0, none⟩ (.int .i64 (wrap64 (z + 1)))).alloc (.cells #[.int .i64 op, .slice pa la ca, .slice ps ls cc, .string aa, .int .i64 cm, .string tx, .int .i64 nu] 121)) := hS1.below ((Below.refl _ _).alloc (Nat.le_refl _) _)
  have hx2 : ((W.setCell ⟨b, 0, none⟩ (.int .i64 (wrap64 (z + 1)))).alloc (.cells #[.int .i64 op, .slice pa la ca, .slice ps ls cc, .string aa, .int .i64 cm, .string tx, .int .i64 nu] 121)).heap[W.heap.size]? = some (.cells #[.int .i64 op, .slice pa la ca, .slice ps ls cc, .string aa, .int .i64 cm, .string tx, .int .i64 nu] 121 (0, 0)) := by
    have := Ak.heap_new (W.setCell ⟨b, 0, none⟩ (.int .i64 (wrap64 (z + 1)))) (.cells #[.int .i64 op, .slice pa la ca, .slice ps ls cc, .string aa, .int .i64 cm, .string tx, .int .i64 nu] 121)
    rwa [s0] at this
  have s2 : ((W.setCell ⟨b, 0, none⟩ (.int .i64 (wrap64 (z + 1)))).alloc (.cells #[.int .i64 op, .slice pa la ca, .slice ps ls cc, .string aa, .int .i64 cm, .string tx, .int .i64 nu] 121)).heap.size = W.heap.size + 1 := by rw [World.size_alloc, s0]
  have C := ckReach ((W.setCell ⟨b, 0, none⟩ (.int .i64 (wrap64 (z + 1)))).alloc (.cells #[.int .i64 op, .slice pa la ca, .slice ps ls cc, .string aa, .int .i64 cm, .string tx, .int .i64 nu] 121)) b _ br hS2.c
  have HS2 := hide' hS2
  have HX2 := hide' hx2
  have twb : IntKind.i64.wrap ((br : Int) + 1) = ((br + 1 : Nat) : Int) := by rw [IntKind.wrap_i64]; omega
  by_cases hbr2 : br ≤ 200
  rotate_left
  · rw [show Ak.exprC NB QB (.mk op (Ak.cXs ar) (Ak.cSs st) aa cm tx nu) br (z, k) = none by unfold Ak.exprC; rw [if_neg hbr2]]
    rw [decide_eq_false hbr2] at C
    clear hok hb0 hC hS1 hS2 hx2 s0 hop is hx
    go_enter Tryz.func136, Tryz.ntmps136
    go_wp2_with fail
    refine C.mono ?_
    rintro e w3 ⟨rfl, hq, hc⟩
    have HS3 := hide' (HS2.out.go hq hc)
    clear hq hc C
    go_wp2_with fail
    go_ret
    exact ⟨rfl, HS3.out.pb⟩
  rw [decide_eq_true hbr2] at C
  rw [show Ak.Xp.mk op (Ak.cXs ar) (Ak.cSs st) aa cm tx nu = .mk 3 (Ak.cXs ar) (Ak.cSs st) aa cm tx nu by rw [hop], Ak.exprC_some NB QB _ _ aa cm tx nu br (z, k) hbr2, Ak.cXs_len, hla]
  have k0 : (op == 0) = false := by simp [hop]
  have k1 : (op == 1) = false := by simp [hop]
  have k2 : (op == 2) = false := by simp [hop]
  have k3 : (op == 3) = true := by simp [hop]
  have hcb : Ak.cbC cm ≤ 1 := by unfold Ak.cbC; split <;> omega
  have twc : IntKind.i64.wrap ((br : Int) + ((Ak.cbC cm : Nat) : Int)) = ((br + Ak.cbC cm : Nat) : Int) := by rw [IntKind.wrap_i64]; omega
  obtain ⟨R, hR⟩ : ∃ R, Ak.pathC NB QB (Ak.cSs st) (br + Ak.cbC cm) (Ak.mxS br (Ak.inc (z, k))) = R := ⟨_, rfl⟩
  rw [hR]
  have hrow := hok.rows.2
  have CPt : Hid (∀ w6, Ak.CkS w0 W b (Ak.mxS br (Ak.inc (z, k))) w6 → Calls Tryz.prog 113 #[.pointer (some ⟨b, 0, none⟩), .agg #[.slice ps ls cc], .int .i64 (br + Ak.cbC cm : Nat)] w6 (Ak.ChE b w6 R)) := hide' (fun w6 hS6 => by
    rw [← hR, ← hls]
    exact ckPath st is w6 b _ ps cc (br + Ak.cbC cm) hS6.b0 hS6.lo hrow hS6.c (by omega))
  obtain ⟨kc, hkc⟩ : ∃ t, Ak.cpB QB cm tx nu = t := ⟨_, rfl⟩
  have CCm : Hid (∀ w5, Below w0.heap.size w0 w5 → Calls Tryz.prog 154 #[.agg #[.int .i64 op, .slice pa la ca, .slice ps ls cc, .string aa, .int .i64 cm, .string tx, .int .i64 nu]] w5 fun r w' => r = .returned (.bool kc) ∧ Below w5.heap.size w5 w') := hide' (fun w5 h5 => by rw [← hkc]; exact ckCmp hx w5 op pa la ca ps ls cc aa cm tx nu hzt h5)
  obtain ⟨kn, hkn⟩ : ∃ t, NB aa = t := ⟨_, rfl⟩
  have CNm : Hid (∀ w4, Below w0.heap.size w0 w4 → Calls Tryz.prog 151 #[.string aa] w4 fun r w' => r = .returned (.bool kn) ∧ Below w4.heap.size w4 w') := hide' (fun w4 h4 => by rw [← hkn]; exact hx.nm w4 aa hza h4)
  rw [hkc, hkn]
  obtain ⟨te, hte⟩ : ∃ t, Ak.em aa = t := ⟨_, rfl⟩
  rw [hte]
  unfold Ak.em at hte
  clear hok hb0 hC hS1 hS2 hx2 s0 hop is hx hR hrow hkc hkn hla hls hcb hza hzt
  by_cases h0 : la = 0
  rotate_left
  · rw [if_neg (fun e => h0 e.1)]
    have g0 : ((la : Int) == 0) = false := by simp; omega
    go_enter Tryz.func136, Tryz.ntmps136
    go_wp2_with fail
    refine C.mono ?_
    rintro e w3 ⟨rfl, hq, hc⟩
    have HS3 := hide' (HS2.out.go hq hc)
    have xx : Ak.Bx W.heap.size (.int .i64 op) (.slice pa la ca) (.slice ps ls cc) (.string aa) (.int .i64 cm) (.string tx) (.int .i64 nu) w3 := (Ak.Bx.of ((hq.block W.heap.size (by omega) (by omega)).trans HX2.out))
    have b0 : w3.cell? ⟨W.heap.size, 0, none⟩ = some (.int .i64 op) := xx.1
    have b1 : w3.cell? ⟨W.heap.size, 1, none⟩ = some (.slice pa la ca) := xx.2.1
    have b2 : w3.cell? ⟨W.heap.size, 2, none⟩ = some (.slice ps ls cc) := xx.2.2.1
    have b3 : w3.cell? ⟨W.heap.size, 3, none⟩ = some (.string aa) := xx.2.2.2.1
    have b4 : w3.cell? ⟨W.heap.size, 4, none⟩ = some (.int .i64 cm) := xx.2.2.2.2.1
    have b5 : w3.cell? ⟨W.heap.size, 5, none⟩ = some (.string tx) := xx.2.2.2.2.2.1
    have b6 : w3.cell? ⟨W.heap.size, 6, none⟩ = some (.int .i64 nu) := xx.2.2.2.2.2.2
    clear hq hc C
    go_wp2_with fail
    have wd0 := fun p : Ak.WdB w3 => Ak.wd_cell b0 p
    have wd1 := fun p : Ak.WdB w3 => Ak.wd_cell b1 p
    have wd2 := fun p : Ak.WdB w3 => Ak.wd_cell b2 p
    have wd3 := fun p : Ak.WdB w3 => Ak.wd_cell b3 p
    have wd4 := fun p : Ak.WdB w3 => Ak.wd_cell b4 p
    have wd5 := fun p : Ak.WdB w3 => Ak.wd_cell b5 p
    have wd6 := fun p : Ak.WdB w3 => Ak.wd_cell b6 p
    refine Ak.wp_region_wd (by kernel_rfl) (by kernel_rfl) ?_
    repeat (go_big_quiet_step (first | fail))
    refine wpQuiet_nil ?_
    intro _ hw'
    obtain ⟨⟨w9, hw9⟩, rfl⟩ := hw'
    have HP9 := hide' (HS3.out.below hw9).pb
    clear hw9
    go_wp2_with fail
    go_ret
    exact ⟨rfl, HP9.out⟩
  have g0 : ((la : Int) == 0) = true := by simp; omega
  have H0 := hide' h0
  clear h0
  cases te with
  | true =>
    cases kc with
    | false =>
      rw [if_neg (fun e => by simp at e)]
      go_enter Tryz.func136, Tryz.ntmps136
      go_wp2_with fail
      refine C.mono ?_
      rintro e w3 ⟨rfl, hq, hc⟩
      have HS3 := hide' (HS2.out.go hq hc)
      have xx : Ak.Bx W.heap.size (.int .i64 op) (.slice pa la ca) (.slice ps ls cc) (.string aa) (.int .i64 cm) (.string tx) (.int .i64 nu) w3 := (Ak.Bx.of ((hq.block W.heap.size (by omega) (by omega)).trans HX2.out))
      have b0 : w3.cell? ⟨W.heap.size, 0, none⟩ = some (.int .i64 op) := xx.1
      have b1 : w3.cell? ⟨W.heap.size, 1, none⟩ = some (.slice pa la ca) := xx.2.1
      have b2 : w3.cell? ⟨W.heap.size, 2, none⟩ = some (.slice ps ls cc) := xx.2.2.1
      have b3 : w3.cell? ⟨W.heap.size, 3, none⟩ = some (.string aa) := xx.2.2.2.1
      have b4 : w3.cell? ⟨W.heap.size, 4, none⟩ = some (.int .i64 cm) := xx.2.2.2.2.1
      have b5 : w3.cell? ⟨W.heap.size, 5, none⟩ = some (.string tx) := xx.2.2.2.2.2.1
      have b6 : w3.cell? ⟨W.heap.size, 6, none⟩ = some (.int .i64 nu) := xx.2.2.2.2.2.2
      clear hq hc C
      go_wp2_with fail
      have wd0 := fun p : Ak.WdB w3 => Ak.wd_cell b0 p
      have wd1 := fun p : Ak.WdB w3 => Ak.wd_cell b1 p
      have wd2 := fun p : Ak.WdB w3 => Ak.wd_cell b2 p
      have wd3 := fun p : Ak.WdB w3 => Ak.wd_cell b3 p
      have wd4 := fun p : Ak.WdB w3 => Ak.wd_cell b4 p
      have wd5 := fun p : Ak.WdB w3 => Ak.wd_cell b5 p
      have wd6 := fun p : Ak.WdB w3 => Ak.wd_cell b6 p
      refine Ak.wp_region_wd (by kernel_rfl) (by kernel_rfl) ?_
      repeat (go_big_quiet_step (first | (go_at_call 154; exact Ak.wd_call (CCm.out _ (Ak.wd_b0 HS3.out _)))))
      refine wpQuiet_nil ?_
      intro _ hw'
      obtain ⟨⟨w9, hw9⟩, rfl⟩ := hw'
      have HP9 := hide' (HS3.out.below hw9).pb
      clear hw9
      go_wp2_with fail
      go_ret
      exact ⟨rfl, HP9.out⟩
    | true =>
      rw [if_pos ⟨H0.out, rfl, rfl⟩]
      cases R with
      | none =>
        go_enter Tryz.func136, Tryz.ntmps136
        go_wp2_with fail
        refine C.mono ?_
        rintro e w3 ⟨rfl, hq, hc⟩
        have HS3 := hide' ((HS2.out.go hq hc).below (Below.refl _ w3).drew)
        have xx : Ak.Bx W.heap.size (.int .i64 op) (.slice pa la ca) (.slice ps ls cc) (.string aa) (.int .i64 cm) (.string tx) (.int .i64 nu) w3.drew := (Ak.Bx.of ((hq.block W.heap.size (by omega) (by omega)).trans HX2.out)).drew
        have b0 : w3.cell? ⟨W.heap.size, 0, none⟩ = some (.int .i64 op) := xx.1
        have b1 : w3.cell? ⟨W.heap.size, 1, none⟩ = some (.slice pa la ca) := xx.2.1
        have b2 : w3.cell? ⟨W.heap.size, 2, none⟩ = some (.slice ps ls cc) := xx.2.2.1
        have b3 : w3.cell? ⟨W.heap.size, 3, none⟩ = some (.string aa) := xx.2.2.2.1
        have b4 : w3.cell? ⟨W.heap.size, 4, none⟩ = some (.int .i64 cm) := xx.2.2.2.2.1
        have b5 : w3.cell? ⟨W.heap.size, 5, none⟩ = some (.string tx) := xx.2.2.2.2.2.1
        have b6 : w3.cell? ⟨W.heap.size, 6, none⟩ = some (.int .i64 nu) := xx.2.2.2.2.2.2
        obtain ⟨y30, y31, y32, y33, y34, y35, y36⟩ := id xx
        clear hq hc C
        go_wp2_with fail
        first
          | (go_region_with (first | (go_at_call 154; refine (CCm.out _ HS3.out.b0).mono ?_; rintro e w5 ⟨rfl, hb5⟩; have HS5 := hide' (HS3.out.below hb5); have z5 := Ak.Bx.below xx hb5; obtain ⟨y50, y51, y52, y53, y54, y55, y56⟩ := id z5; clear hb5) | (go_at_call 155; refine (ckBrackets w5 cm).mono ?_; rintro e w6 ⟨rfl, hb6⟩; have HS6 := hide' (HS5.out.below hb6); have z6 := Ak.Bx.below z5 hb6; obtain ⟨y60, y61, y62, y63, y64, y65, y66⟩ := id z6; clear hb6) | (go_at_call 113; refine (CPt.out w6 HS6.out).mono ?_; rintro e w7 ⟨rfl, hq⟩; have HP7 := hide' (HS6.out.pb.trans hq); clear hq)))
          | fail
        all_goals
          go_wp2_with fail
          go_ret
          exact ⟨rfl, HP7.out⟩
      | some s2 =>
        go_enter Tryz.func136, Tryz.ntmps136
        go_wp2_with fail
        refine C.mono ?_
        rintro e w3 ⟨rfl, hq, hc⟩
        have HS3 := hide' ((HS2.out.go hq hc).below (Below.refl _ w3).drew)
        have xx : Ak.Bx W.heap.size (.int .i64 op) (.slice pa la ca) (.slice ps ls cc) (.string aa) (.int .i64 cm) (.string tx) (.int .i64 nu) w3.drew := (Ak.Bx.of ((hq.block W.heap.size (by omega) (by omega)).trans HX2.out)).drew
        have b0 : w3.cell? ⟨W.heap.size, 0, none⟩ = some (.int .i64 op) := xx.1
        have b1 : w3.cell? ⟨W.heap.size, 1, none⟩ = some (.slice pa la ca) := xx.2.1
        have b2 : w3.cell? ⟨W.heap.size, 2, none⟩ = some (.slice ps ls cc) := xx.2.2.1
        have b3 : w3.cell? ⟨W.heap.size, 3, none⟩ = some (.string aa) := xx.2.2.2.1
        have b4 : w3.cell? ⟨W.heap.size, 4, none⟩ = some (.int .i64 cm) := xx.2.2.2.2.1
        have b5 : w3.cell? ⟨W.heap.size, 5, none⟩ = some (.string tx) := xx.2.2.2.2.2.1
        have b6 : w3.cell? ⟨W.heap.size, 6, none⟩ = some (.int .i64 nu) := xx.2.2.2.2.2.2
        obtain ⟨y30, y31, y32, y33, y34, y35, y36⟩ := id xx
        clear hq hc C
        go_wp2_with fail
        first
          | (go_region_with (first | (go_at_call 154; refine (CCm.out _ HS3.out.b0).mono ?_; rintro e w5 ⟨rfl, hb5⟩; have HS5 := hide' (HS3.out.below hb5); have z5 := Ak.Bx.below xx hb5; obtain ⟨y50, y51, y52, y53, y54, y55, y56⟩ := id z5; clear hb5) | (go_at_call 155; refine (ckBrackets w5 cm).mono ?_; rintro e w6 ⟨rfl, hb6⟩; have HS6 := hide' (HS5.out.below hb6); have z6 := Ak.Bx.below z5 hb6; obtain ⟨y60, y61, y62, y63, y64, y65, y66⟩ := id z6; clear hb6) | (go_at_call 113; refine (CPt.out w6 HS6.out).mono ?_; rintro e w7 ⟨rfl, hq, hc⟩; have HS7 := hide' (HS6.out.go hq hc); clear hq hc)))
          | fail
        all_goals
          go_wp2_with fail
          go_ret
          exact ⟨rfl, HS7.out.pb, HS7.out.c⟩
  | false =>
    cases kn with
    | false =>
      rw [if_neg (fun e => by simp at e)]
      go_enter Tryz.func136, Tryz.ntmps136
      go_wp2_with fail
      refine C.mono ?_
      rintro e w3 ⟨rfl, hq, hc⟩
      have HS3 := hide' (HS2.out.go hq hc)
      have xx : Ak.Bx W.heap.size (.int .i64 op) (.slice pa la ca) (.slice ps ls cc) (.string aa) (.int .i64 cm) (.string tx) (.int .i64 nu) w3 := (Ak.Bx.of ((hq.block W.heap.size (by omega) (by omega)).trans HX2.out))
      have b0 : w3.cell? ⟨W.heap.size, 0, none⟩ = some (.int .i64 op) := xx.1
      have b1 : w3.cell? ⟨W.heap.size, 1, none⟩ = some (.slice pa la ca) := xx.2.1
      have b2 : w3.cell? ⟨W.heap.size, 2, none⟩ = some (.slice ps ls cc) := xx.2.2.1
      have b3 : w3.cell? ⟨W.heap.size, 3, none⟩ = some (.string aa) := xx.2.2.2.1
      have b4 : w3.cell? ⟨W.heap.size, 4, none⟩ = some (.int .i64 cm) := xx.2.2.2.2.1
      have b5 : w3.cell? ⟨W.heap.size, 5, none⟩ = some (.string tx) := xx.2.2.2.2.2.1
      have b6 : w3.cell? ⟨W.heap.size, 6, none⟩ = some (.int .i64 nu) := xx.2.2.2.2.2.2
      clear hq hc C
      go_wp2_with fail
      have wd0 := fun p : Ak.WdB w3 => Ak.wd_cell b0 p
      have wd1 := fun p : Ak.WdB w3 => Ak.wd_cell b1 p
      have wd2 := fun p : Ak.WdB w3 => Ak.wd_cell b2 p
      have wd3 := fun p : Ak.WdB w3 => Ak.wd_cell b3 p
      have wd4 := fun p : Ak.WdB w3 => Ak.wd_cell b4 p
      have wd5 := fun p : Ak.WdB w3 => Ak.wd_cell b5 p
      have wd6 := fun p : Ak.WdB w3 => Ak.wd_cell b6 p
      refine Ak.wp_region_wd (by kernel_rfl) (by kernel_rfl) ?_
      repeat (go_big_quiet_step (first | (go_at_call 151; exact Ak.wd_call (CNm.out _ (Ak.wd_b0 HS3.out _)))))
      refine wpQuiet_nil ?_
      intro _ hw'
      obtain ⟨⟨w9, hw9⟩, rfl⟩ := hw'
      have HP9 := hide' (HS3.out.below hw9).pb
      clear hw9
      go_wp2_with fail
      go_ret
      exact ⟨rfl, HP9.out⟩
    | true =>
      cases kc with
      | false =>
        rw [if_neg (fun e => by simp at e)]
        go_enter Tryz.func136, Tryz.ntmps136
        go_wp2_with fail
        refine C.mono ?_
        rintro e w3 ⟨rfl, hq, hc⟩
        have HS3 := hide' (HS2.out.go hq hc)
        have xx : Ak.Bx W.heap.size (.int .i64 op) (.slice pa la ca) (.slice ps ls cc) (.string aa) (.int .i64 cm) (.string tx) (.int .i64 nu) w3 := (Ak.Bx.of ((hq.block W.heap.size (by omega) (by omega)).trans HX2.out))
        have b0 : w3.cell? ⟨W.heap.size, 0, none⟩ = some (.int .i64 op) := xx.1
        have b1 : w3.cell? ⟨W.heap.size, 1, none⟩ = some (.slice pa la ca) := xx.2.1
        have b2 : w3.cell? ⟨W.heap.size, 2, none⟩ = some (.slice ps ls cc) := xx.2.2.1
        have b3 : w3.cell? ⟨W.heap.size, 3, none⟩ = some (.string aa) := xx.2.2.2.1
        have b4 : w3.cell? ⟨W.heap.size, 4, none⟩ = some (.int .i64 cm) := xx.2.2.2.2.1
        have b5 : w3.cell? ⟨W.heap.size, 5, none⟩ = some (.string tx) := xx.2.2.2.2.2.1
        have b6 : w3.cell? ⟨W.heap.size, 6, none⟩ = some (.int .i64 nu) := xx.2.2.2.2.2.2
        clear hq hc C
        go_wp2_with fail
        have wd0 := fun p : Ak.WdB w3 => Ak.wd_cell b0 p
        have wd1 := fun p : Ak.WdB w3 => Ak.wd_cell b1 p
        have wd2 := fun p : Ak.WdB w3 => Ak.wd_cell b2 p
        have wd3 := fun p : Ak.WdB w3 => Ak.wd_cell b3 p
        have wd4 := fun p : Ak.WdB w3 => Ak.wd_cell b4 p
        have wd5 := fun p : Ak.WdB w3 => Ak.wd_cell b5 p
        have wd6 := fun p : Ak.WdB w3 => Ak.wd_cell b6 p
        refine Ak.wp_region_wd (by kernel_rfl) (by kernel_rfl) ?_
        repeat (go_big_quiet_step (first | (go_at_call 151; exact Ak.wd_call (CNm.out _ (Ak.wd_b0 HS3.out _))) | (go_at_call 154; exact Ak.wd_call (CCm.out _ (Ak.wd_b0 HS3.out _)))))
        refine wpQuiet_nil ?_
        intro _ hw'
        obtain ⟨⟨w9, hw9⟩, rfl⟩ := hw'
        have HP9 := hide' (HS3.out.below hw9).pb
        clear hw9
        go_wp2_with fail
        go_ret
        exact ⟨rfl, HP9.out⟩
      | true =>
        rw [if_pos ⟨H0.out, rfl, rfl⟩]
        cases R with
        | none =>
          go_enter Tryz.func136, Tryz.ntmps136
          go_wp2_with fail
          refine C.mono ?_
          rintro e w3 ⟨rfl, hq, hc⟩
          have HS3 := hide' ((HS2.out.go hq hc).below (Below.refl _ w3).drew)
          have xx : Ak.Bx W.heap.size (.int .i64 op) (.slice pa la ca) (.slice ps ls cc) (.string aa) (.int .i64 cm) (.string tx) (.int .i64 nu) w3.drew := (Ak.Bx.of ((hq.block W.heap.size (by omega) (by omega)).trans HX2.out)).drew
          have b0 : w3.cell? ⟨W.heap.size, 0, none⟩ = some (.int .i64 op) := xx.1
          have b1 : w3.cell? ⟨W.heap.size, 1, none⟩ = some (.slice pa la ca) := xx.2.1
          have b2 : w3.cell? ⟨W.heap.size, 2, none⟩ = some (.slice ps ls cc) := xx.2.2.1
          have b3 : w3.cell? ⟨W.heap.size, 3, none⟩ = some (.string aa) := xx.2.2.2.1
          have b4 : w3.cell? ⟨W.heap.size, 4, none⟩ = some (.int .i64 cm) := xx.2.2.2.2.1
          have b5 : w3.cell? ⟨W.heap.size, 5, none⟩ = some (.string tx) := xx.2.2.2.2.2.1
          have b6 : w3.cell? ⟨W.heap.size, 6, none⟩ = some (.int .i64 nu) := xx.2.2.2.2.2.2
          obtain ⟨y30, y31, y32, y33, y34, y35, y36⟩ := id xx
          clear hq hc C
          go_wp2_with fail
          first
            | (go_region_with (first | (go_at_call 151; refine (CNm.out _ HS3.out.b0).mono ?_; rintro e w4 ⟨rfl, hb4⟩; have HS4 := hide' (HS3.out.below hb4); have z4 := Ak.Bx.below xx hb4; obtain ⟨y40, y41, y42, y43, y44, y45, y46⟩ := id z4; clear hb4) | (go_at_call 154; refine (CCm.out _ HS4.out.b0).mono ?_; rintro e w5 ⟨rfl, hb5⟩; have HS5 := hide' (HS4.out.below hb5); have z5 := Ak.Bx.below z4 hb5; obtain ⟨y50, y51, y52, y53, y54, y55, y56⟩ := id z5; clear hb5) | (go_at_call 155; refine (ckBrackets w5 cm).mono ?_; rintro e w6 ⟨rfl, hb6⟩; have HS6 := hide' (HS5.out.below hb6); have z6 := Ak.Bx.below z5 hb6; obtain ⟨y60, y61, y62, y63, y64, y65, y66⟩ := id z6; clear hb6) | (go_at_call 113; refine (CPt.out w6 HS6.out).mono ?_; rintro e w7 ⟨rfl, hq⟩; have HP7 := hide' (HS6.out.pb.trans hq); clear hq)))
            | fail
          all_goals
            go_wp2_with fail
            go_ret
            exact ⟨rfl, HP7.out⟩
        | some s2 =>
          go_enter Tryz.func136, Tryz.ntmps136
          go_wp2_with fail
          refine C.mono ?_
          rintro e w3 ⟨rfl, hq, hc⟩
          have HS3 := hide' ((HS2.out.go hq hc).below (Below.refl _ w3).drew)
          have xx : Ak.Bx W.heap.size (.int .i64 op) (.slice pa la ca) (.slice ps ls cc) (.string aa) (.int .i64 cm) (.string tx) (.int .i64 nu) w3.drew := (Ak.Bx.of ((hq.block W.heap.size (by omega) (by omega)).trans HX2.out)).drew
          have b0 : w3.cell? ⟨W.heap.size, 0, none⟩ = some (.int .i64 op) := xx.1
          have b1 : w3.cell? ⟨W.heap.size, 1, none⟩ = some (.slice pa la ca) := xx.2.1
          have b2 : w3.cell? ⟨W.heap.size, 2, none⟩ = some (.slice ps ls cc) := xx.2.2.1
          have b3 : w3.cell? ⟨W.heap.size, 3, none⟩ = some (.string aa) := xx.2.2.2.1
          have b4 : w3.cell? ⟨W.heap.size, 4, none⟩ = some (.int .i64 cm) := xx.2.2.2.2.1
          have b5 : w3.cell? ⟨W.heap.size, 5, none⟩ = some (.string tx) := xx.2.2.2.2.2.1
          have b6 : w3.cell? ⟨W.heap.size, 6, none⟩ = some (.int .i64 nu) := xx.2.2.2.2.2.2
          obtain ⟨y30, y31, y32, y33, y34, y35, y36⟩ := id xx
          clear hq hc C
          go_wp2_with fail
          first
            | (go_region_with (first | (go_at_call 151; refine (CNm.out _ HS3.out.b0).mono ?_; rintro e w4 ⟨rfl, hb4⟩; have HS4 := hide' (HS3.out.below hb4); have z4 := Ak.Bx.below xx hb4; obtain ⟨y40, y41, y42, y43, y44, y45, y46⟩ := id z4; clear hb4) | (go_at_call 154; refine (CCm.out _ HS4.out.b0).mono ?_; rintro e w5 ⟨rfl, hb5⟩; have HS5 := hide' (HS4.out.below hb5); have z5 := Ak.Bx.below z4 hb5; obtain ⟨y50, y51, y52, y53, y54, y55, y56⟩ := id z5; clear hb5) | (go_at_call 155; refine (ckBrackets w5 cm).mono ?_; rintro e w6 ⟨rfl, hb6⟩; have HS6 := hide' (HS5.out.below hb6); have z6 := Ak.Bx.below z5 hb6; obtain ⟨y60, y61, y62, y63, y64, y65, y66⟩ := id z6; clear hb6) | (go_at_call 113; refine (CPt.out w6 HS6.out).mono ?_; rintro e w7 ⟨rfl, hq, hc⟩; have HS7 := hide' (HS6.out.go hq hc); clear hq hc)))
            | fail
          all_goals
            go_wp2_with fail
            go_ret
            exact ⟨rfl, HS7.out.pb, HS7.out.c⟩
end Go.Proofs.YtcnagbkdckipnaaGreatDoor
