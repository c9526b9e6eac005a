import Derived.Test.YtcggkbgbfgkaiaaDoorWfPieces
import Derived.Test.YtcggkbgbfgkaiaaDoorFdAwake
import Derived.Test.YtcggkbgbfgkaiaaDoorFdCutMath
import Derived.Test.YtcggkbgbfgkaiaaDoorWhIt
/-
  THE WALK over gimlettop.read: the characters that a Feed gives, pushed in pieces.
-/
namespace Go.Proofs.YtcggkbgbfgkaiaaDoor
open Go.RowKit Go.Lib

theorem Pcs.total {W : World} {f : Nat → Nat} {vs : List Value} {s t : Nat} (h : Pcs W f vs s t) : s ≤ t := by
  induction h with
  | nil s => exact Nat.le_refl _
  | cons _ _ _ _ _ ih => omega
/-- a Feed's row is none of characters -/
theorem feed_row_ne {w : World} {D B : Nat} {F : Nat → Nat} {N T : Nat} {E : Bool} {v : Value} {p : Nat × Nat × Nat} (h : Feed w D B F N T E v p) {B' k m : Nat} {out : Value} {ys : List Value} (ho : w.ownsRow B' 45 k out m ys) : ∀ q, out.ownBlock = some q → v.ownBlock ≠ some q := by
  obtain ⟨h0, d, n, kk, wh, bad, h1, h2⟩ := h
  intro q hq hv
  rcases ho.2 with ⟨rfl, _⟩ | ⟨g, cap, cur, rfl, _, hg, _⟩
  · cases hq
  · have e1 : g = q := Option.some.inj hq
    subst e1
    rcases h1.2.2 with ⟨rfl, _⟩ | ⟨g', cap', cur', rfl, _, hg', _⟩
    · cases hv
    · have e2 : g' = g := Option.some.inj hv
      subst e2
      rw [hg] at hg'
      cases hg'
theorem pk_ended9 (F : Nat → Nat) (N T : Nat) : (Fd.pk F N T true).2.2.2 ≠ 1 := by
  unfold Fd.pk
  repeat' split
  all_goals simp_all
theorem rrow_kept {w w' : World} {B k n : Nat} {e : TypeId} {v : Value} {ys : List Value} (h : w.ownsRow B e k v n ys) (hb : Below w.heap.size w w') : w'.ownsRow B e k v n ys := Wh.keepBelow h hb
def lenOf : Value → Nat
  | .slice _ n _ => n
  | _ => 0
theorem lenOf_row {w : World} {B k m : Nat} {e : TypeId} {out : Value} {ys : List Value} (ho : w.ownsRow B e k out m ys) : lenOf out = m := by
  rcases ho.2 with ⟨rfl, h⟩ | ⟨g, cap, cur, rfl, _⟩
  · exact h.symm
  · rfl
set_option maxRecDepth 100000 in
set_option maxHeartbeats 4000000 in
theorem topRead_any (f : Nat → Nat) (n : Nat) (pv : Option Addr) (cv : Nat) (vs : List Value) (B0 : Nat) (w : World) (hT : Lib.Utf8Tabs 0 1 w) (hf : ∀ j, f j < 256) (hn : n ≤ 1048576) (hk : vs.length ≤ 1048576)
    (hv : w.ownsRow B0 22 1 (.slice pv vs.length cv) vs.length vs) (hp : Pcs w f vs 0 n) (L : List (Nat × Nat × (Nat × Nat × Nat) × Nat)) (S : Nat × Nat × Nat × Nat) (hL : Fd.tk f n true n 0 (0, 1, 1) = L) (hS : Fd.tkE f n true n 0 (0, 1, 1) = S) :
    Calls Tryd.prog 12 #[.slice pv vs.length cv] w fun e w' => ∃ out, e = .returned (.tuple #[out, .int .i64 (Fd.pk f n S.1 true).2.2.2, .agg #[.int .i64 S.1, .int .i64 S.2.1, .int .i64 S.2.2.1, .int .i64 S.2.2.2], .bool true]) ∧ w'.ownsRow w.heap.size 45 6 out L.length (fcCells L) ∧ Below w.heap.size w w' := by
  have HLS := hide' (And.intro hL hS)
  clear hL hS
  have HV := hide' (And.intro hv (And.intro hp hT))
  clear hv hp hT
  go_enter Tryd.func12, Tryd.ntmps12
  have cNew := feedNew_abs (w.alloc (.cells #[.int .i64 0, .int .i64 0, .int .i64 0, .int .i64 0] 40)) f (w.heap.size + 1)
  have hal : Below w.heap.size w (w.alloc (.cells #[.int .i64 0, .int .i64 0, .int .i64 0, .int .i64 0] 40)) := (Below.refl _ _).alloc (Nat.le_refl _) _
  have hsz0 : (w.alloc (.cells #[.int .i64 0, .int .i64 0, .int .i64 0, .int .i64 0] 40)).heap.size = w.heap.size + 1 := by simp
  go_wp2_with fail
  refine cNew.mono ?_
  rintro e w1 ⟨rfl, hF1, hb1, hs1⟩
  rw [hsz0] at hF1 hs1
  have hB1 : Below w.heap.size w w1 := hal.trans (hb1.mono (by omega))
  have hR1 : w1.heap[w.heap.size]? = some (.cells #[.int .i64 0, .int .i64 0, .int .i64 0, .int .i64 0] 40 (0, 0)) := (hb1.block w.heap.size (by omega)).trans (heap_top _ _ rfl)
  have hv1 := Wh.keepBelow HV.out.1 hB1
  have hp1 := HV.out.2.1.kept hB1
  have H1 := hide' (And.intro hF1 (And.intro hB1 (And.intro hR1 (And.intro hv1 hp1))))
  have hcell : ∀ (W : World), Below w.heap.size w W → ∀ (don : List Value) (x : Value) (rest : List Value), vs = don ++ x :: rest → ∃ g, pv = some ⟨g, 0, none⟩ ∧ W.cell? ⟨g, don.length, none⟩ = some x := fun W hbW don x rest e => by
    obtain ⟨pp, cc, e1, hp⟩ := Wh.owns_slice HV.out.1
    cases e1
    obtain ⟨g, hg, hc⟩ := hp (by have := congrArg List.length e; simp at this; omega)
    have := hc don.length x (by rw [e]; simp)
    exact ⟨g, hg, (hbW.cell (p := ⟨g, don.length, none⟩) (block_lt_of_cell this)).trans this⟩
  have HC := hide' hcell
  clear cNew hal hF1 hb1 hB1 hR1 hv1 hp1 hcell
  go_wp2
  go_loopw [8, 17] (fun mo i wr => ∃ (s : Nat) (don rest : List Value), mo = .int .i64 s ∧ i = .int .i64 don.length ∧ vs = don ++ rest ∧ Pcs w1 f rest s n ∧ wr = w1) (fun _ i _ => vs.length - (RowKit.intOf i).toNat)
  case atStart => exact ⟨0, [], vs, rfl, rfl, rfl, H1.out.2.2.2.2, rfl⟩
  case round =>
    obtain ⟨s, don, rest, rfl, rfl, hvs, hps, hwr⟩ := hrel
    subst hwr
    have hlen : vs.length = don.length + rest.length := by rw [hvs]; simp
    have hst := hps.total
    cases hps with
    | nil => 
      have g1 : ¬ (don.length : Int) < (vs.length : Int) := by simp at hlen; omega
      have hdl : don = vs := by rw [hvs]; simp
      subst hdl
      clear hst hlen hvs
      go_wp2
      go_loopw [7, 11] (fun out i wr => ∃ (s T : Nat) (p : Nat × Nat × Nat) (v' : Value) (pre : List (Nat × Nat × (Nat × Nat × Nat) × Nat)) (d1 rest : List Value), i = .int .i64 d1.length ∧ don = d1 ++ rest ∧ Pcs w f rest s n ∧ Feed wr (w.heap.size + 1) (w.heap.size + 1) f s T false v' p ∧ wr.ownsRow (w.heap.size + 1 + 1) 45 6 out pre.length (fcCells pre) ∧ pre ++ Fd.tk f n true (n - T) T p = L ∧ Fd.tkE f n true (n - T) T p = S ∧ pre.length ≤ T ∧ Below w.heap.size w wr ∧ wr.heap[w.heap.size]? = some (.cells #[.int .i64 0, .int .i64 0, .int .i64 0, .int .i64 0] 40 (0, 0))) (fun _ i _ => don.length + 1 - (RowKit.intOf i).toNat)
      case atStart => exact ⟨0, 0, (0, 1, 1), _, [], [], don, rfl, rfl, HV.out.2.1, H1.out.1, World.ownsRow_nil _ _ _ _, HLS.out.1, HLS.out.2, Nat.le_refl _, H1.out.2.1, H1.out.2.2.1⟩
      case round =>
        obtain ⟨s, T, p, v', pre, d1, rest, rfl, hvs, hps, hFe, hout, hLe, hSe, hpl, hB, hR⟩ := hrel
        have hlen : don.length = d1.length + rest.length := by rw [hvs]; simp
        have hTab := tabs_below HV.out.2.2 hB (Nat.le_refl _)
-- ROUND
        cases hps with
        | nil =>
          have hdl : d1 = don := by rw [hvs]; simp
          subst hdl
          clear hvs hlen
          have cE := feedEnd_abs hFe
          have g1 : (d1.length : Int) ≤ (d1.length : Int) := by omega
          have HO := hide' (And.intro hout (And.intro hB hR))
          clear hout hB hR hFe hTab
          go_wp2_with fail
          refine cE.mono ?_
          rintro e w2 ⟨rfl, hF2, hBu2⟩
          obtain ⟨hout, hB, hR⟩ := HO.out
          have hszB := hB.size
          have hout2 := hBu2.row hout (by omega)
          have hB2 : Below w.heap.size w w2 := ⟨hBu2.os.trans hB.os, hBu2.tape.trans hB.tape, hBu2.output.trans hB.output, Nat.le_trans hB.size hBu2.size, fun k hk => (hBu2.block k (by omega) (by omega)).trans (hB.block k hk)⟩
          have hR2 := (hBu2.block w.heap.size (by have := (Array.getElem?_eq_some_iff.1 hR).1; exact this) (by omega)).trans hR
          clear cE hBu2 hout hB hR HO
          have HI := hide' (And.intro hF2 (And.intro hout2 (And.intro hB2 hR2)))
          have HLe := hide' (And.intro hLe hSe)
          clear hF2 hout2 hB2 hR2 hLe hSe
          go_wp2
          go_loopw [7] (fun out wr => ∃ (T' : Nat) (p' : Nat × Nat × Nat) (pre' : List (Nat × Nat × (Nat × Nat × Nat) × Nat)), Feed wr (w.heap.size + 1) (w.heap.size + 1) f n T' true v' p' ∧ wr.ownsRow (w.heap.size + 1 + 1) 45 6 out pre'.length (fcCells pre') ∧ pre' ++ Fd.tk f n true (n - T') T' p' = L ∧ Fd.tkE f n true (n - T') T' p' = S ∧ pre'.length ≤ T' ∧ Below w.heap.size w wr ∧ wr.heap[w.heap.size]? = some (.cells #[.int .i64 0, .int .i64 0, .int .i64 0, .int .i64 0] 40 (0, 0))) (fun out _ => n - lenOf out)
          case atStart => exact ⟨T, p, pre, HI.out.1, HI.out.2.1, HLe.out.1, HLe.out.2, hpl, HI.out.2.2.1, HI.out.2.2.2⟩
          case round =>
            clear HI HLe hpl
            obtain ⟨T', p', pre', hFe, hout, hLe, hSe, hpl, hB, hR⟩ := hrel
            have hTab := tabs_below HV.out.2.2 hB (Nat.le_refl _)
            have cN := feedNext_abs hTab hf hFe
            have hlo := lenOf_row hout
            have hTN := hFe.taken
            have hDlt := hFe.lt
            obtain ⟨po, co, rfl⟩ : ∃ po co, u7 = .slice po pre'.length co := by
              rcases hout.2 with ⟨e1, e2⟩ | ⟨gg, cap, cur, e1, _⟩
              · exact ⟨none, 0, by rw [e1, e2]⟩
              · exact ⟨_, _, e1⟩
            by_cases h0 : (Fd.pk f n T' true).2.2.2 = 0
            · obtain ⟨q1, q2, q3⟩ := Fd.pk_pos h0
              have hst : Fd.pk f n T' true = Fd.pk f n T' true := rfl
              obtain ⟨e1, e2⟩ := Fd.tk_step (F := f) (N := n) (E := true) (T := T') p' (by rw [hst]; exact h0)
              rw [hst] at e1 e2
              rw [Fd.pkV_have T' p' h0] at cN
              rw [e1] at hLe
              rw [e2] at hSe
              generalize Fd.adv (Fd.pk f n T' true) p' = p2 at *
              generalize (Fd.pk f n T' true).2.2.1 = z at *
              generalize (Fd.pk f n T' true).1 = r at *
              have gl : (pre'.length : Int) < (n : Int) := by omega
              have HP := hide' (And.intro hLe hSe)
              have HO := hide' (And.intro hout (And.intro hB hR))
              clear hLe hSe hout hB hR hTab hFe e1 e2 h0 hst hlo
              go_wp2_with fail
              refine cN.mono ?_
              rintro e w3 ⟨rfl, hF3, hb3⟩
              obtain ⟨hout, hB, hR⟩ := HO.out
              have ho3 := hb3.row hout (by omega)
              have hs3 := hb3.size
              have hsB := hB.size
              have hB3 : Below w.heap.size w w3 := ⟨hb3.os.trans hB.os, hb3.tape.trans hB.tape, hb3.output.trans hB.output, Nat.le_trans hB.size hb3.size, fun k hk => (hb3.block k (by omega) (by omega)).trans (hB.block k hk)⟩
              have hR3 := (hb3.block w.heap.size (Array.getElem?_eq_some_iff.1 hR).1 (by omega)).trans hR
              have HF3 := hide' (And.intro hF3 (And.intro hB3 hR3))
              obtain ⟨i0, hi, hz0, hz1, hz2⟩ := info_parts infoFc
              clear cN hF3 hb3 hout hB hR HO hB3 hR3
              go_wp2_with (at_builtin; refine wpList_append_own _ rfl _ _ 38 rfl (w.heap.size + 1 + 1) 45 i0 (.agg #[.int .i32 0, .int .i64 0, .int .i64 0, .int .i64 0, .int .i64 0, .int .i64 0]) 6 48 Tryd.underlying38 hi hz0 hz1 hz2 rfl (by decide) _ pre'.length (fcCells pre') rfl ((ho3.alloc _).alloc _) ⟨w3.heap.size + 1, 0, none⟩ 1 1 [.int .i32 (r : Nat), .int .i64 (T' : Nat), .int .i64 (p'.1 : Nat), .int .i64 (p'.2.1 : Nat), .int .i64 (p'.2.2 : Nat), .int .i64 (z : Nat)] rfl rfl ?c1 ?c2 ?c3 ?c4 ?c5 ?_)
              case c1 => exact fc_news _ r T' p'.1 p'.2.1 p'.2.2 z _ (by simp)
              case c2 => exact fc_cell r T' p'.1 p'.2.1 p'.2.2 z
              case c3 => unfold maxLen; omega
              case c4 => omega
              case c5 => simp; omega
              intro v4 w4 hown4 hgrow4 _
              obtain ⟨hF3, hB3, hR3⟩ := HF3.out
              have hx : ∀ k, k < w3.heap.size → (∀ q, (Value.slice po pre'.length co).ownBlock = some q → q ≠ k) → w4.heap[k]? = w3.heap[k]? := fun k hk hq => (hgrow4.block k (by simp; omega) (fun e => hq k e.symm rfl)).trans ((Below.heap_alloc _ _ k (by simp; omega)).trans (Below.heap_alloc _ _ k hk))
              have hlow : ∀ k, k < w.heap.size + 1 + 1 → ∀ q, (Value.slice po pre'.length co).ownBlock = some q → q ≠ k := fun k hk q hq e => by have := (ho3.lt q hq).1; omega
              have hsz4 : w3.heap.size ≤ w4.heap.size := by have := hgrow4.size; simp at this; omega
              have hne := feed_row_ne hF3 ho3
              have hF4 := hF3.keep (hx (w.heap.size + 1) (by omega) (hlow _ (by omega))) (fun q hq => hx q (hF3.row q hq).2 (fun q' hq' e => hne q' hq' (by rw [e]; exact hq)))
              have hB4 : Below w.heap.size w w4 := ⟨hgrow4.os.trans hB3.os, hgrow4.tape.trans hB3.tape, hgrow4.output.trans hB3.output, Nat.le_trans hB3.size hsz4, fun k hk => (hx k (by have := hB3.size; omega) (hlow k (by omega))).trans (hB3.block k hk)⟩
              have hR4 := (hx w.heap.size (Array.getElem?_eq_some_iff.1 hR3).1 (hlow _ (by omega))).trans hR3
              have hown5 : w4.ownsRow (w.heap.size + 1 + 1) 45 6 v4 (pre' ++ [(r, T', p', z)]).length (fcCells (pre' ++ [(r, T', p', z)])) := by
                rw [fcCells_append, List.length_append]; exact hown4
              have hlo4 := lenOf_row hown5
              have HE := hide' (And.intro hF4 (And.intro hown5 (And.intro hB4 (And.intro hR4 hlo4))))
              clear hown4 hgrow4 hF3 hB3 hR3 HF3 hx hlow hne hF4 hB4 hR4 hown5 ho3 hlo4
              go_wp2
              go_roundw
              case rel => exact ⟨T' + z, p2, pre' ++ [(r, T', p', z)], HE.out.1, HE.out.2.1, by rw [List.append_assoc]; exact HP.out.1, HP.out.2, by simp; omega, HE.out.2.2.1, HE.out.2.2.2.1⟩
              case measure => rw [HE.out.2.2.2.2]; simp [lenOf]; omega
            · by_cases h1 : (Fd.pk f n T' true).2.2.2 = 1
              · exact absurd h1 (pk_ended9 f n T')
              · have hst : Fd.pk f n T' true = Fd.pk f n T' true := rfl
                obtain ⟨e1, e2⟩ := Fd.tk_stop (F := f) (N := n) (E := true) (T := T') p' (by rw [hst]; exact h0)
                rw [e1, List.append_nil] at hLe
                rw [e2] at hSe
                rw [Fd.pkV_no T' p' h0, Fd.pk_no h0, Nat.add_zero, show Fd.adv (Fd.pk f n T' true) p' = p' by unfold Fd.adv; rw [if_neg h0]] at cN
                obtain ⟨m, hm⟩ : ∃ m, m = (Fd.pk f n T' true).2.2.2 := ⟨_, rfl⟩
                have hmq : (Fd.pk f n T' true).2.2.2 = m := by rw [hst, hm]
                have HQ := hide' (And.intro hLe (And.intro hSe hmq))
                rw [← hm] at cN h0 h1
                clear hmq hst hm e1 e2
                generalize Fd.pkY (Fd.pk f n T' true) T' p' = y at cN
                have k0 : ((m : Int) == 0) = false := by simp; omega
                have k1 : ((m : Int) != 1) = true := by simp; omega
                have HO := hide' (And.intro hout (And.intro hB hR))
                clear hLe hSe hout hB hR hTab hFe h0 h1 hlo
                go_wp2_with fail
                refine cN.mono ?_
                rintro e w3 ⟨rfl, hF3, hb3⟩
                have cPl := feedPlace_abs (hF3.below ((Below.refl w3.heap.size w3).alloc (Nat.le_refl _) (.cells #[.int .i32 (0 : Nat), .int .i64 y.1, .int .i64 y.2.1, .int .i64 y.2.2.1, .int .i64 y.2.2.2, .int .i64 (0 : Nat)] 45)))
                obtain ⟨hout, hB, hR⟩ := HO.out
                have ho3 := hb3.row hout (by omega)
                have hs3 := hb3.size
                have hsB := hB.size
                have hB3 : Below w.heap.size w w3 := ⟨hb3.os.trans hB.os, hb3.tape.trans hB.tape, hb3.output.trans hB.output, Nat.le_trans hB.size hb3.size, fun k hk => (hb3.block k (by omega) (by omega)).trans (hB.block k hk)⟩
                have hR3 := (hb3.block w.heap.size (Array.getElem?_eq_some_iff.1 hR).1 (by omega)).trans hR
                have HF3 := hide' (And.intro ho3 (And.intro hB3 hR3))
                clear cN hF3 hb3 hout hB hR HO hB3 hR3 ho3
                go_wp2_with fail
                refine cPl.mono ?_
                rintro e w5 ⟨rfl, hb5⟩
                obtain ⟨ho3, hB3, hR3⟩ := HF3.out
                have hal5 : Below w3.heap.size w3 (w3.alloc (.cells #[.int .i32 (0 : Nat), .int .i64 y.1, .int .i64 y.2.1, .int .i64 y.2.2.1, .int .i64 y.2.2.2, .int .i64 (0 : Nat)] 45)) := (Below.refl _ _).alloc (Nat.le_refl _) _
                have hb35 : Below w3.heap.size w3 w5 := hal5.trans (hb5.mono hal5.size)
                have hR5 := (hb35.block w.heap.size (Array.getElem?_eq_some_iff.1 hR3).1).trans hR3
                have r0 : w5.cell? ⟨w.heap.size, 0, none⟩ = some (.int .i64 0) := by rw [Lib.cell_of_heap hR5]; rfl
                have r1 : w5.cell? ⟨w.heap.size, 1, none⟩ = some (.int .i64 0) := by rw [Lib.cell_of_heap hR5]; rfl
                have r2 : w5.cell? ⟨w.heap.size, 2, none⟩ = some (.int .i64 0) := by rw [Lib.cell_of_heap hR5]; rfl
                have r3 : w5.cell? ⟨w.heap.size, 3, none⟩ = some (.int .i64 0) := by rw [Lib.cell_of_heap hR5]; rfl
                have rz0 : w5.frozen? ⟨w.heap.size, 0, none⟩ = false := Lib.frozen_of_heap hR5 0
                have rz1 : w5.frozen? ⟨w.heap.size, 1, none⟩ = false := Lib.frozen_of_heap hR5 1
                have rz2 : w5.frozen? ⟨w.heap.size, 2, none⟩ = false := Lib.frozen_of_heap hR5 2
                have rz3 : w5.frozen? ⟨w.heap.size, 3, none⟩ = false := Lib.frozen_of_heap hR5 3
                have HG := hide' (And.intro (rrow_kept ho3 hb35) (hB3.trans (hb35.mono hB3.size)))
                clear cPl hb5 hal5 hb35 hR5 ho3 hB3 hR3 HF3
                go_wp2
                refine bodyPost_ret (v := .tuple #[.slice po pre'.length co, .int .i64 (m : Nat), .agg #[.int .i64 (T' : Nat), .int .i64 (p'.1 : Nat), .int .i64 (p'.2.1 : Nat), .int .i64 (p'.2.2 : Nat)], .bool true]) (by simp [results, Tryd.results12, go_sem, r0, r1, r2, r3]) rfl ?_
                obtain ⟨q1, q2, q3⟩ := HQ.out
                subst q1 q2
                refine ⟨.slice po pre'.length co, ?_, ?_, ?_⟩
                · show _ = Ending.returned (.tuple #[.slice po pre'.length co, .int .i64 ((Fd.pk f n T' true).2.2.2 : Nat), _, _])
                  rw [q3]
                · refine Wh.keepRow (Wh.rebase (C := w.heap.size) HG.out.1 (by omega)) (fun k hk => ?_)
                  have := (HG.out.1.lt k hk).1
                  rw [Below.heap_setCell _ _ _ _ (by show k ≠ w.heap.size; omega), Below.heap_setCell _ _ _ _ (by show k ≠ w.heap.size; omega), Below.heap_setCell _ _ _ _ (by show k ≠ w.heap.size; omega), Below.heap_setCell _ _ _ _ (by show k ≠ w.heap.size; omega)]
                · exact (((HG.out.2.setCell (p := ⟨w.heap.size, 0, none⟩) (Nat.le_refl _) _).setCell (p := ⟨w.heap.size, 1, none⟩) (Nat.le_refl _) _).setCell (p := ⟨w.heap.size, 2, none⟩) (Nat.le_refl _) _).setCell (p := ⟨w.heap.size, 3, none⟩) (Nat.le_refl _) _
        | @cons _ _ q l cap rest hb hc hm hq h =>
          obtain ⟨g, rfl, hgc⟩ := HC.out wr hB d1 _ rest hvs
          obtain ⟨cq, frq, hq'⟩ := hq
          have hql : q < w.heap.size := (Array.getElem?_eq_some_iff.1 hq').1
          have hNn := h.total
          have hlen2 : don.length = d1.length + (rest.length + 1) := by simpa using hlen
          have g1 : (d1.length : Int) ≤ (don.length : Int) := by omega
          have g2 : (d1.length : Int) < (don.length : Int) := by omega
          have g3 : ((d1.length : Int) == (don.length : Int)) = false := by simp; omega
          have hbl := tabs_low HV.out.2.2
          have cP := feedPush_abs (G := f) hFe hTab ⟨by omega, by omega⟩ (Nat.le_refl _) ⟨q, 0, none⟩ l cap (Rn.off f s) hf (fun _ _ => rfl) (fun _ _ => rfl) (fun j u hu => by
            obtain ⟨hj, rfl⟩ := xs_get _ _ _ _ hu
            rw [Addr.add_lit]
            exact (hb.below hB (Nat.le_refl _)) j hj) ⟨by show q ≠ w.heap.size + 1; omega, fun e => by have := (hFe.row q e).1; omega⟩ (by omega)
          have HH := hide' (And.intro h hvs)
          have HLEN := hide' hlen2
          have HO := hide' (And.intro hout (And.intro hB (And.intro hR hFe)))
          clear h hb hc hm hq' hvs hlen hlen2 hout hB hR hFe hTab hbl
          go_wp2_with fail
          refine cP.mono ?_
          rintro e w2 ⟨rfl, v2, hF2, hv2, hBu2⟩
          obtain ⟨hout, hB, hR, hFe⟩ := HO.out
          have hszB := hB.size
          have hnr := feed_row_ne hFe hout
          have hout2 := Wh.keepRow hout (fun k hk => hBu2.block k (hout.lt k hk).2 (by have := (hout.lt k hk).1; omega) (hnr k hk))
          have hvr : ∀ k, k < w.heap.size + 1 → v'.ownBlock ≠ some k := fun k hk e => by have := (hFe.row k e).1; omega
          have hB2 : Below w.heap.size w w2 := ⟨hBu2.os.trans hB.os, hBu2.tape.trans hB.tape, hBu2.output.trans hB.output, Nat.le_trans hB.size hBu2.size, fun k hk => (hBu2.block k (by omega) (by omega) (hvr k (by omega))).trans (hB.block k hk)⟩
          have hR2 := (hBu2.block w.heap.size (Array.getElem?_eq_some_iff.1 hR).1 (by omega) (hvr _ (by omega))).trans hR
          clear cP hBu2 hout hB hR HO hFe hnr hvr hv2
          have HI := hide' (And.intro hF2 (And.intro hout2 (And.intro hB2 hR2)))
          have HLe := hide' (And.intro hLe hSe)
          clear hF2 hout2 hB2 hR2 hLe hSe
          go_wp2
          go_loopw [7] (fun out wr => ∃ (T' : Nat) (p' : Nat × Nat × Nat) (pre' : List (Nat × Nat × (Nat × Nat × Nat) × Nat)), Feed wr (w.heap.size + 1) (w.heap.size + 1) f (s + l) T' false v2 p' ∧ wr.ownsRow (w.heap.size + 1 + 1) 45 6 out pre'.length (fcCells pre') ∧ pre' ++ Fd.tk f n true (n - T') T' p' = L ∧ Fd.tkE f n true (n - T') T' p' = S ∧ pre'.length ≤ T' ∧ Below w.heap.size w wr ∧ wr.heap[w.heap.size]? = some (.cells #[.int .i64 0, .int .i64 0, .int .i64 0, .int .i64 0] 40 (0, 0))) (fun out _ => n - lenOf out)
          case atStart => exact ⟨T, p, pre, HI.out.1, HI.out.2.1, HLe.out.1, HLe.out.2, hpl, HI.out.2.2.1, HI.out.2.2.2⟩
          case round =>
            clear HI HLe hpl
            obtain ⟨T', p', pre', hFe, hout, hLe, hSe, hpl, hB, hR⟩ := hrel
            have hTab := tabs_below HV.out.2.2 hB (Nat.le_refl _)
            have cN := feedNext_abs hTab hf hFe
            have hlo := lenOf_row hout
            have hTN := hFe.taken
            have hDlt := hFe.lt
            obtain ⟨po, co, rfl⟩ : ∃ po co, u7 = .slice po pre'.length co := by
              rcases hout.2 with ⟨e1, e2⟩ | ⟨gg, cap, cur, e1, _⟩
              · exact ⟨none, 0, by rw [e1, e2]⟩
              · exact ⟨_, _, e1⟩
            by_cases h0 : (Fd.pk f (s + l) T' false).2.2.2 = 0
            · obtain ⟨q1, q2, q3⟩ := Fd.pk_pos h0
              have hst : Fd.pk f n T' true = Fd.pk f (s + l) T' false := Fd.pk_stays' (by omega) hNn true
              obtain ⟨e1, e2⟩ := Fd.tk_step (F := f) (N := n) (E := true) (T := T') p' (by rw [hst]; exact h0)
              rw [hst] at e1 e2
              rw [Fd.pkV_have T' p' h0] at cN
              rw [e1] at hLe
              rw [e2] at hSe
              generalize Fd.adv (Fd.pk f (s + l) T' false) p' = p2 at *
              generalize (Fd.pk f (s + l) T' false).2.2.1 = z at *
              generalize (Fd.pk f (s + l) T' false).1 = r at *
              have gl : (pre'.length : Int) < (n : Int) := by omega
              have HP := hide' (And.intro hLe hSe)
              have HO := hide' (And.intro hout (And.intro hB hR))
              clear hLe hSe hout hB hR hTab hFe e1 e2 h0 hst hlo
              go_wp2_with fail
              refine cN.mono ?_
              rintro e w3 ⟨rfl, hF3, hb3⟩
              obtain ⟨hout, hB, hR⟩ := HO.out
              have ho3 := hb3.row hout (by omega)
              have hs3 := hb3.size
              have hsB := hB.size
              have hB3 : Below w.heap.size w w3 := ⟨hb3.os.trans hB.os, hb3.tape.trans hB.tape, hb3.output.trans hB.output, Nat.le_trans hB.size hb3.size, fun k hk => (hb3.block k (by omega) (by omega)).trans (hB.block k hk)⟩
              have hR3 := (hb3.block w.heap.size (Array.getElem?_eq_some_iff.1 hR).1 (by omega)).trans hR
              have HF3 := hide' (And.intro hF3 (And.intro hB3 hR3))
              obtain ⟨i0, hi, hz0, hz1, hz2⟩ := info_parts infoFc
              clear cN hF3 hb3 hout hB hR HO hB3 hR3
              go_wp2_with (at_builtin; refine wpList_append_own _ rfl _ _ 38 rfl (w.heap.size + 1 + 1) 45 i0 (.agg #[.int .i32 0, .int .i64 0, .int .i64 0, .int .i64 0, .int .i64 0, .int .i64 0]) 6 48 Tryd.underlying38 hi hz0 hz1 hz2 rfl (by decide) _ pre'.length (fcCells pre') rfl ((ho3.alloc _).alloc _) ⟨w3.heap.size + 1, 0, none⟩ 1 1 [.int .i32 (r : Nat), .int .i64 (T' : Nat), .int .i64 (p'.1 : Nat), .int .i64 (p'.2.1 : Nat), .int .i64 (p'.2.2 : Nat), .int .i64 (z : Nat)] rfl rfl ?c1 ?c2 ?c3 ?c4 ?c5 ?_)
              case c1 => exact fc_news _ r T' p'.1 p'.2.1 p'.2.2 z _ (by simp)
              case c2 => exact fc_cell r T' p'.1 p'.2.1 p'.2.2 z
              case c3 => unfold maxLen; omega
              case c4 => omega
              case c5 => simp; omega
              intro v4 w4 hown4 hgrow4 _
              obtain ⟨hF3, hB3, hR3⟩ := HF3.out
              have hx : ∀ k, k < w3.heap.size → (∀ q, (Value.slice po pre'.length co).ownBlock = some q → q ≠ k) → w4.heap[k]? = w3.heap[k]? := fun k hk hq => (hgrow4.block k (by simp; omega) (fun e => hq k e.symm rfl)).trans ((Below.heap_alloc _ _ k (by simp; omega)).trans (Below.heap_alloc _ _ k hk))
              have hlow : ∀ k, k < w.heap.size + 1 + 1 → ∀ q, (Value.slice po pre'.length co).ownBlock = some q → q ≠ k := fun k hk q hq e => by have := (ho3.lt q hq).1; omega
              have hsz4 : w3.heap.size ≤ w4.heap.size := by have := hgrow4.size; simp at this; omega
              have hne := feed_row_ne hF3 ho3
              have hF4 := hF3.keep (hx (w.heap.size + 1) (by omega) (hlow _ (by omega))) (fun q hq => hx q (hF3.row q hq).2 (fun q' hq' e => hne q' hq' (by rw [e]; exact hq)))
              have hB4 : Below w.heap.size w w4 := ⟨hgrow4.os.trans hB3.os, hgrow4.tape.trans hB3.tape, hgrow4.output.trans hB3.output, Nat.le_trans hB3.size hsz4, fun k hk => (hx k (by have := hB3.size; omega) (hlow k (by omega))).trans (hB3.block k hk)⟩
              have hR4 := (hx w.heap.size (Array.getElem?_eq_some_iff.1 hR3).1 (hlow _ (by omega))).trans hR3
              have hown5 : w4.ownsRow (w.heap.size + 1 + 1) 45 6 v4 (pre' ++ [(r, T', p', z)]).length (fcCells (pre' ++ [(r, T', p', z)])) := by
                rw [fcCells_append, List.length_append]; exact hown4
              have hlo4 := lenOf_row hown5
              have HE := hide' (And.intro hF4 (And.intro hown5 (And.intro hB4 (And.intro hR4 hlo4))))
              clear hown4 hgrow4 hF3 hB3 hR3 HF3 hx hlow hne hF4 hB4 hR4 hown5 ho3 hlo4
              go_wp2
              go_roundw
              case rel => exact ⟨T' + z, p2, pre' ++ [(r, T', p', z)], HE.out.1, HE.out.2.1, by rw [List.append_assoc]; exact HP.out.1, HP.out.2, by simp; omega, HE.out.2.2.1, HE.out.2.2.2.1⟩
              case measure => rw [HE.out.2.2.2.2]; simp [lenOf]; omega
            · by_cases h1 : (Fd.pk f (s + l) T' false).2.2.2 = 1
              · have hcm := cN
                rw [Fd.pkV_no T' p' h0, Fd.pk_no h0, Nat.add_zero, show Fd.adv (Fd.pk f (s + l) T' false) p' = p' by unfold Fd.adv; rw [if_neg h0], h1] at hcm
                clear cN
                generalize Fd.pkY (Fd.pk f (s + l) T' false) T' p' = y at hcm
                have cN : Calls Tryd.prog 26 #[.pointer (some ⟨w.heap.size + 1, 0, none⟩)] wr fun e w' => e = .returned (.tuple #[.agg #[.int .i32 (0 : Nat), .int .i64 (y.1 : Nat), .int .i64 (y.2.1 : Nat), .int .i64 (y.2.2.1 : Nat), .int .i64 (y.2.2.2 : Nat), .int .i64 (0 : Nat)], .int .i64 1]) ∧ Feed w' (w.heap.size + 1) (w.heap.size + 1) f ((s + l)) T' false v2 p' ∧ But (w.heap.size + 1) wr w' := hcm
                have HQ := hide' (And.intro hLe hSe)
                have HO := hide' (And.intro hout (And.intro hB hR))
                clear hcm hLe hSe hout hB hR hTab hFe h0 h1 hlo
                go_wp2_with fail
                refine cN.mono ?_
                rintro e w3 ⟨rfl, hF3, hb3⟩
                obtain ⟨hout, hB, hR⟩ := HO.out
                have ho3 := hb3.row hout (by omega)
                have hs3 := hb3.size
                have hsB := hB.size
                have hB3 : Below w.heap.size w w3 := ⟨hb3.os.trans hB.os, hb3.tape.trans hB.tape, hb3.output.trans hB.output, Nat.le_trans hB.size hb3.size, fun k hk => (hb3.block k (by omega) (by omega)).trans (hB.block k hk)⟩
                have hR3 := (hb3.block w.heap.size (Array.getElem?_eq_some_iff.1 hR).1 (by omega)).trans hR
                have hal5 : Below w3.heap.size w3 (w3.alloc (.cells #[.int .i32 (0 : Nat), .int .i64 y.1, .int .i64 y.2.1, .int .i64 y.2.2.1, .int .i64 y.2.2.2, .int .i64 (0 : Nat)] 45)) := (Below.refl _ _).alloc (Nat.le_refl _) _
                have HG := hide' (And.intro (hF3.below hal5) (And.intro (rrow_kept ho3 hal5) (And.intro (hB3.trans (hal5.mono hB3.size)) ((hal5.block w.heap.size (Array.getElem?_eq_some_iff.1 hR3).1).trans hR3))))
                clear cN hF3 hb3 hout hB hR HO hB3 hR3 ho3 hal5
                go_wp2
                go_roundw
                case rel => exact ⟨s + l, T', p', v2, pre', d1 ++ [.slice (some ⟨q, 0, none⟩) l cap], rest, by simp, by rw [List.append_assoc]; exact HH.out.2, HH.out.1, HG.out.1, HG.out.2.1, HQ.out.1, HQ.out.2, hpl, HG.out.2.2.1, HG.out.2.2.2⟩
                case measure => have := HLEN.out; simp [RowKit.intOf]; omega
              · have hst : Fd.pk f n T' true = Fd.pk f (s + l) T' false := Fd.pk_stays' (by omega) hNn true
                obtain ⟨e1, e2⟩ := Fd.tk_stop (F := f) (N := n) (E := true) (T := T') p' (by rw [hst]; exact h0)
                rw [e1, List.append_nil] at hLe
                rw [e2] at hSe
                rw [Fd.pkV_no T' p' h0, Fd.pk_no h0, Nat.add_zero, show Fd.adv (Fd.pk f (s + l) T' false) p' = p' by unfold Fd.adv; rw [if_neg h0]] at cN
                obtain ⟨m, hm⟩ : ∃ m, m = (Fd.pk f (s + l) T' false).2.2.2 := ⟨_, rfl⟩
                have hmq : (Fd.pk f n T' true).2.2.2 = m := by rw [hst, hm]
                have HQ := hide' (And.intro hLe (And.intro hSe hmq))
                rw [← hm] at cN h0 h1
                clear hmq hst hm e1 e2
                generalize Fd.pkY (Fd.pk f (s + l) T' false) T' p' = y at cN
                have k0 : ((m : Int) == 0) = false := by simp; omega
                have k1 : ((m : Int) != 1) = true := by simp; omega
                have HO := hide' (And.intro hout (And.intro hB hR))
                clear hLe hSe hout hB hR hTab hFe h0 h1 hlo
                go_wp2_with fail
                refine cN.mono ?_
                rintro e w3 ⟨rfl, hF3, hb3⟩
                have cPl := feedPlace_abs (hF3.below ((Below.refl w3.heap.size w3).alloc (Nat.le_refl _) (.cells #[.int .i32 (0 : Nat), .int .i64 y.1, .int .i64 y.2.1, .int .i64 y.2.2.1, .int .i64 y.2.2.2, .int .i64 (0 : Nat)] 45)))
                obtain ⟨hout, hB, hR⟩ := HO.out
                have ho3 := hb3.row hout (by omega)
                have hs3 := hb3.size
                have hsB := hB.size
                have hB3 : Below w.heap.size w w3 := ⟨hb3.os.trans hB.os, hb3.tape.trans hB.tape, hb3.output.trans hB.output, Nat.le_trans hB.size hb3.size, fun k hk => (hb3.block k (by omega) (by omega)).trans (hB.block k hk)⟩
                have hR3 := (hb3.block w.heap.size (Array.getElem?_eq_some_iff.1 hR).1 (by omega)).trans hR
                have HF3 := hide' (And.intro ho3 (And.intro hB3 hR3))
                clear cN hF3 hb3 hout hB hR HO hB3 hR3 ho3
                go_wp2_with fail
                refine cPl.mono ?_
                rintro e w5 ⟨rfl, hb5⟩
                obtain ⟨ho3, hB3, hR3⟩ := HF3.out
                have hal5 : Below w3.heap.size w3 (w3.alloc (.cells #[.int .i32 (0 : Nat), .int .i64 y.1, .int .i64 y.2.1, .int .i64 y.2.2.1, .int .i64 y.2.2.2, .int .i64 (0 : Nat)] 45)) := (Below.refl _ _).alloc (Nat.le_refl _) _
                have hb35 : Below w3.heap.size w3 w5 := hal5.trans (hb5.mono hal5.size)
                have hR5 := (hb35.block w.heap.size (Array.getElem?_eq_some_iff.1 hR3).1).trans hR3
                have r0 : w5.cell? ⟨w.heap.size, 0, none⟩ = some (.int .i64 0) := by rw [Lib.cell_of_heap hR5]; rfl
                have r1 : w5.cell? ⟨w.heap.size, 1, none⟩ = some (.int .i64 0) := by rw [Lib.cell_of_heap hR5]; rfl
                have r2 : w5.cell? ⟨w.heap.size, 2, none⟩ = some (.int .i64 0) := by rw [Lib.cell_of_heap hR5]; rfl
                have r3 : w5.cell? ⟨w.heap.size, 3, none⟩ = some (.int .i64 0) := by rw [Lib.cell_of_heap hR5]; rfl
                have rz0 : w5.frozen? ⟨w.heap.size, 0, none⟩ = false := Lib.frozen_of_heap hR5 0
                have rz1 : w5.frozen? ⟨w.heap.size, 1, none⟩ = false := Lib.frozen_of_heap hR5 1
                have rz2 : w5.frozen? ⟨w.heap.size, 2, none⟩ = false := Lib.frozen_of_heap hR5 2
                have rz3 : w5.frozen? ⟨w.heap.size, 3, none⟩ = false := Lib.frozen_of_heap hR5 3
                have HG := hide' (And.intro (rrow_kept ho3 hb35) (hB3.trans (hb35.mono hB3.size)))
                clear cPl hb5 hal5 hb35 hR5 ho3 hB3 hR3 HF3
                go_wp2
                refine bodyPost_ret (v := .tuple #[.slice po pre'.length co, .int .i64 (m : Nat), .agg #[.int .i64 (T' : Nat), .int .i64 (p'.1 : Nat), .int .i64 (p'.2.1 : Nat), .int .i64 (p'.2.2 : Nat)], .bool true]) (by simp [results, Tryd.results12, go_sem, r0, r1, r2, r3]) rfl ?_
                obtain ⟨q1, q2, q3⟩ := HQ.out
                subst q1 q2
                refine ⟨.slice po pre'.length co, ?_, ?_, ?_⟩
                · show _ = Ending.returned (.tuple #[.slice po pre'.length co, .int .i64 ((Fd.pk f n T' true).2.2.2 : Nat), _, _])
                  rw [q3]
                · refine Wh.keepRow (Wh.rebase (C := w.heap.size) HG.out.1 (by omega)) (fun k hk => ?_)
                  have := (HG.out.1.lt k hk).1
                  rw [Below.heap_setCell _ _ _ _ (by show k ≠ w.heap.size; omega), Below.heap_setCell _ _ _ _ (by show k ≠ w.heap.size; omega), Below.heap_setCell _ _ _ _ (by show k ≠ w.heap.size; omega), Below.heap_setCell _ _ _ _ (by show k ≠ w.heap.size; omega)]
                · exact (((HG.out.2.setCell (p := ⟨w.heap.size, 0, none⟩) (Nat.le_refl _) _).setCell (p := ⟨w.heap.size, 1, none⟩) (Nat.le_refl _) _).setCell (p := ⟨w.heap.size, 2, none⟩) (Nat.le_refl _) _).setCell (p := ⟨w.heap.size, 3, none⟩) (Nat.le_refl _) _
    | @cons _ _ q l cap rest hb hc hm hq h =>
      obtain ⟨g, rfl, hgc⟩ := HC.out _ H1.out.2.1 don _ rest hvs
      have g1 : (don.length : Int) < (vs.length : Int) := by simp at hlen; omega
      have hsl := h.total
      have HH := hide' (And.intro h hvs)
      clear h hb hc hm hq hvs
      go_wp2
      go_roundw
      case rel => exact ⟨s + l, don ++ [.slice (some ⟨q, 0, none⟩) l cap], rest, by go_num, by simp, by rw [List.append_assoc]; exact HH.out.2, HH.out.1, trivial⟩
      case measure => simp [RowKit.intOf]; omega
end Go.Proofs.YtcggkbgbfgkaiaaDoor
/-
  gimlettop.read of three pieces that are written out: a character cut in two, a line end cut in two.
-/
namespace Go.Proofs.YtcggkbgbfgkaiaaDoor
open Go.RowKit Go.Lib
def f4 : Nat → Nat := fun j => if j = 0 then 195 else if j = 1 then 169 else if j = 2 then 13 else 10
theorem f4_lt (j : Nat) : f4 j < 256 := by
  unfold f4
  repeat' split
  all_goals omega
theorem f4_tk : Fd.tk f4 4 true 4 0 (0, 1, 1) = [(233, 0, (0, 1, 1), 2), (10, 2, (1, 1, 2), 2)] := by decide
theorem f4_tkE : Fd.tkE f4 4 true 4 0 (0, 1, 1) = (4, 3, 2, 1) := by decide
theorem f4_pk : (Fd.pk f4 4 4 true).2.2.2 = 3 := by decide
/-- the world with the pieces -/
def litW (w : World) : World := (((w.alloc (.cells #[.int .u8 195] 5)).alloc (.cells #[.int .u8 169, .int .u8 13] 5)).alloc (.cells #[.int .u8 10] 5)).alloc (.cells #[.slice (some ⟨w.heap.size, 0, none⟩) 1 1, .slice (some ⟨w.heap.size + 1, 0, none⟩) 2 2, .slice (some ⟨w.heap.size + 1 + 1, 0, none⟩) 1 1] 22)
theorem litW_below (w : World) : Below w.heap.size w (litW w) := ((((Below.refl _ _).alloc (Nat.le_refl _) _).alloc (by simp) _).alloc (by simp <;> omega) _).alloc (by simp <;> omega) _
theorem litW_0 (w : World) : (litW w).heap[w.heap.size]? = some (.cells #[.int .u8 195] 5 (0, 0)) :=
  (Below.heap_alloc _ _ _ (by simp <;> omega)).trans ((Below.heap_alloc _ _ _ (by simp <;> omega)).trans ((Below.heap_alloc _ _ _ (by simp)).trans (heap_top _ _ rfl)))
theorem litW_1 (w : World) : (litW w).heap[w.heap.size + 1]? = some (.cells #[.int .u8 169, .int .u8 13] 5 (0, 0)) :=
  (Below.heap_alloc _ _ _ (by simp <;> omega)).trans ((Below.heap_alloc _ _ _ (by simp)).trans (heap_top _ _ (by simp)))
theorem litW_2 (w : World) : (litW w).heap[w.heap.size + 1 + 1]? = some (.cells #[.int .u8 10] 5 (0, 0)) :=
  (Below.heap_alloc _ _ _ (by simp)).trans (heap_top _ _ (by simp))
theorem litW_3 (w : World) : (litW w).heap[w.heap.size + 1 + 1 + 1]? = some (.cells #[.slice (some ⟨w.heap.size, 0, none⟩) 1 1, .slice (some ⟨w.heap.size + 1, 0, none⟩) 2 2, .slice (some ⟨w.heap.size + 1 + 1, 0, none⟩) 1 1] 22 (0, 0)) := heap_top _ _ (by simp)
theorem litW_pcs (w : World) : Pcs (litW w) f4 [.slice (some ⟨w.heap.size, 0, none⟩) 1 1, .slice (some ⟨w.heap.size + 1, 0, none⟩) 2 2, .slice (some ⟨w.heap.size + 1 + 1, 0, none⟩) 1 1] 0 4 := by
  refine .cons (fun j hj => ?_) (Nat.le_refl _) (by omega) ⟨_, _, litW_0 w⟩ (.cons (fun j hj => ?_) (Nat.le_refl _) (by omega) ⟨_, _, litW_1 w⟩ (.cons (fun j hj => ?_) (Nat.le_refl _) (by omega) ⟨_, _, litW_2 w⟩ (.nil _)))
  · obtain rfl : j = 0 := by omega
    rw [Lib.cell_of_heap (litW_0 w)]
    rfl
  · rw [Lib.cell_of_heap (litW_1 w)]
    rcases (show j = 0 ∨ j = 1 by omega) with rfl | rfl <;> rfl
  · obtain rfl : j = 0 := by omega
    rw [Lib.cell_of_heap (litW_2 w)]
    rfl
theorem read_lit (w : World) (hT : Lib.Utf8Tabs 0 1 w) :
    Calls Tryd.prog 12 #[.slice (some ⟨w.heap.size + 1 + 1 + 1, 0, none⟩) 3 3] (litW w) fun e w' => ∃ out, e = .returned (.tuple #[out, .int .i64 3, .agg #[.int .i64 4, .int .i64 3, .int .i64 2, .int .i64 1], .bool true]) ∧
      w'.ownsRow (litW w).heap.size 45 6 out 2 (fcCells [(233, 0, (0, 1, 1), 2), (10, 2, (1, 1, 2), 2)]) ∧ Below w.heap.size w w' := by
  have h := topRead_any f4 4 (some ⟨w.heap.size + 1 + 1 + 1, 0, none⟩) 3 [.slice (some ⟨w.heap.size, 0, none⟩) 1 1, .slice (some ⟨w.heap.size + 1, 0, none⟩) 2 2, .slice (some ⟨w.heap.size + 1 + 1, 0, none⟩) 1 1] 0 (litW w) (tabs_below hT (litW_below w) (Nat.le_refl _)) f4_lt (by omega) (by simp)
    ⟨rfl, .inr ⟨w.heap.size + 1 + 1 + 1, 3, _, rfl, Nat.zero_le _, litW_3 w, Nat.le_refl _, by decide, rfl, rfl⟩⟩ (litW_pcs w) _ _ f4_tk f4_tkE
  rw [show (Fd.pk f4 4 ((4, 3, 2, 1) : Nat × Nat × Nat × Nat).1 true).2.2.2 = 3 from f4_pk] at h
  refine h.mono ?_
  rintro e w' ⟨out, rfl, ho, hb⟩
  exact ⟨out, rfl, ho, (litW_below w).trans (hb.mono (litW_below w).size)⟩
end Go.Proofs.YtcggkbgbfgkaiaaDoor
