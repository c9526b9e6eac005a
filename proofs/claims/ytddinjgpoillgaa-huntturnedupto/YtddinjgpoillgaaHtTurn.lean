/-
  THE WALK over gimletlaw16.HuntTurned (gen_turn.py).
-/
import Derived.Test.YtddinjgpoillgaaHtTurnM
import Derived.Maps.AppendAt
import Derived.Laws.IdiomStrings
namespace Go.Proofs.Ytddinjgpoillgaa
open Go.RowKit Go.Lib
theorem htInfoP : (Try.prog.info? 26).map (fun i => (i.zero, i.size, i.bytes)) = some (some (.pointer none), 1, 8) := by kernel_rfl
namespace Ht
theorem nine : ∀ {bl : List Nat}, bl.length = 9 → ∃ b0 b1 b2 b3 b4 b5 b6 b7 b8, bl = [b0, b1, b2, b3, b4, b5, b6, b7, b8]
  | [b0, b1, b2, b3, b4, b5, b6, b7, b8], _ => ⟨b0, b1, b2, b3, b4, b5, b6, b7, b8, rfl⟩
theorem own_bel {w w' : World} {base n : Nat} {e : TypeId} {v : Value} {xs : List Value} (h : w.ownsRow base e 1 v n xs) (hb : Below w.heap.size w w') : w'.ownsRow base e 1 v n xs :=
  own_blk h fun g _ _ hg => hb.block g (Array.getElem?_eq_some_iff.1 hg).1
theorem Al.congr {w : World} {B : Nat} {v : Value} {bl : List Nat} {K : Int} {T : List Nat} {Ls Ms : Nat → List Nat} {ws us : Nat → Bool} (h : Al w B v bl K T Ls ws) (e : ∀ j, j < bl.length → Ms j = Ls j ∧ us j = ws j) : Al w B v bl K T Ms us :=
  ⟨h.own, fun k b hk => by rw [(e k (List.getElem?_eq_some_iff.1 hk).1).1, (e k (List.getElem?_eq_some_iff.1 hk).1).2]; exact h.hu k b hk, h.nd, h.lo⟩
theorem one_ptr (W : World) (b : Nat) (t : TypeId) : ∀ j u, ([.pointer (some ⟨b, 0, none⟩)] : List Value)[j]? = some u → (W.alloc (.cells #[.pointer (some ⟨b, 0, none⟩)] t)).cell? (Addr.add ⟨W.heap.size, 0, none⟩ j) = some u := by
  intro j u hj
  have hl := (List.getElem?_eq_some_iff.1 hj).1
  simp at hl
  subst hl
  simp at hj
  subst hj
  simp [Addr.add]
theorem keep2 {w w' : World} {b : Nat} {p q : Addr} {x y : Value} (h : w.cell? p = some x ∧ w.cell? q = some y) (k : Hb b w w') (hp : p.block ≠ b) (hq : q.block ≠ b) : w'.cell? p = some x ∧ w'.cell? q = some y :=
  ⟨(World.cell?_of_block (a := p) (k.block p.block (block_lt_of_cell h.1) hp)).trans h.1, (World.cell?_of_block (a := q) (k.block q.block (block_lt_of_cell h.2) hq)).trans h.2⟩
theorem if_step {j k : Nat} (h : j ≠ k) (A B : List Nat) : (if j < k + 1 then A else B) = if j < k then A else B := by
  have : j < k + 1 ↔ j < k := by omega
  simp only [this]
theorem dec_step {j k : Nat} (h : j ≠ k) : decide (j < k + 1) = decide (j < k) := by
  have : j < k + 1 ↔ j < k := by omega
  simp only [this]
theorem below_drw (w : World) (k : Nat) : Below w.heap.size w (w.drewN k) := ⟨rfl, rfl, rfl, Nat.le_refl _, fun _ _ => rfl⟩
end Ht
set_option maxRecDepth 100000 in
set_option maxHeartbeats 16000000 in
theorem lawTurned16 (C N : Int) (f : Nat → Nat) (n : Nat) (vp : Value) (ps : List (List UInt8)) (w : World) (hf : ∀ j, f j < 256) (hn : n ≤ 1099511627776) (hN2 : N ≤ 9223372036854775807) (hS : Ht.Sr w vp ps) (htot : ∀ i, (Ht.Lp ps i).length ≤ 1099511627776) (hone : ∀ l ∈ ps, l.length ≤ 1099511627776) (hpl : ps.length ≤ 1099511627776) :
    Calls Try.prog 5 #[.agg #[.int .i64 C, .string (Rn.arr f n), .int .i64 N], vp] w fun r w' => r = .returned (.bool true) ∧ Below w.heap.size w w' := by
  obtain ⟨i0, hi, hz0, hz1, hz2⟩ := info_parts htInfoP
  obtain ⟨T, hT⟩ : ∃ T, Wd.R f n 0 = T := ⟨_, rfl⟩
  obtain ⟨K, hK⟩ : ∃ K : Int, max N 0 = K := ⟨_, rfl⟩
  have CN := hide' (fun w1 (i : Nat) (h : i < 9) => htNew i K f n w1 hf hn (by omega) (by omega) (by omega) (by omega))
  unfold Ht.NewE at CN
  rw [hT] at CN
  have hK2 := hK
  have CAD := hide' (fun (wr : World) b c td M l i (h : Ht.Hu wr b c td M T (Ht.Lp ps i) false) (hl : ps[i]? = some l) => by
    have := htAdd h (Rn.lf l) l.length (Rn.lf_lt _) (by have := htot i; have := hone l (List.mem_of_getElem? hl); omega)
    rw [show Ht.Lp ps i ++ Wd.R (Rn.lf l) l.length 0 = Ht.Lp ps (i + 1) from (Ht.Lp_succ hl).symm] at this
    exact this)
  obtain ⟨pp, cp, rfl, s1, s2, s3⟩ := hS
  obtain ⟨np, hnp⟩ : ∃ np, ps.length = np := ⟨_, rfl⟩
  have HNP := hide' hnp
  rw [hnp] at s1 s3 hpl
  simp only [hnp]
  have HSR := hide' s3
  obtain ⟨W, hWd⟩ : ∃ W, w.alloc (.cells #[.int .i64 C, .string (Rn.arr f n), .int .i64 N] 23) = W := ⟨_, rfl⟩
  have HBW : Hid (Below w.heap.size w W) := by rw [← hWd]; exact (Below.refl _ _).alloc (Nat.le_refl _) _
  have HUP : Hid (∀ w', Below W.heap.size W w' → Below w.heap.size w w') := fun w' h => HBW.out.trans (h.mono HBW.out.size)
  have HBX : Hid (∀ w', Below W.heap.size W w' → w'.cell? ⟨w.heap.size, 1, none⟩ = some (.string (Rn.arr f n)) ∧ w'.cell? ⟨w.heap.size, 2, none⟩ = some (.int .i64 N)) := fun w' h => by
    have hw0 : w.heap.size < W.heap.size := by rw [← hWd]; simp
    have e : ∀ o, w'.cell? ⟨w.heap.size, o, none⟩ = W.cell? ⟨w.heap.size, o, none⟩ := fun o => h.cell (p := ⟨w.heap.size, o, none⟩) hw0
    rw [e, e, ← hWd]
    refine ⟨?_, ?_⟩ <;> simp
  have HWd := hide' hWd
  clear hWd hf hT hK s3 hnp htot hone
  go_enter Try.func5, Try.ntmps5
  go_wp2_with fail
  rw [HWd.out]
  refine (htAwake W).mono ?_
  rintro r w1 ⟨rfl, hb⟩
  have HB1 := hide' hb
  clear hb
  go_wp2_with fail
  go_loopw [5, 6] (fun a u wr => ∃ (i : Nat) (bl : List Nat), u = .int .i64 i ∧ i ≤ 9 ∧ bl.length = i ∧ Hid (Ht.Al wr W.heap.size a bl K T (fun _ => []) (fun _ => false)) ∧ Hid (Below W.heap.size W wr)) (fun _ u _ => 9 - (RowKit.intOf u).toNat)
  case atStart => exact ⟨0, [], rfl, Nat.zero_le _, rfl, ⟨World.ownsRow_nil _ _ _ _, (fun k b h => by simp at h), (fun i j b h => by simp at h), (fun b h => by cases h)⟩, HB1⟩
  case round =>
    clear HB1
    obtain ⟨i, bl, rfl, hi9, hbl, HA, HB⟩ := hrel
    obtain ⟨pa, ca, hfa, fa1, fa2⟩ := Ht.own_sl HA.out.own
    rw [hbl] at hfa fa1
    subst hfa
    by_cases hlt : i < 9
    · have t1 : (i : Int) ≤ 8 := by omega
      obtain ⟨q1, q2⟩ := HBX.out wr HB.out
      have hzW : W.heap.size ≤ wr.heap.size := HB.out.size
      go_wp2_with fail
      refine (CN.out wr i hlt).mono ?_
      rintro r w2 ⟨b, rfl, hb1, hu, hb⟩
      have HU := hide' hu
      have HWR := hide' hb
      have HBL := hide' hbl
      have HOWN : Hid (wr.ownsRow W.heap.size 26 1 (.slice pa i ca) i (Ht.pv bl)) := by have := HA.out.own; rwa [hbl] at this
      clear q1 q2 hu hb hbl
      go_wp2_with (first | (at_builtin; refine wpList_append_own_at _ rfl (.tmp 37) (.tmp 39) 52 rfl W.heap.size 26 i0 (.pointer none) 1 8 Try.underlying52 hi hz0 hz1 hz2 rfl (by decide) _ i (Ht.pv bl) rfl (Ht.own_bel HOWN.out (HWR.out.alloc HWR.out.size _)) ⟨w2.heap.size, 0, none⟩ 1 1 [.pointer (some ⟨b, 0, none⟩)] rfl rfl (Ht.one_ptr w2 b _) (by intro u hu; simp at hu; subst hu; rfl) (by unfold maxLen; omega) (by omega) (by have := HWR.out.size; simp; omega) ?_))
      intro v' w3 hown hg hnil hat
      have HA3 : Hid (Ht.Al w3 W.heap.size v' (bl ++ [b]) K T (fun _ => []) (fun _ => false)) := HA.out.more (w1 := w2.alloc (.cells #[.pointer (some ⟨b, 0, none⟩)] 26)) (HWR.out.alloc HWR.out.size _) hb1 hzW (by rw [HBL.out]; exact HU.out.below ((Below.refl _ _).alloc (Nat.le_refl _) _)) (by rw [HBL.out]; exact hown) hg
      have HB3 : Hid (Below W.heap.size W w3) := (HB.out.trans ((HWR.out.alloc HWR.out.size _).mono hzW)).grown hg (by have := HWR.out.size; simp; omega) fun q hq => by
        rcases HA.out.own.2 with ⟨e, _⟩ | ⟨g', cap', cur', e, h1, _⟩
        · rw [e] at hq; cases hq
        · rw [e] at hq; cases hq; exact h1
      obtain ⟨p3, c3, hf3, _, _⟩ := Ht.own_sl hown
      subst hf3
      clear hown hg hnil hat HA HB HU HWR
      go_wp2_with fail
      go_roundw
      case rel => exact ⟨i + 1, bl ++ [b], by go_num, by omega, by rw [List.length_append, HBL.out]; rfl, HA3, HB3⟩
      case measure => simp [RowKit.intOf]; omega
    · have t1 : ¬ (i : Int) ≤ 8 := by omega
      obtain rfl : i = 9 := by omega
      obtain ⟨b0, b1, b2, b3, b4, b5, b6, b7, b8, rfl⟩ := Ht.nine hbl
      have hzW : W.heap.size ≤ wr.heap.size := HB.out.size
      clear t1 hlt hi9 hbl CN HBX hK2 hN2
      obtain ⟨ga, rfl, _, _⟩ := Ht.own_cell HA.out.own (j := 0) (u := .pointer (some ⟨b0, 0, none⟩)) rfl
      have HPT : Hid (∀ (wc : World) Ls ws, Ht.Al wc W.heap.size (.slice (some ⟨ga, 0, none⟩) 9 ca) [b0, b1, b2, b3, b4, b5, b6, b7, b8] K T Ls ws → ∀ (k b : Nat), [b0, b1, b2, b3, b4, b5, b6, b7, b8][k]? = some b → wc.cell? ⟨ga, k, none⟩ = some (.pointer (some ⟨b, 0, none⟩)) ∧ ga ≠ b) := fun wc Ls ws h k b hk => by
        obtain ⟨g', e, _, hc⟩ := Ht.own_cell h.own (Ht.pv_at hk)
        cases e
        refine ⟨hc, fun e => ?_⟩
        obtain ⟨cs, hcs⟩ := Ht.own_typ h.own (g := ga) rfl
        obtain ⟨_, _, _, _, _, hh, _⟩ := h.hu k b hk
        rw [e] at hcs
        rw [hh] at hcs
        simp at hcs
      rw [show ((9 : Nat) : Int) = 9 from rfl]
      go_wp2_with fail
      go_loopw [9] (fun u wr => ∃ i : Nat, u = .int .i64 i ∧ i ≤ np + 1 ∧ Hid (Ht.Al wr W.heap.size (.slice (some ⟨ga, 0, none⟩) 9 ca) [b0, b1, b2, b3, b4, b5, b6, b7, b8] K T (fun _ => Ht.Lp ps (min i np)) (fun _ => decide (np < i))) ∧ Hid (Below W.heap.size W wr)) (fun u _ => np + 1 - (RowKit.intOf u).toNat)
      case atStart => exact ⟨0, rfl, Nat.zero_le _, by simpa [Ht.Lp_zero] using HA, HB⟩
      case round =>
        clear HA HB hzW
        obtain ⟨i, rfl, hi1, HA, HB⟩ := hrel
        by_cases hlt : i ≤ np
        · have t1 : (i : Int) ≤ (np : Int) := by omega
          have hdec : decide (np < i) = false := decide_eq_false (by omega)
          rw [hdec] at HA
          by_cases hlt2 : i < np
          · have t2 : (i : Int) < (np : Int) := by omega
            have hmin : min i np = i := by omega
            rw [hmin] at HA
            obtain ⟨l, hl⟩ : ∃ l, ps[i]? = some l := ⟨_, List.getElem?_eq_getElem (by rw [HNP.out]; exact hlt2)⟩
            obtain ⟨sb, so, rfl, hsc⟩ := HSR.out (by omega)
            have qs := hsc i l hl
            have hsbw : sb < w.heap.size := block_lt_of_cell qs
            have HQS : Hid (∀ wc, Below W.heap.size W wc → wc.cell? ⟨sb, so + i, none⟩ = some (.string (Rn.arr (Rn.lf l) l.length))) := fun wc h => ((HUP.out _ h).cell (p := ⟨sb, so + i, none⟩) hsbw).trans qs
            have HL := hide' hl
            have HSB := hide' hsbw
            clear hsc qs hl hsbw hdec hmin
            go_wp2_with fail
            go_loopw [10] (fun u wr => ∃ k : Nat, u = .int .i64 k ∧ k ≤ 9 ∧ Hid (Ht.Al wr W.heap.size (.slice (some ⟨ga, 0, none⟩) 9 ca) [b0, b1, b2, b3, b4, b5, b6, b7, b8] K T (fun j => if j < k then Ht.Lp ps (i + 1) else Ht.Lp ps i) (fun _ => false)) ∧ Hid (Below W.heap.size W wr)) (fun u _ => 9 - (RowKit.intOf u).toNat)
            case atStart => exact ⟨0, rfl, Nat.zero_le _, by simpa using HA, HB⟩
            case round =>
              clear HA HB
              obtain ⟨k, rfl, hk9, HA, HB⟩ := hrel
              by_cases hkl : k < 9
              · have t3 : (k : Int) < 9 := by omega
                obtain ⟨b, hbk⟩ : ∃ b, [b0, b1, b2, b3, b4, b5, b6, b7, b8][k]? = some b := ⟨_, List.getElem?_eq_getElem (by simpa using hkl)⟩
                obtain ⟨c1, hgb⟩ := HPT.out wr _ _ HA.out k b hbk
                have c2 := HQS.out wr HB.out
                have hu := HA.out.hu k b hbk
                rw [if_neg (Nat.lt_irrefl k)] at hu
                have xx : wr.drew.cell? ⟨ga, k, none⟩ = some (.pointer (some ⟨b, 0, none⟩)) ∧ wr.drew.cell? ⟨sb, so + i, none⟩ = some (.string (Rn.arr (Rn.lf l) l.length)) := ⟨c1, c2⟩
                have HBK := hide' hbk
                have hblo : W.heap.size ≤ b := HA.out.lo b (List.mem_of_getElem? hbk)
                have hsne : sb ≠ b := by have := HSB.out; have := HBW.out.size; omega
                have CA1 := hide' (CAD.out wr.drew b _ _ _ l i (hu.below (Ht.below_drw wr 1)) HL.out)
                clear hbk hu c1 c2
                go_wp2_with fail
                go_region_held (fun w' => w'.cell? ⟨ga, k, none⟩ = some (.pointer (some ⟨b, 0, none⟩)) ∧ w'.cell? ⟨sb, so + i, none⟩ = some (.string (Rn.arr (Rn.lf l) l.length))) (first | (with_reducible exact xx) | (with_reducible exact zz)) (first | (go_at_call 12; refine CA1.out.mono ?_; rintro r w5 ⟨rfl, hu5, hb5⟩; have zz := Ht.keep2 xx hb5 hgb hsne))
                have HB5 : Hid (Ht.Hb b wr w5) := ((Ht.Hb.refl b wr).drew).trans hb5
                have HA5 : Hid (Ht.Al w5 W.heap.size (.slice (some ⟨ga, 0, none⟩) 9 ca) [b0, b1, b2, b3, b4, b5, b6, b7, b8] K T (fun j => if j < k + 1 then Ht.Lp ps (i + 1) else Ht.Lp ps i) (fun _ => false)) := HA.out.step HBK.out HB5.out (by rw [if_pos (Nat.lt_succ_self k)]; exact hu5) fun j hj => ⟨Ht.if_step hj _ _, rfl⟩
                have HBB5 := hide' (HB.out.trans (HB5.out.below hblo HB.out.size))
                clear hu5 hb5 xx zz HA HB HB5 CA1
                go_wp2_with fail
                go_roundw
                case rel => exact ⟨k + 1, by go_num, by omega, HA5, HBB5⟩
                case measure => simp [RowKit.intOf]; omega
              · have t3 : ¬ (k : Int) < 9 := by omega
                obtain rfl : k = 9 := by omega
                have HA9 : Hid (Ht.Al wr W.heap.size (.slice (some ⟨ga, 0, none⟩) 9 ca) [b0, b1, b2, b3, b4, b5, b6, b7, b8] K T (fun _ => Ht.Lp ps (i + 1)) (fun _ => false)) := HA.out.congr fun j hj => ⟨by rw [if_pos (by simpa using hj)], rfl⟩
                have HE9 : Hid (Ht.Lp ps (min (i + 1) np) = Ht.Lp ps (i + 1) ∧ decide (np < i + 1) = false) := ⟨by rw [Nat.min_eq_left (by omega)], decide_eq_false (by omega)⟩
                clear HA t3 hkl hk9 CAD HQS HL
                obtain ⟨Lx, hLx⟩ : ∃ Lx, Ht.Lp ps (i + 1) = Lx := ⟨_, rfl⟩
                rw [hLx] at HA9 HE9
                clear hLx
                obtain ⟨c0, _⟩ := HPT.out wr _ _ HA9.out 0 b0 rfl
                have D0 := hide' (fun (wc : World) (h : Below wr.heap.size wr wc) => (show Calls Try.prog 10 #[.pointer (some ⟨b0, 0, none⟩)] wc fun e w' => e = .returned (.int .i64 (Ht.tk K T Lx false 0)) ∧ w' = wc from htTruth ((HA9.out.hu 0 b0 rfl).below h)))
                obtain ⟨c1, _⟩ := HPT.out wr _ _ HA9.out 1 b1 rfl
                have D1 := hide' (fun (wc : World) (h : Below wr.heap.size wr wc) => (show Calls Try.prog 10 #[.pointer (some ⟨b1, 0, none⟩)] wc fun e w' => e = .returned (.int .i64 (Ht.tk K T Lx false 1)) ∧ w' = wc from htTruth ((HA9.out.hu 1 b1 rfl).below h)))
                obtain ⟨c2, _⟩ := HPT.out wr _ _ HA9.out 2 b2 rfl
                have D2 := hide' (fun (wc : World) (h : Below wr.heap.size wr wc) => (show Calls Try.prog 10 #[.pointer (some ⟨b2, 0, none⟩)] wc fun e w' => e = .returned (.int .i64 (Ht.tk K T Lx false 2)) ∧ w' = wc from htTruth ((HA9.out.hu 2 b2 rfl).below h)))
                obtain ⟨c3, _⟩ := HPT.out wr _ _ HA9.out 3 b3 rfl
                have D3 := hide' (fun (wc : World) (h : Below wr.heap.size wr wc) => (show Calls Try.prog 10 #[.pointer (some ⟨b3, 0, none⟩)] wc fun e w' => e = .returned (.int .i64 (Ht.tk K T Lx false 3)) ∧ w' = wc from htTruth ((HA9.out.hu 3 b3 rfl).below h)))
                obtain ⟨c4, _⟩ := HPT.out wr _ _ HA9.out 4 b4 rfl
                have D4 := hide' (fun (wc : World) (h : Below wr.heap.size wr wc) => (show Calls Try.prog 10 #[.pointer (some ⟨b4, 0, none⟩)] wc fun e w' => e = .returned (.int .i64 (Ht.tk K T Lx false 4)) ∧ w' = wc from htTruth ((HA9.out.hu 4 b4 rfl).below h)))
                obtain ⟨c5, _⟩ := HPT.out wr _ _ HA9.out 5 b5 rfl
                have D5 := hide' (fun (wc : World) (h : Below wr.heap.size wr wc) => (show Calls Try.prog 10 #[.pointer (some ⟨b5, 0, none⟩)] wc fun e w' => e = .returned (.int .i64 (Ht.tk K T Lx false 5)) ∧ w' = wc from htTruth ((HA9.out.hu 5 b5 rfl).below h)))
                obtain ⟨c6, _⟩ := HPT.out wr _ _ HA9.out 6 b6 rfl
                have D6 := hide' (fun (wc : World) (h : Below wr.heap.size wr wc) => (show Calls Try.prog 10 #[.pointer (some ⟨b6, 0, none⟩)] wc fun e w' => e = .returned (.int .i64 (Ht.tk K T Lx false 6)) ∧ w' = wc from htTruth ((HA9.out.hu 6 b6 rfl).below h)))
                obtain ⟨c7, _⟩ := HPT.out wr _ _ HA9.out 7 b7 rfl
                have D7 := hide' (fun (wc : World) (h : Below wr.heap.size wr wc) => (show Calls Try.prog 10 #[.pointer (some ⟨b7, 0, none⟩)] wc fun e w' => e = .returned (.int .i64 (Ht.tk K T Lx false 7)) ∧ w' = wc from htTruth ((HA9.out.hu 7 b7 rfl).below h)))
                obtain ⟨c8, _⟩ := HPT.out wr _ _ HA9.out 8 b8 rfl
                have D8 := hide' (fun (wc : World) (h : Below wr.heap.size wr wc) => (show Calls Try.prog 10 #[.pointer (some ⟨b8, 0, none⟩)] wc fun e w' => e = .returned (.int .i64 (Ht.tk K T Lx false 8)) ∧ w' = wc from htTruth ((HA9.out.hu 8 b8 rfl).below h)))
                have hF := Ht.tk_facts K T Lx false
                have hr1 := Ht.tk_rng K T Lx false 1
                have hr2 := Ht.tk_rng K T Lx false 2
                obtain ⟨t0, ht0⟩ : ∃ t, Ht.tk K T Lx false 0 = t := ⟨_, rfl⟩
                obtain ⟨t1, ht1⟩ : ∃ t, Ht.tk K T Lx false 1 = t := ⟨_, rfl⟩
                obtain ⟨t2, ht2⟩ : ∃ t, Ht.tk K T Lx false 2 = t := ⟨_, rfl⟩
                obtain ⟨t3, ht3⟩ : ∃ t, Ht.tk K T Lx false 3 = t := ⟨_, rfl⟩
                obtain ⟨t4, ht4⟩ : ∃ t, Ht.tk K T Lx false 4 = t := ⟨_, rfl⟩
                obtain ⟨t5, ht5⟩ : ∃ t, Ht.tk K T Lx false 5 = t := ⟨_, rfl⟩
                obtain ⟨t6, ht6⟩ : ∃ t, Ht.tk K T Lx false 6 = t := ⟨_, rfl⟩
                obtain ⟨t7, ht7⟩ : ∃ t, Ht.tk K T Lx false 7 = t := ⟨_, rfl⟩
                obtain ⟨t8, ht8⟩ : ∃ t, Ht.tk K T Lx false 8 = t := ⟨_, rfl⟩
                simp only [ht0] at D0
                simp only [ht1] at D1
                simp only [ht2] at D2
                simp only [ht3] at D3
                simp only [ht4] at D4
                simp only [ht5] at D5
                simp only [ht6] at D6
                simp only [ht7] at D7
                simp only [ht8] at D8
                rw [ht0, ht1, ht2, ht3, ht4, ht5, ht6, ht7, ht8] at hF
                rw [ht1] at hr1
                rw [ht2] at hr2
                clear ht0 ht1 ht2 ht3 ht4 ht5 ht6 ht7 ht8
                obtain ⟨rfl, f12, f7, f1, f3⟩ := hF
                have e12 : (t1 + t2 != 2) = false := by simp [f12]
                have F7 := hide' f7
                have F1 := hide' f1
                have F3 := hide' f3
                clear f12 f7 f1 f3
                go_wp2_with fail
                go_quiet (first | (go_at_call 10; with_reducible exact Calls.quiet_of_same (D0.out _ (Ht.below_drw wr _))) | (go_at_call 10; with_reducible exact Calls.quiet_of_same (D1.out _ (Ht.below_drw wr _))) | (go_at_call 10; with_reducible exact Calls.quiet_of_same (D2.out _ (Ht.below_drw wr _))))
                clear e12 hr2 D0 D2
                by_cases h7 : t7 = 2
                · obtain ⟨e6, e8⟩ := F7.out h7
                  subst h7 e6 e8
                  by_cases h1 : t1 = 2
                  · obtain ⟨e3, e4, e5⟩ := F1.out h1
                    subst h1 e3 e4 e5
                    go_wp2_with (first | (go_at_call 10; with_reducible refine Calls.mono (D7.out _ (Ht.below_drw wr _)) ?_; rintro r w' ⟨rfl, rfl⟩) | (go_at_call 10; with_reducible refine Calls.mono (D6.out _ (Ht.below_drw wr _)) ?_; rintro r w' ⟨rfl, rfl⟩) | (go_at_call 10; with_reducible refine Calls.mono (D8.out _ (Ht.below_drw wr _)) ?_; rintro r w' ⟨rfl, rfl⟩) | (go_at_call 10; with_reducible refine Calls.mono (D1.out _ (Ht.below_drw wr _)) ?_; rintro r w' ⟨rfl, rfl⟩) | (go_at_call 10; with_reducible refine Calls.mono (D3.out _ (Ht.below_drw wr _)) ?_; rintro r w' ⟨rfl, rfl⟩) | (go_at_call 10; with_reducible refine Calls.mono (D4.out _ (Ht.below_drw wr _)) ?_; rintro r w' ⟨rfl, rfl⟩) | (go_at_call 10; with_reducible refine Calls.mono (D5.out _ (Ht.below_drw wr _)) ?_; rintro r w' ⟨rfl, rfl⟩))
                    go_roundw
                    case rel => exact ⟨i + 1, by go_num, by omega, by rw [HE9.out.1, HE9.out.2]; exact HA9.out.below (Ht.below_drw wr _), HB.out.trans ((Ht.below_drw wr _).mono HB.out.size)⟩
                    case measure => simp [RowKit.intOf] <;> omega
                  · have g1 : (t1 == 2) = false := by simpa using h1
                    clear h1
                    by_cases h3 : t3 = 2
                    · have e5 := F3.out h3
                      subst h3 e5
                      go_wp2_with (first | (go_at_call 10; with_reducible refine Calls.mono (D7.out _ (Ht.below_drw wr _)) ?_; rintro r w' ⟨rfl, rfl⟩) | (go_at_call 10; with_reducible refine Calls.mono (D6.out _ (Ht.below_drw wr _)) ?_; rintro r w' ⟨rfl, rfl⟩) | (go_at_call 10; with_reducible refine Calls.mono (D8.out _ (Ht.below_drw wr _)) ?_; rintro r w' ⟨rfl, rfl⟩) | (go_at_call 10; with_reducible refine Calls.mono (D1.out _ (Ht.below_drw wr _)) ?_; rintro r w' ⟨rfl, rfl⟩) | (go_at_call 10; with_reducible refine Calls.mono (D3.out _ (Ht.below_drw wr _)) ?_; rintro r w' ⟨rfl, rfl⟩) | (go_at_call 10; with_reducible refine Calls.mono (D4.out _ (Ht.below_drw wr _)) ?_; rintro r w' ⟨rfl, rfl⟩) | (go_at_call 10; with_reducible refine Calls.mono (D5.out _ (Ht.below_drw wr _)) ?_; rintro r w' ⟨rfl, rfl⟩))
                      go_roundw
                      case rel => exact ⟨i + 1, by go_num, by omega, by rw [HE9.out.1, HE9.out.2]; exact HA9.out.below (Ht.below_drw wr _), HB.out.trans ((Ht.below_drw wr _).mono HB.out.size)⟩
                      case measure => simp [RowKit.intOf] <;> omega
                    · have g3 : (t3 == 2) = false := by simpa using h3
                      clear h3
                      go_wp2_with (first | (go_at_call 10; with_reducible refine Calls.mono (D7.out _ (Ht.below_drw wr _)) ?_; rintro r w' ⟨rfl, rfl⟩) | (go_at_call 10; with_reducible refine Calls.mono (D6.out _ (Ht.below_drw wr _)) ?_; rintro r w' ⟨rfl, rfl⟩) | (go_at_call 10; with_reducible refine Calls.mono (D8.out _ (Ht.below_drw wr _)) ?_; rintro r w' ⟨rfl, rfl⟩) | (go_at_call 10; with_reducible refine Calls.mono (D1.out _ (Ht.below_drw wr _)) ?_; rintro r w' ⟨rfl, rfl⟩) | (go_at_call 10; with_reducible refine Calls.mono (D3.out _ (Ht.below_drw wr _)) ?_; rintro r w' ⟨rfl, rfl⟩) | (go_at_call 10; with_reducible refine Calls.mono (D4.out _ (Ht.below_drw wr _)) ?_; rintro r w' ⟨rfl, rfl⟩) | (go_at_call 10; with_reducible refine Calls.mono (D5.out _ (Ht.below_drw wr _)) ?_; rintro r w' ⟨rfl, rfl⟩))
                      go_roundw
                      case rel => exact ⟨i + 1, by go_num, by omega, by rw [HE9.out.1, HE9.out.2]; exact HA9.out.below (Ht.below_drw wr _), HB.out.trans ((Ht.below_drw wr _).mono HB.out.size)⟩
                      case measure => simp [RowKit.intOf] <;> omega
                · have g7 : (t7 == 2) = false := by simpa using h7
                  clear h7
                  by_cases h1 : t1 = 2
                  · obtain ⟨e3, e4, e5⟩ := F1.out h1
                    subst h1 e3 e4 e5
                    go_wp2_with (first | (go_at_call 10; with_reducible refine Calls.mono (D7.out _ (Ht.below_drw wr _)) ?_; rintro r w' ⟨rfl, rfl⟩) | (go_at_call 10; with_reducible refine Calls.mono (D6.out _ (Ht.below_drw wr _)) ?_; rintro r w' ⟨rfl, rfl⟩) | (go_at_call 10; with_reducible refine Calls.mono (D8.out _ (Ht.below_drw wr _)) ?_; rintro r w' ⟨rfl, rfl⟩) | (go_at_call 10; with_reducible refine Calls.mono (D1.out _ (Ht.below_drw wr _)) ?_; rintro r w' ⟨rfl, rfl⟩) | (go_at_call 10; with_reducible refine Calls.mono (D3.out _ (Ht.below_drw wr _)) ?_; rintro r w' ⟨rfl, rfl⟩) | (go_at_call 10; with_reducible refine Calls.mono (D4.out _ (Ht.below_drw wr _)) ?_; rintro r w' ⟨rfl, rfl⟩) | (go_at_call 10; with_reducible refine Calls.mono (D5.out _ (Ht.below_drw wr _)) ?_; rintro r w' ⟨rfl, rfl⟩))
                    go_roundw
                    case rel => exact ⟨i + 1, by go_num, by omega, by rw [HE9.out.1, HE9.out.2]; exact HA9.out.below (Ht.below_drw wr _), HB.out.trans ((Ht.below_drw wr _).mono HB.out.size)⟩
                    case measure => simp [RowKit.intOf] <;> omega
                  · have g1 : (t1 == 2) = false := by simpa using h1
                    clear h1
                    by_cases h3 : t3 = 2
                    · have e5 := F3.out h3
                      subst h3 e5
                      go_wp2_with (first | (go_at_call 10; with_reducible refine Calls.mono (D7.out _ (Ht.below_drw wr _)) ?_; rintro r w' ⟨rfl, rfl⟩) | (go_at_call 10; with_reducible refine Calls.mono (D6.out _ (Ht.below_drw wr _)) ?_; rintro r w' ⟨rfl, rfl⟩) | (go_at_call 10; with_reducible refine Calls.mono (D8.out _ (Ht.below_drw wr _)) ?_; rintro r w' ⟨rfl, rfl⟩) | (go_at_call 10; with_reducible refine Calls.mono (D1.out _ (Ht.below_drw wr _)) ?_; rintro r w' ⟨rfl, rfl⟩) | (go_at_call 10; with_reducible refine Calls.mono (D3.out _ (Ht.below_drw wr _)) ?_; rintro r w' ⟨rfl, rfl⟩) | (go_at_call 10; with_reducible refine Calls.mono (D4.out _ (Ht.below_drw wr _)) ?_; rintro r w' ⟨rfl, rfl⟩) | (go_at_call 10; with_reducible refine Calls.mono (D5.out _ (Ht.below_drw wr _)) ?_; rintro r w' ⟨rfl, rfl⟩))
                      go_roundw
                      case rel => exact ⟨i + 1, by go_num, by omega, by rw [HE9.out.1, HE9.out.2]; exact HA9.out.below (Ht.below_drw wr _), HB.out.trans ((Ht.below_drw wr _).mono HB.out.size)⟩
                      case measure => simp [RowKit.intOf] <;> omega
                    · have g3 : (t3 == 2) = false := by simpa using h3
                      clear h3
                      go_wp2_with (first | (go_at_call 10; with_reducible refine Calls.mono (D7.out _ (Ht.below_drw wr _)) ?_; rintro r w' ⟨rfl, rfl⟩) | (go_at_call 10; with_reducible refine Calls.mono (D6.out _ (Ht.below_drw wr _)) ?_; rintro r w' ⟨rfl, rfl⟩) | (go_at_call 10; with_reducible refine Calls.mono (D8.out _ (Ht.below_drw wr _)) ?_; rintro r w' ⟨rfl, rfl⟩) | (go_at_call 10; with_reducible refine Calls.mono (D1.out _ (Ht.below_drw wr _)) ?_; rintro r w' ⟨rfl, rfl⟩) | (go_at_call 10; with_reducible refine Calls.mono (D3.out _ (Ht.below_drw wr _)) ?_; rintro r w' ⟨rfl, rfl⟩) | (go_at_call 10; with_reducible refine Calls.mono (D4.out _ (Ht.below_drw wr _)) ?_; rintro r w' ⟨rfl, rfl⟩) | (go_at_call 10; with_reducible refine Calls.mono (D5.out _ (Ht.below_drw wr _)) ?_; rintro r w' ⟨rfl, rfl⟩))
                      go_roundw
                      case rel => exact ⟨i + 1, by go_num, by omega, by rw [HE9.out.1, HE9.out.2]; exact HA9.out.below (Ht.below_drw wr _), HB.out.trans ((Ht.below_drw wr _).mono HB.out.size)⟩
                      case measure => simp [RowKit.intOf] <;> omega
          · have t2 : ¬ (i : Int) < (np : Int) := by omega
            obtain rfl : i = np := by omega
            rw [Nat.min_self] at HA
            have hdec2 := hdec
            clear hdec hdec2 HSR CAD
            go_wp2_with fail
            go_loopw [11] (fun u wr => ∃ k : Nat, u = .int .i64 k ∧ k ≤ 9 ∧ Hid (Ht.Al wr W.heap.size (.slice (some ⟨ga, 0, none⟩) 9 ca) [b0, b1, b2, b3, b4, b5, b6, b7, b8] K T (fun _ => Ht.Lp ps i) (fun j => decide (j < k))) ∧ Hid (Below W.heap.size W wr)) (fun u _ => 9 - (RowKit.intOf u).toNat)
            case atStart => exact ⟨0, rfl, Nat.zero_le _, by simpa using HA, HB⟩
            case round =>
              clear HA HB
              obtain ⟨k, rfl, hk9, HA, HB⟩ := hrel
              by_cases hkl : k < 9
              · have t3 : (k : Int) < 9 := by omega
                obtain ⟨b, hbk⟩ : ∃ b, [b0, b1, b2, b3, b4, b5, b6, b7, b8][k]? = some b := ⟨_, List.getElem?_eq_getElem (by simpa using hkl)⟩
                obtain ⟨c1, hgb⟩ := HPT.out wr _ _ HA.out k b hbk
                have hu := HA.out.hu k b hbk
                rw [decide_eq_false (Nat.lt_irrefl k)] at hu
                have HBK := hide' hbk
                have hblo : W.heap.size ≤ b := HA.out.lo b (List.mem_of_getElem? hbk)
                have CC1 := hide' (htClose hu)
                clear hbk hu
                go_wp2_with fail
                refine CC1.out.mono ?_
                rintro r w5 ⟨rfl, hu5, hb5⟩
                have HA5 : Hid (Ht.Al w5 W.heap.size (.slice (some ⟨ga, 0, none⟩) 9 ca) [b0, b1, b2, b3, b4, b5, b6, b7, b8] K T (fun _ => Ht.Lp ps i) (fun j => decide (j < k + 1))) := HA.out.step HBK.out hb5 (by rw [decide_eq_true (Nat.lt_succ_self k)]; exact hu5) fun j hj => ⟨rfl, Ht.dec_step hj⟩
                have HBB5 := hide' (HB.out.trans (hb5.below hblo HB.out.size))
                clear hu5 hb5 HA HB c1 CC1
                go_wp2_with fail
                go_roundw
                case rel => exact ⟨k + 1, by go_num, by omega, HA5, HBB5⟩
                case measure => simp [RowKit.intOf]; omega
              · have t3 : ¬ (k : Int) < 9 := by omega
                obtain rfl : k = 9 := by omega
                have HA9 : Hid (Ht.Al wr W.heap.size (.slice (some ⟨ga, 0, none⟩) 9 ca) [b0, b1, b2, b3, b4, b5, b6, b7, b8] K T (fun _ => Ht.Lp ps i) (fun _ => true)) := HA.out.congr fun j hj => ⟨rfl, by rw [decide_eq_true (by simpa using hj)]⟩
                have HE9 : Hid (Ht.Lp ps (min (i + 1) i) = Ht.Lp ps i ∧ decide (i < i + 1) = true) := ⟨by rw [Nat.min_eq_right (by omega)], decide_eq_true (by omega)⟩
                clear HA t3 hkl hk9
                obtain ⟨Lx, hLx⟩ : ∃ Lx, Ht.Lp ps i = Lx := ⟨_, rfl⟩
                rw [hLx] at HA9 HE9
                clear hLx
                obtain ⟨c0, _⟩ := HPT.out wr _ _ HA9.out 0 b0 rfl
                have D0 := hide' (fun (wc : World) (h : Below wr.heap.size wr wc) => (show Calls Try.prog 10 #[.pointer (some ⟨b0, 0, none⟩)] wc fun e w' => e = .returned (.int .i64 (Ht.tk K T Lx true 0)) ∧ w' = wc from htTruth ((HA9.out.hu 0 b0 rfl).below h)))
                obtain ⟨c1, _⟩ := HPT.out wr _ _ HA9.out 1 b1 rfl
                have D1 := hide' (fun (wc : World) (h : Below wr.heap.size wr wc) => (show Calls Try.prog 10 #[.pointer (some ⟨b1, 0, none⟩)] wc fun e w' => e = .returned (.int .i64 (Ht.tk K T Lx true 1)) ∧ w' = wc from htTruth ((HA9.out.hu 1 b1 rfl).below h)))
                obtain ⟨c2, _⟩ := HPT.out wr _ _ HA9.out 2 b2 rfl
                have D2 := hide' (fun (wc : World) (h : Below wr.heap.size wr wc) => (show Calls Try.prog 10 #[.pointer (some ⟨b2, 0, none⟩)] wc fun e w' => e = .returned (.int .i64 (Ht.tk K T Lx true 2)) ∧ w' = wc from htTruth ((HA9.out.hu 2 b2 rfl).below h)))
                obtain ⟨c3, _⟩ := HPT.out wr _ _ HA9.out 3 b3 rfl
                have D3 := hide' (fun (wc : World) (h : Below wr.heap.size wr wc) => (show Calls Try.prog 10 #[.pointer (some ⟨b3, 0, none⟩)] wc fun e w' => e = .returned (.int .i64 (Ht.tk K T Lx true 3)) ∧ w' = wc from htTruth ((HA9.out.hu 3 b3 rfl).below h)))
                obtain ⟨c4, _⟩ := HPT.out wr _ _ HA9.out 4 b4 rfl
                have D4 := hide' (fun (wc : World) (h : Below wr.heap.size wr wc) => (show Calls Try.prog 10 #[.pointer (some ⟨b4, 0, none⟩)] wc fun e w' => e = .returned (.int .i64 (Ht.tk K T Lx true 4)) ∧ w' = wc from htTruth ((HA9.out.hu 4 b4 rfl).below h)))
                obtain ⟨c5, _⟩ := HPT.out wr _ _ HA9.out 5 b5 rfl
                have D5 := hide' (fun (wc : World) (h : Below wr.heap.size wr wc) => (show Calls Try.prog 10 #[.pointer (some ⟨b5, 0, none⟩)] wc fun e w' => e = .returned (.int .i64 (Ht.tk K T Lx true 5)) ∧ w' = wc from htTruth ((HA9.out.hu 5 b5 rfl).below h)))
                obtain ⟨c6, _⟩ := HPT.out wr _ _ HA9.out 6 b6 rfl
                have D6 := hide' (fun (wc : World) (h : Below wr.heap.size wr wc) => (show Calls Try.prog 10 #[.pointer (some ⟨b6, 0, none⟩)] wc fun e w' => e = .returned (.int .i64 (Ht.tk K T Lx true 6)) ∧ w' = wc from htTruth ((HA9.out.hu 6 b6 rfl).below h)))
                obtain ⟨c7, _⟩ := HPT.out wr _ _ HA9.out 7 b7 rfl
                have D7 := hide' (fun (wc : World) (h : Below wr.heap.size wr wc) => (show Calls Try.prog 10 #[.pointer (some ⟨b7, 0, none⟩)] wc fun e w' => e = .returned (.int .i64 (Ht.tk K T Lx true 7)) ∧ w' = wc from htTruth ((HA9.out.hu 7 b7 rfl).below h)))
                obtain ⟨c8, _⟩ := HPT.out wr _ _ HA9.out 8 b8 rfl
                have D8 := hide' (fun (wc : World) (h : Below wr.heap.size wr wc) => (show Calls Try.prog 10 #[.pointer (some ⟨b8, 0, none⟩)] wc fun e w' => e = .returned (.int .i64 (Ht.tk K T Lx true 8)) ∧ w' = wc from htTruth ((HA9.out.hu 8 b8 rfl).below h)))
                have hF := Ht.tk_facts K T Lx true
                have hr1 := Ht.tk_rng K T Lx true 1
                have hr2 := Ht.tk_rng K T Lx true 2
                obtain ⟨t0, ht0⟩ : ∃ t, Ht.tk K T Lx true 0 = t := ⟨_, rfl⟩
                obtain ⟨t1, ht1⟩ : ∃ t, Ht.tk K T Lx true 1 = t := ⟨_, rfl⟩
                obtain ⟨t2, ht2⟩ : ∃ t, Ht.tk K T Lx true 2 = t := ⟨_, rfl⟩
                obtain ⟨t3, ht3⟩ : ∃ t, Ht.tk K T Lx true 3 = t := ⟨_, rfl⟩
                obtain ⟨t4, ht4⟩ : ∃ t, Ht.tk K T Lx true 4 = t := ⟨_, rfl⟩
                obtain ⟨t5, ht5⟩ : ∃ t, Ht.tk K T Lx true 5 = t := ⟨_, rfl⟩
                obtain ⟨t6, ht6⟩ : ∃ t, Ht.tk K T Lx true 6 = t := ⟨_, rfl⟩
                obtain ⟨t7, ht7⟩ : ∃ t, Ht.tk K T Lx true 7 = t := ⟨_, rfl⟩
                obtain ⟨t8, ht8⟩ : ∃ t, Ht.tk K T Lx true 8 = t := ⟨_, rfl⟩
                simp only [ht0] at D0
                simp only [ht1] at D1
                simp only [ht2] at D2
                simp only [ht3] at D3
                simp only [ht4] at D4
                simp only [ht5] at D5
                simp only [ht6] at D6
                simp only [ht7] at D7
                simp only [ht8] at D8
                rw [ht0, ht1, ht2, ht3, ht4, ht5, ht6, ht7, ht8] at hF
                rw [ht1] at hr1
                rw [ht2] at hr2
                clear ht0 ht1 ht2 ht3 ht4 ht5 ht6 ht7 ht8
                obtain ⟨rfl, f12, f7, f1, f3⟩ := hF
                have e12 : (t1 + t2 != 2) = false := by simp [f12]
                have F7 := hide' f7
                have F1 := hide' f1
                have F3 := hide' f3
                clear f12 f7 f1 f3
                go_wp2_with fail
                go_quiet (first | (go_at_call 10; with_reducible exact Calls.quiet_of_same (D0.out _ (Ht.below_drw wr _))) | (go_at_call 10; with_reducible exact Calls.quiet_of_same (D1.out _ (Ht.below_drw wr _))) | (go_at_call 10; with_reducible exact Calls.quiet_of_same (D2.out _ (Ht.below_drw wr _))))
                clear e12 hr2 D0 D2
                by_cases h7 : t7 = 2
                · obtain ⟨e6, e8⟩ := F7.out h7
                  subst h7 e6 e8
                  by_cases h1 : t1 = 2
                  · obtain ⟨e3, e4, e5⟩ := F1.out h1
                    subst h1 e3 e4 e5
                    go_wp2_with (first | (go_at_call 10; with_reducible refine Calls.mono (D7.out _ (Ht.below_drw wr _)) ?_; rintro r w' ⟨rfl, rfl⟩) | (go_at_call 10; with_reducible refine Calls.mono (D6.out _ (Ht.below_drw wr _)) ?_; rintro r w' ⟨rfl, rfl⟩) | (go_at_call 10; with_reducible refine Calls.mono (D8.out _ (Ht.below_drw wr _)) ?_; rintro r w' ⟨rfl, rfl⟩) | (go_at_call 10; with_reducible refine Calls.mono (D1.out _ (Ht.below_drw wr _)) ?_; rintro r w' ⟨rfl, rfl⟩) | (go_at_call 10; with_reducible refine Calls.mono (D3.out _ (Ht.below_drw wr _)) ?_; rintro r w' ⟨rfl, rfl⟩) | (go_at_call 10; with_reducible refine Calls.mono (D4.out _ (Ht.below_drw wr _)) ?_; rintro r w' ⟨rfl, rfl⟩) | (go_at_call 10; with_reducible refine Calls.mono (D5.out _ (Ht.below_drw wr _)) ?_; rintro r w' ⟨rfl, rfl⟩))
                    go_roundw
                    case rel => exact ⟨i + 1, by go_num, by omega, by rw [HE9.out.1, HE9.out.2]; exact HA9.out.below (Ht.below_drw wr _), HB.out.trans ((Ht.below_drw wr _).mono HB.out.size)⟩
                    case measure => simp [RowKit.intOf] <;> omega
                  · have g1 : (t1 == 2) = false := by simpa using h1
                    clear h1
                    by_cases h3 : t3 = 2
                    · have e5 := F3.out h3
                      subst h3 e5
                      go_wp2_with (first | (go_at_call 10; with_reducible refine Calls.mono (D7.out _ (Ht.below_drw wr _)) ?_; rintro r w' ⟨rfl, rfl⟩) | (go_at_call 10; with_reducible refine Calls.mono (D6.out _ (Ht.below_drw wr _)) ?_; rintro r w' ⟨rfl, rfl⟩) | (go_at_call 10; with_reducible refine Calls.mono (D8.out _ (Ht.below_drw wr _)) ?_; rintro r w' ⟨rfl, rfl⟩) | (go_at_call 10; with_reducible refine Calls.mono (D1.out _ (Ht.below_drw wr _)) ?_; rintro r w' ⟨rfl, rfl⟩) | (go_at_call 10; with_reducible refine Calls.mono (D3.out _ (Ht.below_drw wr _)) ?_; rintro r w' ⟨rfl, rfl⟩) | (go_at_call 10; with_reducible refine Calls.mono (D4.out _ (Ht.below_drw wr _)) ?_; rintro r w' ⟨rfl, rfl⟩) | (go_at_call 10; with_reducible refine Calls.mono (D5.out _ (Ht.below_drw wr _)) ?_; rintro r w' ⟨rfl, rfl⟩))
                      go_roundw
                      case rel => exact ⟨i + 1, by go_num, by omega, by rw [HE9.out.1, HE9.out.2]; exact HA9.out.below (Ht.below_drw wr _), HB.out.trans ((Ht.below_drw wr _).mono HB.out.size)⟩
                      case measure => simp [RowKit.intOf] <;> omega
                    · have g3 : (t3 == 2) = false := by simpa using h3
                      clear h3
                      go_wp2_with (first | (go_at_call 10; with_reducible refine Calls.mono (D7.out _ (Ht.below_drw wr _)) ?_; rintro r w' ⟨rfl, rfl⟩) | (go_at_call 10; with_reducible refine Calls.mono (D6.out _ (Ht.below_drw wr _)) ?_; rintro r w' ⟨rfl, rfl⟩) | (go_at_call 10; with_reducible refine Calls.mono (D8.out _ (Ht.below_drw wr _)) ?_; rintro r w' ⟨rfl, rfl⟩) | (go_at_call 10; with_reducible refine Calls.mono (D1.out _ (Ht.below_drw wr _)) ?_; rintro r w' ⟨rfl, rfl⟩) | (go_at_call 10; with_reducible refine Calls.mono (D3.out _ (Ht.below_drw wr _)) ?_; rintro r w' ⟨rfl, rfl⟩) | (go_at_call 10; with_reducible refine Calls.mono (D4.out _ (Ht.below_drw wr _)) ?_; rintro r w' ⟨rfl, rfl⟩) | (go_at_call 10; with_reducible refine Calls.mono (D5.out _ (Ht.below_drw wr _)) ?_; rintro r w' ⟨rfl, rfl⟩))
                      go_roundw
                      case rel => exact ⟨i + 1, by go_num, by omega, by rw [HE9.out.1, HE9.out.2]; exact HA9.out.below (Ht.below_drw wr _), HB.out.trans ((Ht.below_drw wr _).mono HB.out.size)⟩
                      case measure => simp [RowKit.intOf] <;> omega
                · have g7 : (t7 == 2) = false := by simpa using h7
                  clear h7
                  by_cases h1 : t1 = 2
                  · obtain ⟨e3, e4, e5⟩ := F1.out h1
                    subst h1 e3 e4 e5
                    go_wp2_with (first | (go_at_call 10; with_reducible refine Calls.mono (D7.out _ (Ht.below_drw wr _)) ?_; rintro r w' ⟨rfl, rfl⟩) | (go_at_call 10; with_reducible refine Calls.mono (D6.out _ (Ht.below_drw wr _)) ?_; rintro r w' ⟨rfl, rfl⟩) | (go_at_call 10; with_reducible refine Calls.mono (D8.out _ (Ht.below_drw wr _)) ?_; rintro r w' ⟨rfl, rfl⟩) | (go_at_call 10; with_reducible refine Calls.mono (D1.out _ (Ht.below_drw wr _)) ?_; rintro r w' ⟨rfl, rfl⟩) | (go_at_call 10; with_reducible refine Calls.mono (D3.out _ (Ht.below_drw wr _)) ?_; rintro r w' ⟨rfl, rfl⟩) | (go_at_call 10; with_reducible refine Calls.mono (D4.out _ (Ht.below_drw wr _)) ?_; rintro r w' ⟨rfl, rfl⟩) | (go_at_call 10; with_reducible refine Calls.mono (D5.out _ (Ht.below_drw wr _)) ?_; rintro r w' ⟨rfl, rfl⟩))
                    go_roundw
                    case rel => exact ⟨i + 1, by go_num, by omega, by rw [HE9.out.1, HE9.out.2]; exact HA9.out.below (Ht.below_drw wr _), HB.out.trans ((Ht.below_drw wr _).mono HB.out.size)⟩
                    case measure => simp [RowKit.intOf] <;> omega
                  · have g1 : (t1 == 2) = false := by simpa using h1
                    clear h1
                    by_cases h3 : t3 = 2
                    · have e5 := F3.out h3
                      subst h3 e5
                      go_wp2_with (first | (go_at_call 10; with_reducible refine Calls.mono (D7.out _ (Ht.below_drw wr _)) ?_; rintro r w' ⟨rfl, rfl⟩) | (go_at_call 10; with_reducible refine Calls.mono (D6.out _ (Ht.below_drw wr _)) ?_; rintro r w' ⟨rfl, rfl⟩) | (go_at_call 10; with_reducible refine Calls.mono (D8.out _ (Ht.below_drw wr _)) ?_; rintro r w' ⟨rfl, rfl⟩) | (go_at_call 10; with_reducible refine Calls.mono (D1.out _ (Ht.below_drw wr _)) ?_; rintro r w' ⟨rfl, rfl⟩) | (go_at_call 10; with_reducible refine Calls.mono (D3.out _ (Ht.below_drw wr _)) ?_; rintro r w' ⟨rfl, rfl⟩) | (go_at_call 10; with_reducible refine Calls.mono (D4.out _ (Ht.below_drw wr _)) ?_; rintro r w' ⟨rfl, rfl⟩) | (go_at_call 10; with_reducible refine Calls.mono (D5.out _ (Ht.below_drw wr _)) ?_; rintro r w' ⟨rfl, rfl⟩))
                      go_roundw
                      case rel => exact ⟨i + 1, by go_num, by omega, by rw [HE9.out.1, HE9.out.2]; exact HA9.out.below (Ht.below_drw wr _), HB.out.trans ((Ht.below_drw wr _).mono HB.out.size)⟩
                      case measure => simp [RowKit.intOf] <;> omega
                    · have g3 : (t3 == 2) = false := by simpa using h3
                      clear h3
                      go_wp2_with (first | (go_at_call 10; with_reducible refine Calls.mono (D7.out _ (Ht.below_drw wr _)) ?_; rintro r w' ⟨rfl, rfl⟩) | (go_at_call 10; with_reducible refine Calls.mono (D6.out _ (Ht.below_drw wr _)) ?_; rintro r w' ⟨rfl, rfl⟩) | (go_at_call 10; with_reducible refine Calls.mono (D8.out _ (Ht.below_drw wr _)) ?_; rintro r w' ⟨rfl, rfl⟩) | (go_at_call 10; with_reducible refine Calls.mono (D1.out _ (Ht.below_drw wr _)) ?_; rintro r w' ⟨rfl, rfl⟩) | (go_at_call 10; with_reducible refine Calls.mono (D3.out _ (Ht.below_drw wr _)) ?_; rintro r w' ⟨rfl, rfl⟩) | (go_at_call 10; with_reducible refine Calls.mono (D4.out _ (Ht.below_drw wr _)) ?_; rintro r w' ⟨rfl, rfl⟩) | (go_at_call 10; with_reducible refine Calls.mono (D5.out _ (Ht.below_drw wr _)) ?_; rintro r w' ⟨rfl, rfl⟩))
                      go_roundw
                      case rel => exact ⟨i + 1, by go_num, by omega, by rw [HE9.out.1, HE9.out.2]; exact HA9.out.below (Ht.below_drw wr _), HB.out.trans ((Ht.below_drw wr _).mono HB.out.size)⟩
                      case measure => simp [RowKit.intOf] <;> omega
        · have t1 : ¬ (i : Int) ≤ (np : Int) := by omega
          have hdec : decide (np < i) = true := decide_eq_true (by omega)
          rw [hdec, Nat.min_eq_right (by omega)] at HA
          clear hdec hlt hi1 CAD HSR
          obtain ⟨Lw, hLw⟩ : ∃ Lw, Ht.Lp ps np = Lw := ⟨_, rfl⟩
          rw [hLw] at HA
          clear hLw
          obtain ⟨c6, _⟩ := HPT.out wr _ _ HA.out 6 b6 rfl
          have D6 := hide' (fun (wc : World) (h : Below wr.heap.size wr wc) => (show Calls Try.prog 10 #[.pointer (some ⟨b6, 0, none⟩)] wc fun e w' => e = .returned (.int .i64 (Ht.tk K T Lw true 6)) ∧ w' = wc from htTruth ((HA.out.hu 6 b6 rfl).below h)))
          obtain ⟨c7, _⟩ := HPT.out wr _ _ HA.out 7 b7 rfl
          have D7 := hide' (fun (wc : World) (h : Below wr.heap.size wr wc) => (show Calls Try.prog 10 #[.pointer (some ⟨b7, 0, none⟩)] wc fun e w' => e = .returned (.int .i64 (Ht.tk K T Lw true 7)) ∧ w' = wc from htTruth ((HA.out.hu 7 b7 rfl).below h)))
          obtain ⟨c8, _⟩ := HPT.out wr _ _ HA.out 8 b8 rfl
          have D8 := hide' (fun (wc : World) (h : Below wr.heap.size wr wc) => (show Calls Try.prog 10 #[.pointer (some ⟨b8, 0, none⟩)] wc fun e w' => e = .returned (.int .i64 (Ht.tk K T Lw true 8)) ∧ w' = wc from htTruth ((HA.out.hu 8 b8 rfl).below h)))
          have hgz : ga < wr.heap.size := block_lt_of_cell c6
          have hF := Ht.tk_one K T Lw
          obtain ⟨t6, ht6⟩ : ∃ t, Ht.tk K T Lw true 6 = t := ⟨_, rfl⟩
          obtain ⟨t7, ht7⟩ : ∃ t, Ht.tk K T Lw true 7 = t := ⟨_, rfl⟩
          obtain ⟨t8, ht8⟩ : ∃ t, Ht.tk K T Lw true 8 = t := ⟨_, rfl⟩
          simp only [ht6] at D6
          simp only [ht7] at D7
          simp only [ht8] at D8
          rw [ht6, ht7, ht8] at hF
          clear ht6 ht7 ht8 HA
          rcases hF with ⟨rfl, rfl, rfl⟩ | ⟨rfl, rfl, rfl⟩ | ⟨rfl, rfl, rfl⟩
          · go_wp2_with fail
            go_loopw [12, 155] (fun u v wc => ∃ j : Nat, v = .int .i64 j ∧ j ≤ 3 ∧ u = .int .i64 (if 0 < j then 1 else 0) ∧ wc = wr.alloc (.cells #[.int .i64 6, .int .i64 7, .int .i64 8] 30)) (fun _ v _ => 3 - (RowKit.intOf v).toNat)
            case atStart => exact ⟨0, rfl, Nat.zero_le _, rfl, rfl⟩
            case round =>
              obtain ⟨j, rfl, hj, rfl, hwc⟩ := hrel
              rcases (show j = 0 ∨ j = 1 ∨ j = 2 ∨ j = 3 by omega) with rfl | rfl | rfl | rfl
              · subst hwc
                go_wp2_with (first | (go_at_call 10; with_reducible refine Calls.mono (D6.out _ ((Below.refl _ _).alloc (Nat.le_refl _) _)) ?_; rintro r w' ⟨rfl, rfl⟩) | (go_at_call 10; with_reducible refine Calls.mono (D7.out _ ((Below.refl _ _).alloc (Nat.le_refl _) _)) ?_; rintro r w' ⟨rfl, rfl⟩) | (go_at_call 10; with_reducible refine Calls.mono (D8.out _ ((Below.refl _ _).alloc (Nat.le_refl _) _)) ?_; rintro r w' ⟨rfl, rfl⟩))
                go_roundw
                case rel => exact ⟨1, by go_num, by omega, by simp, by first | rfl | trivial⟩
                case measure => simp [RowKit.intOf]
              · subst hwc
                go_wp2_with (first | (go_at_call 10; with_reducible refine Calls.mono (D6.out _ ((Below.refl _ _).alloc (Nat.le_refl _) _)) ?_; rintro r w' ⟨rfl, rfl⟩) | (go_at_call 10; with_reducible refine Calls.mono (D7.out _ ((Below.refl _ _).alloc (Nat.le_refl _) _)) ?_; rintro r w' ⟨rfl, rfl⟩) | (go_at_call 10; with_reducible refine Calls.mono (D8.out _ ((Below.refl _ _).alloc (Nat.le_refl _) _)) ?_; rintro r w' ⟨rfl, rfl⟩))
                go_roundw
                case rel => exact ⟨2, by go_num, by omega, by simp, by first | rfl | trivial⟩
                case measure => simp [RowKit.intOf]
              · subst hwc
                go_wp2_with (first | (go_at_call 10; with_reducible refine Calls.mono (D6.out _ ((Below.refl _ _).alloc (Nat.le_refl _) _)) ?_; rintro r w' ⟨rfl, rfl⟩) | (go_at_call 10; with_reducible refine Calls.mono (D7.out _ ((Below.refl _ _).alloc (Nat.le_refl _) _)) ?_; rintro r w' ⟨rfl, rfl⟩) | (go_at_call 10; with_reducible refine Calls.mono (D8.out _ ((Below.refl _ _).alloc (Nat.le_refl _) _)) ?_; rintro r w' ⟨rfl, rfl⟩))
                go_roundw
                case rel => exact ⟨3, by go_num, by omega, by simp, by first | rfl | trivial⟩
                case measure => simp [RowKit.intOf]
              · subst hwc
                go_wp2_with fail
                go_ret
                exact ⟨rfl, HUP.out _ (HB.out.alloc HB.out.size _)⟩
          · go_wp2_with fail
            go_loopw [12, 155] (fun u v wc => ∃ j : Nat, v = .int .i64 j ∧ j ≤ 3 ∧ u = .int .i64 (if 1 < j then 1 else 0) ∧ wc = wr.alloc (.cells #[.int .i64 6, .int .i64 7, .int .i64 8] 30)) (fun _ v _ => 3 - (RowKit.intOf v).toNat)
            case atStart => exact ⟨0, rfl, Nat.zero_le _, rfl, rfl⟩
            case round =>
              obtain ⟨j, rfl, hj, rfl, hwc⟩ := hrel
              rcases (show j = 0 ∨ j = 1 ∨ j = 2 ∨ j = 3 by omega) with rfl | rfl | rfl | rfl
              · subst hwc
                go_wp2_with (first | (go_at_call 10; with_reducible refine Calls.mono (D6.out _ ((Below.refl _ _).alloc (Nat.le_refl _) _)) ?_; rintro r w' ⟨rfl, rfl⟩) | (go_at_call 10; with_reducible refine Calls.mono (D7.out _ ((Below.refl _ _).alloc (Nat.le_refl _) _)) ?_; rintro r w' ⟨rfl, rfl⟩) | (go_at_call 10; with_reducible refine Calls.mono (D8.out _ ((Below.refl _ _).alloc (Nat.le_refl _) _)) ?_; rintro r w' ⟨rfl, rfl⟩))
                go_roundw
                case rel => exact ⟨1, by go_num, by omega, by simp, by first | rfl | trivial⟩
                case measure => simp [RowKit.intOf]
              · subst hwc
                go_wp2_with (first | (go_at_call 10; with_reducible refine Calls.mono (D6.out _ ((Below.refl _ _).alloc (Nat.le_refl _) _)) ?_; rintro r w' ⟨rfl, rfl⟩) | (go_at_call 10; with_reducible refine Calls.mono (D7.out _ ((Below.refl _ _).alloc (Nat.le_refl _) _)) ?_; rintro r w' ⟨rfl, rfl⟩) | (go_at_call 10; with_reducible refine Calls.mono (D8.out _ ((Below.refl _ _).alloc (Nat.le_refl _) _)) ?_; rintro r w' ⟨rfl, rfl⟩))
                go_roundw
                case rel => exact ⟨2, by go_num, by omega, by simp, by first | rfl | trivial⟩
                case measure => simp [RowKit.intOf]
              · subst hwc
                go_wp2_with (first | (go_at_call 10; with_reducible refine Calls.mono (D6.out _ ((Below.refl _ _).alloc (Nat.le_refl _) _)) ?_; rintro r w' ⟨rfl, rfl⟩) | (go_at_call 10; with_reducible refine Calls.mono (D7.out _ ((Below.refl _ _).alloc (Nat.le_refl _) _)) ?_; rintro r w' ⟨rfl, rfl⟩) | (go_at_call 10; with_reducible refine Calls.mono (D8.out _ ((Below.refl _ _).alloc (Nat.le_refl _) _)) ?_; rintro r w' ⟨rfl, rfl⟩))
                go_roundw
                case rel => exact ⟨3, by go_num, by omega, by simp, by first | rfl | trivial⟩
                case measure => simp [RowKit.intOf]
              · subst hwc
                go_wp2_with fail
                go_ret
                exact ⟨rfl, HUP.out _ (HB.out.alloc HB.out.size _)⟩
          · go_wp2_with fail
            go_loopw [12, 155] (fun u v wc => ∃ j : Nat, v = .int .i64 j ∧ j ≤ 3 ∧ u = .int .i64 (if 2 < j then 1 else 0) ∧ wc = wr.alloc (.cells #[.int .i64 6, .int .i64 7, .int .i64 8] 30)) (fun _ v _ => 3 - (RowKit.intOf v).toNat)
            case atStart => exact ⟨0, rfl, Nat.zero_le _, rfl, rfl⟩
            case round =>
              obtain ⟨j, rfl, hj, rfl, hwc⟩ := hrel
              rcases (show j = 0 ∨ j = 1 ∨ j = 2 ∨ j = 3 by omega) with rfl | rfl | rfl | rfl
              · subst hwc
                go_wp2_with (first | (go_at_call 10; with_reducible refine Calls.mono (D6.out _ ((Below.refl _ _).alloc (Nat.le_refl _) _)) ?_; rintro r w' ⟨rfl, rfl⟩) | (go_at_call 10; with_reducible refine Calls.mono (D7.out _ ((Below.refl _ _).alloc (Nat.le_refl _) _)) ?_; rintro r w' ⟨rfl, rfl⟩) | (go_at_call 10; with_reducible refine Calls.mono (D8.out _ ((Below.refl _ _).alloc (Nat.le_refl _) _)) ?_; rintro r w' ⟨rfl, rfl⟩))
                go_roundw
                case rel => exact ⟨1, by go_num, by omega, by simp, by first | rfl | trivial⟩
                case measure => simp [RowKit.intOf]
              · subst hwc
                go_wp2_with (first | (go_at_call 10; with_reducible refine Calls.mono (D6.out _ ((Below.refl _ _).alloc (Nat.le_refl _) _)) ?_; rintro r w' ⟨rfl, rfl⟩) | (go_at_call 10; with_reducible refine Calls.mono (D7.out _ ((Below.refl _ _).alloc (Nat.le_refl _) _)) ?_; rintro r w' ⟨rfl, rfl⟩) | (go_at_call 10; with_reducible refine Calls.mono (D8.out _ ((Below.refl _ _).alloc (Nat.le_refl _) _)) ?_; rintro r w' ⟨rfl, rfl⟩))
                go_roundw
                case rel => exact ⟨2, by go_num, by omega, by simp, by first | rfl | trivial⟩
                case measure => simp [RowKit.intOf]
              · subst hwc
                go_wp2_with (first | (go_at_call 10; with_reducible refine Calls.mono (D6.out _ ((Below.refl _ _).alloc (Nat.le_refl _) _)) ?_; rintro r w' ⟨rfl, rfl⟩) | (go_at_call 10; with_reducible refine Calls.mono (D7.out _ ((Below.refl _ _).alloc (Nat.le_refl _) _)) ?_; rintro r w' ⟨rfl, rfl⟩) | (go_at_call 10; with_reducible refine Calls.mono (D8.out _ ((Below.refl _ _).alloc (Nat.le_refl _) _)) ?_; rintro r w' ⟨rfl, rfl⟩))
                go_roundw
                case rel => exact ⟨3, by go_num, by omega, by simp, by first | rfl | trivial⟩
                case measure => simp [RowKit.intOf]
              · subst hwc
                go_wp2_with fail
                go_ret
                exact ⟨rfl, HUP.out _ (HB.out.alloc HB.out.size _)⟩
end Go.Proofs.Ytddinjgpoillgaa
