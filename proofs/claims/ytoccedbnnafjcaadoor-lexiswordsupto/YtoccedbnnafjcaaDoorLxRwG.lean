import Derived.Test.YtoccedbnnafjcaaDoorLxRwV
import Derived.Test.YtoccedbnnafjcaaDoorLxValM
import Derived.BigGuard
/-
  What LexisWords' two loops and its append leave as it was.
-/
namespace Go.Proofs.YtoccedbnnafjcaaDoor
open Go.RowKit Go.Lib
namespace Lx
/-- as it was, but for two blocks -/
structure B2 (g : Nat) (o : Option Nat) (w w' : World) : Prop where
  os : w'.os = w.os
  tape : w'.tape = w.tape
  output : w'.output = w.output
  size : w.heap.size ≤ w'.heap.size
  block : ∀ k, k < w.heap.size → k ≠ g → o ≠ some k → w'.heap[k]? = w.heap[k]?
theorem B2.refl (g : Nat) (o : Option Nat) (w : World) : B2 g o w w := ⟨rfl, rfl, rfl, Nat.le_refl _, fun _ _ _ _ => rfl⟩
theorem B2.one {g : Nat} {o : Option Nat} {w a b : World} (h : B2 g o w a) (k : a.grownBy b (some g)) : B2 g o w b :=
  ⟨k.os.trans h.os, k.tape.trans h.tape, k.output.trans h.output, Nat.le_trans h.size k.size, fun i hi hg ho => (k.block i (Nat.lt_of_lt_of_le hi h.size) (fun e => hg (Option.some.inj e))).trans (h.block i hi hg ho)⟩
theorem B2.two {g : Nat} {o : Option Nat} {w a b : World} (h : B2 g o w a) (k : a.grownBy b o) : B2 g o w b :=
  ⟨k.os.trans h.os, k.tape.trans h.tape, k.output.trans h.output, Nat.le_trans h.size k.size, fun i hi hg ho => (k.block i (Nat.lt_of_lt_of_le hi h.size) (fun e => ho e.symm)).trans (h.block i hi hg ho)⟩
theorem B2.below {g : Nat} {o : Option Nat} {w a b : World} (h : B2 g o w a) {B : Nat} (k : Below B a b) (hB : w.heap.size ≤ B) : B2 g o w b :=
  ⟨k.os.trans h.os, k.tape.trans h.tape, k.output.trans h.output, Nat.le_trans h.size k.size, fun i hi hg ho => (k.block i (by omega)).trans (h.block i hi hg ho)⟩
theorem B2.weak {g : Nat} {o : Option Nat} {w a : World} (h : B2 g none w a) : B2 g o w a := ⟨h.os, h.tape, h.output, h.size, fun k hk hg _ => h.block k hk hg (by simp)⟩
theorem B2.row {g B : Nat} {o : Option Nat} {w a : World} (h : B2 g o w a) {e : TypeId} {k : Nat} {u : Value} {n : Nat} {ys : List Value} (hr : w.ownsRow B e k u n ys) (hg : g < B) (ho : ∀ q, o = some q → q < B) : a.ownsRow B e k u n ys :=
  row_keep hr (fun q h1 h2 => h.block q h2 (by omega) (fun e => by have := ho q e; omega))
theorem B2.end_ {g : Nat} {o : Option Nat} {w a : World} (h : B2 g o w a) {w0 : World} (hb : Below w0.heap.size w0 w) (hg : w0.heap.size ≤ g) (ho : ∀ q, o = some q → w0.heap.size ≤ q) : Below w0.heap.size w0 a :=
  ⟨h.os.trans hb.os, h.tape.trans hb.tape, h.output.trans hb.output, Nat.le_trans hb.size h.size, fun k hk => (h.block k (by have := hb.size; omega) (by omega) (fun e => by have := ho k e; omega)).trans (hb.block k hk)⟩
theorem own_sl {W : World} {B : Nat} {e : TypeId} {k n : Nat} {v : Value} {ys : List Value} (h : W.ownsRow B e k v n ys) : ∃ p c, v = .slice p n c ∧ n ≤ c ∧ c ≤ maxLen ∧ (0 < n → ∃ q, p = some ⟨q, 0, none⟩) := by
  rcases h.2 with ⟨e1, e2⟩ | ⟨g, cap, cur, e1, _, _, c1, c2, _⟩
  · exact ⟨none, 0, by rw [e1, e2], by omega, by unfold maxLen; omega, by omega⟩
  · exact ⟨_, cap, e1, c1, c2, fun _ => ⟨g, rfl⟩⟩
theorem own_cells {g base size n cap : Nat} {e : TypeId} : ∀ (vs : List Value) (o : Nat) (xs : List Value) (w : World), w.ownsRow base e size (.slice (some ⟨g, 0, none⟩) n cap) n xs → (∃ ys, (w.setCells g o vs).ownsRow base e size (.slice (some ⟨g, 0, none⟩) n cap) n ys) ∧ w.grownBy (w.setCells g o vs) (some g)
  | [], _, xs, w, h => ⟨⟨xs, h⟩, ⟨rfl, rfl, rfl, Nat.le_refl _, fun _ _ _ => rfl⟩⟩
  | v :: r, o, xs, w, h => by
    obtain ⟨h1, h2⟩ := h.stored o v
    obtain ⟨⟨ys, h3⟩, h4⟩ := own_cells r (o + 1) _ _ h1
    exact ⟨⟨ys, h3⟩, ⟨h4.os.trans h2.os, h4.tape.trans h2.tape, h4.output.trans h2.output, Nat.le_trans h2.size h4.size, fun k hk hn => (h4.block k (Nat.lt_of_lt_of_le hk h2.size) hn).trans (h2.block k hk hn)⟩⟩
theorem own_there {g base size n cap : Nat} {e : TypeId} {xs : List Value} {w : World} (h : w.ownsRow base e size (.slice (some ⟨g, 0, none⟩) n cap) n xs) {o m : Nat} (hm : o + m ≤ n * size) : w.there g o m := by
  intro j hj
  refine ⟨?_, h.frozenAt _⟩
  rw [h.cellAt (o + j) (by omega), List.getElem?_eq_getElem (by have := h.1; omega)]
  rfl
/-- a word that is written over -/
def spo : Array Value := #[.int .i64 0, .string ⟨#[115, 112, 111, 105, 108, 116]⟩, .int .i64 0, .int .i64 0, .int .i64 0, .int .i64 0, .int .i64 0]
theorem spo_one : spo.all (·.oneCell') = true := by kernel_rfl
theorem spo_info : (Tryd.prog.info? 43).map (·.size) = some spo.size := by kernel_rfl
/-- three words of nothing -/
def z21 : Array Value := #[.int .i64 0, .string ⟨#[]⟩, .int .i64 0, .int .i64 0, .int .i64 0, .int .i64 0, .int .i64 0, .int .i64 0, .string ⟨#[]⟩, .int .i64 0, .int .i64 0, .int .i64 0, .int .i64 0, .int .i64 0, .int .i64 0, .string ⟨#[]⟩, .int .i64 0, .int .i64 0, .int .i64 0, .int .i64 0, .int .i64 0]
theorem z21_one : ∀ u ∈ z21.toList, u.oneCell' = true := by
  intro u hu
  simp [z21] at hu
  rcases hu with rfl | rfl | rfl | rfl | rfl | rfl | rfl <;> rfl
/-- append of three words of nothing -/
theorem append_three {W : World} {ops : Array Oper} {rest : List Oper} {o : Oper} {a : Act} {Q : Exit → Act → World → Prop} (hgd : o.guard = none) (s x : Operand)
    (ho : o.op = .call { callee := .builtin .append, args := #[s, x], argTypes := #[24, 24] }) (base : Nat) (v : Value) (n : Nat) (cells : List Value) (hs : a.eval s = v) (hown : W.ownsRow base 43 7 v n cells)
    (hx : a.eval x = .slice (some ⟨W.heap.size, 0, none⟩) 3 3) (hn : n ≤ 1048576) (hbase : base ≤ W.heap.size)
    (h : ∀ v' w', w'.ownsRow base 43 7 v' (n + 3) (cells ++ z21.toList) → (W.alloc (.cells z21 43)).grownBy w' v.ownBlock → wpList Tryd.prog ops Q rest (a.put o.dst v') w') : wpList Tryd.prog ops Q (o :: rest) a (W.alloc (.cells z21 43)) := by
  obtain ⟨i0, hi, hz0, hz1, hz2⟩ := info_parts wdInfo3
  refine wpList_append_own _ hgd s x 24 ho base 43 i0 (.agg wd0) 7 64 Tryd.underlying24 hi hz0 hz1 hz2 rfl (by decide) v n cells hs (hown.alloc _) ⟨W.heap.size, 0, none⟩ 3 3 z21.toList hx rfl ?_ z21_one (by unfold maxLen; omega) (by omega) (by simp; omega) (fun v' w' h3 h4 _ => h v' w' h3 h4)
  intro j u hu
  rw [show (Addr.add ⟨W.heap.size, 0, none⟩ j) = ⟨W.heap.size, j, none⟩ from by simp [Addr.add]; omega, Lib.cell_of_heap (Er.heap_new W _)]
  simpa using hu
/-- a store whose run is known -/
theorem store_run {P : Program} {ops : Array Oper} {rest : List Oper} {op : Oper} {a : Act} {w W' : World} {Q : Exit → Act → World → Prop} {ty : TypeId} {x y : Operand} {pv yv : Value} (hS : (Instr.storeAt ty pv yv).run P w = .ok () W') (hgd : op.guard = none) (ho : op.op = .store ty x y) (hx : a.eval x = pv) (hy : a.eval y = yv)
    (h : wpList P ops Q rest (a.put op.dst undef) W') : wpList P ops Q (op :: rest) a w :=
  wpList_plain hgd fun _ hK => by
    unfold Oper.wp execOp
    simp only [ho, hx, hy, Sem.run_bind, Sem.run_pure, Result.andThen_ok, hS]
    exact hK _ _ h
end Lx
end Go.Proofs.YtoccedbnnafjcaaDoor
/-
  THE WALK over gimletlaw10.LexisWords: a query that is words.
-/
namespace Go.Proofs.YtoccedbnnafjcaaDoor
open Go.RowKit Go.Lib
set_option maxRecDepth 1000000 in
set_option maxHeartbeats 8000000 in
theorem lawWords_ok (f : Nat → Nat) (n : Nat) (v : Value) (w : World) (hT : Lib.Utf8Tabs 1 2 w) (hS : Spans w) (hG : Signs w) (hx : Lx.flt f n = none) (hf : ∀ j, f j < 256) (hn : n ≤ 1048576) (hq : ArgS w f n v) :
    Calls Tryd.prog 3 #[v] w fun e w' => e = .returned (.bool true) ∧ Below w.heap.size w w' := by
  have cA := lxAwake_any w hT hS hG
  have cQ : ∀ W v, Below w.heap.size w W → ArgS W f n v → _ := fun W v hb h => words_arg f n v W (tabs_below hT hb (Nat.le_refl _)) (hS.below hb (Nat.le_refl _)) (hG.below hb (Nat.le_refl _)) hf (by omega) h
  have CQ := hide' cQ
  have HQ := hide' hq
  obtain ⟨pa, cq, rfl, q1, q2, _, _⟩ := arg_parts hq
  have q3 : cq ≤ 9223372036854775807 := by unfold maxLen at q2; omega
  have hx := hide' hx
  obtain ⟨N, hN⟩ : ∃ N, (Lx.words f n).1.length = N := ⟨_, rfl⟩
  obtain ⟨X, hX⟩ : ∃ X, Lx.wxL f n (Lx.words f n).1 = X := ⟨_, rfl⟩
  have hNn : N ≤ n := by rw [← hN]; exact Lx.words_len hf
  clear hT hS hG cQ hq q2
  go_enter Tryd.func3, Tryd.ntmps3
  go_wp2_with fail
  refine cA.mono ?_
  rintro e w1 ⟨rfl, hb1⟩
  have hA1 := HQ.out.below (hb1.alloc hb1.size (.cells #[] 5)) (Nat.le_refl _)
  clear cA
  go_wp2_with (at_builtin; refine append_argS rfl _ _ rfl w1.heap.size _ _ 0 n [] f rfl (owns_none w1) rfl hA1 (by omega) (by simp) ?_)
  intro v1 w2 hown hgrow
  have hB12 : Below w1.heap.size w1 w2 := ((Below.refl w1.heap.size w1).alloc (Nat.le_refl _) _).grown hgrow (by simp) (fun k hk => by simp [Value.ownBlock] at hk; omega)
  have hown2 : w2.ownsRow w1.heap.size 5 1 v1 n (bs f n) := by simpa using hown
  clear hgrow hown hA1
  have hs12 := hB12.size
  go_wp2_with (at_builtin; refine append_argS rfl _ _ rfl w1.heap.size _ _ n 1 (bs f n) (fun _ => 71) rfl (hown2.alloc _) rfl (Lx.arg_one w2) (by omega) (by simp; omega) ?_)
  intro v2 w3 hown hgrow
  rw [Lx.bs_qx] at hown
  have hB3 : Below w.heap.size w w3 := hb1.trans (((hB12.alloc (by omega) _).grown hgrow (by simp; omega) (fun k hk => (hown2.lt k hk).1)).mono hb1.size)
  obtain ⟨g, cap, rfl, hBq⟩ := Lx.Bq.of hown
  have b1 := hBq.le
  have b2 : cap ≤ 9223372036854775807 := by have := hBq.mx; unfold maxLen at this; omega
  have b3 : (n : Int) ≤ (cap : Int) := by omega
  have hgw : w.heap.size ≤ g := Nat.le_trans hb1.size hBq.lo
  have cW := CQ.out w3 _ hB3 hBq.arg
  have HB3 := hide' hB3
  have HQ3 := hide' hBq
  clear hgrow hown hown2 hB12 hs12 hb1 hB3 hBq
  go_wp2_with fail
  refine cW.mono ?_
  clear cW
  intro e w4 hE
  obtain ⟨v4, rfl, hr4, hb4⟩ := Lx.words_ok hx.out hE
  rw [hX, hN] at hr4
  obtain ⟨p4, c4, rfl, x1, x2, x3⟩ := Lx.own_sl hr4
  have hB4 := HB3.out.trans (hb4.mono HB3.out.size)
  have cW := CQ.out w4 _ hB4 (HQ3.out.below hb4 (Nat.le_refl _)).arg
  have HB4 := hide' hB4
  have HQ4 := hide' (HQ3.out.below hb4 (Nat.le_refl _))
  have hg3 : g < w3.heap.size := HQ3.out.lt
  have hw3 : w.heap.size ≤ w3.heap.size := HB3.out.size
  have h34 := hb4.size
  have HR4 := hide' (And.intro hr4 x3)
  clear hE hb4 hB4 HB3 HQ3 hr4 x3
  go_wp2_with fail
  refine cW.mono ?_
  clear cW
  intro e w5 hE
  obtain ⟨v6, rfl, hr5, hb5⟩ := Lx.words_ok hx.out hE
  rw [hX, hN] at hr5
  obtain ⟨p6, c6, rfl, y1, y2, _⟩ := Lx.own_sl hr5
  have hB5 := HB4.out.trans (hb5.mono HB4.out.size)
  have cR := refWords10 f n (.slice pa n cq) w5 hf (by omega) (HQ.out.below hB5 (Nat.le_refl _))
  have HB5 := hide' hB5
  have HQ5 := hide' (HQ4.out.below hb5 (Nat.le_refl _))
  have h45 := hb5.size
  have HR5 := hide' (And.intro (HR4.out.1.kept_below hb5) hr5)
  have HX3 := hide' HR4.out.2
  have hlt4 := hide' HR4.out.1.lt
  clear hE hb5 hB5 HB4 HQ4 hr5 HR4
  go_wp2_with fail
  refine cR.mono ?_
  clear cR
  intro e w6 hE
  obtain ⟨v8, rfl, hr6, hb6⟩ := Lx.ref_ok hx.out hE
  rw [hX, hN] at hr6
  obtain ⟨p8, c8, rfl, u1, u2, _⟩ := Lx.own_sl hr6
  have hB6 := HB5.out.trans (hb6.mono HB5.out.size)
  obtain ⟨W7, hW7⟩ : ∃ W7, W7 = w6.alloc (.cells #[.int .i64 0, .int .i64 0, .int .i64 0, .int .i64 0] 30) := ⟨_, rfl⟩
  have hb7 : Below w6.heap.size w6 W7 := by rw [hW7]; exact (Below.refl _ _).alloc (Nat.le_refl _) _
  have r4 := (HR5.out.1.kept_below hb6).kept_below hb7
  have r6 := (HR5.out.2.kept_below hb6).kept_below hb7
  have r8 := hr6.kept_below hb7
  have hQ7 := (HQ5.out.below hb6 (Nat.le_refl _)).below hb7 (Nat.le_refl _)
  have hB7 := hB6.trans (hb7.mono hB6.size)
  have H7 := hide' (And.intro r4 (And.intro r6 (And.intro r8 (And.intro hB7 hQ7))))
  have S7 := hide' (show w5.heap.size ≤ W7.heap.size from Nat.le_trans hb6.size hb7.size)
  have hW := hide' hW7
  clear hE hb6 hB6 HB5 HQ5 HR5 hr6 hW7 hb7 r4 r6 r8 hQ7 hB7
  go_wp2_with fail
  rw [← hW.out]
  clear hW
  obtain ⟨r4, r6, r8, hB7, hQ7⟩ := H7.out
  have cK : ∀ j, Calls Tryd.prog 10 #[.slice p4 N c4, .slice p8 N c8, .bool true] (W7.drewN j) fun e w' => e = .returned (.bool true) ∧ ∃ q, w' = (W7.drewN j).drewN q := fun j => lxAlikeQ _ _ N X _ ((Lx.WRow.own r4).below (below_drewN (Below.refl W7.heap.size W7) j) (Nat.le_refl _)) ((Lx.WRow.own r8).below (below_drewN (Below.refl W7.heap.size W7) j) (Nat.le_refl _))
  have cL : ∀ j, Calls Tryd.prog 10 #[.slice p6 N c6, .slice p8 N c8, .bool true] (W7.drewN j) fun e w' => e = .returned (.bool true) ∧ ∃ q, w' = (W7.drewN j).drewN q := fun j => lxAlikeQ _ _ N X _ ((Lx.WRow.own r6).below (below_drewN (Below.refl W7.heap.size W7) j) (Nat.le_refl _)) ((Lx.WRow.own r8).below (below_drewN (Below.refl W7.heap.size W7) j) (Nat.le_refl _))
  have kb := fun j => (hQ7.arg.below (below_drewN (Below.refl W7.heap.size W7) j) (Nat.le_refl _)).text hf
  have kq := fun j => ((HQ.out.below hB7 (Nat.le_refl _)).below (below_drewN (Below.refl W7.heap.size W7) j) (Nat.le_refl _)).text hf
  have cl := hQ7.last
  have t1 : (n : Int) < (n : Int) + 1 := by omega
  clear r4 r6 r8 hB7 hQ7
  go_quiet (first | (go_at_call 10; with_reducible refine Calls.quiet_of (cK _)) | (go_at_call 10; with_reducible refine Calls.quiet_of (cL _)))
  clear cK cL kb kq cl
  obtain ⟨W9, hW9⟩ : ∃ W9, W9 = W7.drewN nq := ⟨_, rfl⟩
  obtain ⟨r4, r6, r8, hB7, hQ7⟩ := H7.out
  have hb9 : Below W7.heap.size W7 W9 := by rw [hW9]; exact below_drewN (Below.refl _ _) nq
  have H9 := hide' (And.intro (r4.kept_below hb9) (And.intro (r6.kept_below hb9) (And.intro (r8.kept_below hb9) (And.intro (hB7.trans (hb9.mono hB7.size)) (hQ7.below hb9 (Nat.le_refl _))))))
  have s9 : w3.heap.size ≤ W9.heap.size := by have := hb9.size; have := S7.out; omega
  clear r4 r6 r8 hB7 hQ7 hb9 H7
  rw [← hW9]
  clear hW9
  go_wp2_with fail
  go_loopw [12] (fun i wr => ∃ (a : Nat) (ys : List Value), i = .int .i64 a ∧ a ≤ n + 1 ∧ wr.ownsRow w1.heap.size 5 1 (.slice (some ⟨g, 0, none⟩) (n + 1) cap) (n + 1) ys ∧ Lx.B2 g none W9 wr) (fun i _ => n + 1 - (RowKit.intOf i).toNat)
  case atStart => exact ⟨0, _, rfl, Nat.zero_le _, H9.out.2.2.2.2.own, Lx.B2.refl _ _ _⟩
  case round =>
    obtain ⟨a, ys, rfl, han, hown, hgr⟩ := hrel
    by_cases hlt : a < n + 1
    · have g1 : (a : Int) < (n : Int) + 1 := by omega
      have hca := hown.cellAt a (by omega)
      have hyl : ys.length = n + 1 := by have := hown.1; omega
      obtain ⟨y, hy⟩ : ∃ y, ys[a]? = some y := ⟨ys[a]'(by omega), List.getElem?_eq_getElem _⟩
      rw [hy] at hca
      have hfz := hown.frozenAt a
      have hst := hown.stored a (.int .u8 88)
      have HS := hide' (And.intro hst.1 (hgr.one hst.2))
      clear hst hown hgr hyl hy
      go_wp2
      go_roundw
      case rel => exact ⟨a + 1, _, by go_num, by omega, HS.out.1, HS.out.2⟩
      case measure => simp [RowKit.intOf]; omega
    · obtain rfl : a = n + 1 := by omega
      have g1 : ¬ ((n + 1 : Nat) : Int) < (n : Int) + 1 := by omega
      have r4 := hgr.row H9.out.1 hg3 (fun q h => by cases h)
      have HL := hide' (And.intro r4 hgr)
      clear r4 hgr hown han hlt
      go_wp2_with fail
      go_loopw [13] (fun i wr => ∃ (a : Nat) (ys : List Value), i = .int .i64 a ∧ a ≤ N ∧ wr.ownsRow w3.heap.size 43 7 (.slice p4 N c4) N ys ∧ Lx.B2 g (Value.slice p4 N c4).ownBlock W9 wr) (fun i _ => N - (RowKit.intOf i).toNat)
      case atStart => exact ⟨0, _, rfl, Nat.zero_le _, HL.out.1, HL.out.2.weak⟩
      case round =>
        obtain ⟨a, ys, rfl, han, hown, hgr⟩ := hrel
        by_cases hlt : a < N
        · have g2 : (a : Int) < (N : Int) := by omega
          obtain ⟨q, rfl⟩ := HX3.out (by omega)
          have hth := Lx.own_there hown (o := a * 7) (m := Lx.spo.size) (by show a * 7 + 7 ≤ N * 7; omega)
          obtain ⟨⟨ys2, hst⟩, hg2⟩ := Lx.own_cells Lx.spo.toList (a * 7) ys _ hown
          have kS := run_storeAt_mid (P := Tryd.prog) _ q (a * 7) 43 Lx.spo hth Lx.spo_info Lx.spo_one
          obtain ⟨W', hW'⟩ : ∃ W', wr.setCells q (a * 7) Lx.spo.toList = W' := ⟨_, rfl⟩
          rw [hW'] at kS hst hg2
          have HS := And.intro hst (hgr.two hg2)
          unfold Lx.spo at kS
          have HS := hide' HS
          have KS := hide' kS
          clear hst hown hgr hth hg2 hW' kS
          go_wp2_with (refine Lx.store_run KS.out rfl rfl ?hx ?hy ?_)
          case hx => rfl
          case hy => trace_state; rfl
          go_roundw
          case rel => exact ⟨a + 1, _, by go_num, by omega, HS.out.1, HS.out.2⟩
          case measure => simp [RowKit.intOf]; omega
        · obtain rfl : a = N := by omega
          have g2 : ¬ (a : Int) < (a : Int) := by omega
          have hs3 : w3.heap.size ≤ wr.heap.size := by have := hgr.size; omega
          have ho : ∀ q, (Value.slice p4 a c4).ownBlock = some q → w3.heap.size ≤ q ∧ q < w4.heap.size := hlt4.out
          have HG := hide' (And.intro hgr ho)
          have HO := hide' hown
          have hN2 : a ≤ 1048576 := by omega
          clear hgr ho hlt han hown
          go_wp2_with (at_builtin; refine Lx.append_three rfl _ _ rfl w3.heap.size _ a ys rfl HO.out rfl hN2 hs3 ?_)
          intro v' w' hown hgrow
          obtain ⟨hgr, ho⟩ := HG.out
          have hgr' : Lx.B2 g (Value.slice p4 a c4).ownBlock W9 w' := (hgr.below ((Below.refl wr.heap.size wr).alloc (Nat.le_refl _) _) hgr.size).two hgrow
          obtain ⟨_, r6, r8, hB9, _⟩ := H9.out
          have q6 := hgr'.row r6 (by omega) (fun q h => (ho q h).2)
          have q8 := hgr'.row r8 (by omega) (fun q h => by have := (ho q h).2; omega)
          have hEnd : Below w.heap.size w w' := hgr'.end_ hB9 hgw (fun q h => by have := (ho q h).1; omega)
          have cM := lxAlikeQ _ _ a X w' (Lx.WRow.own q6) (Lx.WRow.own q8)
          obtain ⟨p9, c9, rfl, m1, m2, _⟩ := Lx.own_sl hown
          have HEND := hide' hEnd
          clear hown hgrow hgr ho hgr' r6 r8 hB9 q6 q8 hEnd HG HO
          go_wp2_with fail
          refine cM.mono ?_
          rintro e w9 ⟨rfl, z, hz⟩
          have HZ := hide' hz
          clear hz cM
          go_wp2
          go_ret
          exact ⟨rfl, by rw [HZ.out]; exact below_drewN HEND.out z⟩
end Go.Proofs.YtoccedbnnafjcaaDoor
