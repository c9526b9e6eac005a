/-
  THE WALK over gimletlaw02.CharsBytes: of any class, rune, cut and bytes.
-/
import Derived.Test.YtinehnbjdlmopaaDoorChBytMath
import Derived.Test.YtinehnbjdlmopaaDoorChArg
import Derived.Test.YtinehnbjdlmopaaDoorRnPut
import Derived.Deep.QuietTactic
import Derived.BigQuiet
namespace Go.Proofs.YtinehnbjdlmopaaDoor
open Go.RowKit Go.Lib

theorem SlAt.below {w w' : World} {v : Value} {n : Nat} {f : Nat → Nat} {B : Nat} (h : SlAt w v n f) (hb : Below B w w') (hB : w.heap.size ≤ B) : SlAt w' v n f := by
  rcases h with h | ⟨b, o, cap, e, h1, h2, h3⟩
  · exact .inl h
  · exact .inr ⟨b, o, cap, e, h1, h2, h3.below hb hB⟩

theorem bs_snoc (f : Nat → Nat) (L x : Nat) : bs f L ++ bs (fun _ => x) 1 = bs (fun j => if j < L then f j else x) (L + 1) := by
  have e1 : bs (fun _ => x) 1 = [.int .u8 (x : Nat)] := rfl
  have e2 : bs (fun j => if j < L then f j else x) (L + 1) = bs (fun j => if j < L then f j else x) L ++ [.int .u8 (x : Nat)] := by
    unfold bs
    rw [List.range_succ, List.map_append]
    simp
  have e3 : bs (fun j => if j < L then f j else x) L = bs f L := by
    unfold bs
    apply List.map_congr_left
    intro j hj
    show Value.int .u8 (((if j < L then f j else x) : Nat) : Int) = _
    rw [if_pos (by simpa using hj)]
  rw [e1, e2, e3]
/-- append to bytes of one's own, in an operation whose guard says yes -/
theorem append_some_if {w : World} {ops : Array Oper} {rest : List Oper} {o : Oper} {a : Act} {Q : Exit → Act → World → Prop} (hw : Region.wanted o (yielded ops a.tmps) = true) (s x : Operand)
    (ho : o.op = .call { callee := .builtin .append, args := #[s, x], argTypes := #[33, 33] }) (base : Nat) (v : Value) (n m cap : Nat) (cells : List Value) (f : Nat → Nat) (hs : a.eval s = v) (hown : w.ownsRow base 5 1 v n cells)
    (ad : Addr) (hx : a.eval x = .slice (some ad) m cap) (hc : ∀ j, j < m → w.cell? (ad.add j) = some (.int .u8 (f j : Nat))) (hb : n + m ≤ 140737488355328) (hbase : base ≤ w.heap.size)
    (h : ∀ v' w', w'.ownsRow base 5 1 v' (n + m) (cells ++ bs f m) → w.grownBy w' v.ownBlock → wpList Tryd.prog ops Q rest (a.put o.dst v') w') : wpList Tryd.prog ops Q (o :: rest) a w := by
  obtain ⟨i0, hi, hz0, hz1, hz2⟩ := info_parts byteInfo
  refine wpList_step fun K hK => ?_
  rw [if_pos hw]
  refine wp_append_own w s x 33 ho base 5 i0 (.int .u8 0) 1 1 Tryd.underlying33 hi hz0 hz1 hz2 rfl (by decide) v n cells hs hown ad m cap (bs f m) hx (by rw [bs_length]; omega) ?_ (bs_one f m) (by unfold maxLen; omega) (by omega) hbase (fun v' w' h3 h4 _ => hK _ _ (h v' w' h3 h4))
  intro j u hu
  obtain ⟨hj, rfl⟩ := bs_get hu
  exact hc j hj

set_option maxRecDepth 100000 in
set_option maxHeartbeats 4000000 in
theorem lawBytes_any (c r k : Int) (v : Value) (f : Nat → Nat) (n : Nat) (w : World) (hr0 : -2147483648 ≤ r) (hr1 : r ≤ 2147483647) (hf : ∀ j, f j < 256) (hn : n ≤ 140737488355328) (hA : ArgS w f n v) (hS : Spans w) (hT : Lib.Utf8Tabs 1 2 w) :
    Calls Tryd.prog 8 #[.agg #[.int .i64 c, .int .i32 r, .int .i64 k, v]] w fun e w' => e = .returned (.bool true) ∧ Below w.heap.size w w' := by
  have cF : ∀ w1, Below w.heap.size w w1 → _ := fun w1 hb => fixed_any w1 (hS.below hb (Nat.le_refl _)) (tabs_below hT hb (Nat.le_refl _))
  have cI : ∀ w1, Below w.heap.size w w1 → _ := fun w1 hb => is_any c r w1 (hS.below hb (Nat.le_refl _))
  have cG : ∀ (d : Int) (u : Value) (g : Nat → Nat) (m : Nat) w1, (∀ j, g j < 256) → SlAt w1 u m g → Below w.heap.size w w1 → _ := fun d u g m w1 hg hsl hb => begins_any d u g m w1 hg (hS.below hb (Nat.le_refl _)) (tabs_below hT hb (Nat.le_refl _)) hsl
  have cP := fun w1 => put_nil r w1 hr0 hr1
  have hmine := Ch.beg_allowed c f n hf
  have hcut := Ch.beg_cut c r
  clear hS hT
  go_enter Tryd.func8, Tryd.ntmps8
  have hA0 := hA
  have hAl := hA.below ((Below.refl w.heap.size w).alloc (Nat.le_refl _) (.cells #[.int .i64 c, .int .i32 r, .int .i64 k, v] 42)) (Nat.le_refl _)
  have hBl := (Below.refl w.heap.size w).alloc (Nat.le_refl _) (.cells #[.int .i64 c, .int .i32 r, .int .i64 k, v] 42)
  have x0 : (w.alloc (.cells #[.int .i64 c, .int .i32 r, .int .i64 k, v] 42)).cell? ⟨w.heap.size, 0, none⟩ = some (.int .i64 c) := by simp
  have x1 : (w.alloc (.cells #[.int .i64 c, .int .i32 r, .int .i64 k, v] 42)).cell? ⟨w.heap.size, 1, none⟩ = some (.int .i32 r) := by simp
  have x2 : (w.alloc (.cells #[.int .i64 c, .int .i32 r, .int .i64 k, v] 42)).cell? ⟨w.heap.size, 2, none⟩ = some (.int .i64 k) := by simp
  have x3 : (w.alloc (.cells #[.int .i64 c, .int .i32 r, .int .i64 k, v] 42)).cell? ⟨w.heap.size, 3, none⟩ = some v := by simp
  have hzl : (w.alloc (.cells #[.int .i64 c, .int .i32 r, .int .i64 k, v] 42)).heap.size = w.heap.size + 1 := by simp
  go_wp2_with fail
  refine (cF _ hBl).mono ?_
  generalize w.alloc (.cells #[.int .i64 c, .int .i32 r, .int .i64 k, v] 42) = w0 at *
  rintro e w1 ⟨rfl, hb1⟩
  have hB1 := hBl.trans (hb1.mono hBl.size)
  have y0 := (hb1.cell (p := ⟨w.heap.size, 0, none⟩) (by show w.heap.size < _; omega)).trans x0
  have y1 := (hb1.cell (p := ⟨w.heap.size, 1, none⟩) (by show w.heap.size < _; omega)).trans x1
  have y2 := (hb1.cell (p := ⟨w.heap.size, 2, none⟩) (by show w.heap.size < _; omega)).trans x2
  have y3 := (hb1.cell (p := ⟨w.heap.size, 3, none⟩) (by show w.heap.size < _; omega)).trans x3
  have hA1 := hA.below hB1 (Nat.le_refl _)
  clear x0 x1 x2 x3 hAl hA0
  go_wp2_with fail
  go_quiet (fail)
  have hBq := below_drewN hB1 nq
  generalize w1.drewN nq = w2 at *
  clear y0 y1 y2 y3 hA1
  cases hI : Ch.isT Ch.tab c r
  · rw [hI] at cI
    clear hcut hI cP
    go_wp2_with fail
    refine (cI w2 hBq).mono ?_
    rintro e w3 ⟨rfl, hb3⟩
    have hB3 := hBq.trans (hb3.mono hBq.size)
    clear cI
    have hAt := hA.below (hB3.alloc hB3.size (.cells #[] 5)) (Nat.le_refl _)
    have hBt := hB3.alloc hB3.size (.cells #[] 5)
    have hzt := hB3.size
    go_wp2_with (at_builtin; refine append_argS rfl _ _ rfl w3.heap.size _ _ 0 n [] f rfl (owns_none w3) rfl hAt (by omega) (by simp) ?_)
    intro m1 t1 hown hgrow
    have hT1 : Below w.heap.size w t1 := hBt.grown hgrow (by simp; omega) (fun q hq => by simp [Value.ownBlock] at hq; omega)
    obtain ⟨hsl, -⟩ := slAt_own (by simpa using hown)
    clear hgrow hown hAt hBt
    cases hb0 : Ch.begP 0 f n
    · rw [hb0, Bool.false_or] at hmine
      have hbc : Ch.begP c f n = false := by simpa using hmine
      go_wp2_with fail
      refine (cG 0 m1 f n t1 hf hsl hT1).mono ?_
      rw [hb0]
      rintro e t2 ⟨rfl, hb2'⟩
      have hT2 := hT1.trans (hb2'.mono hT1.size)
      go_wp2_with fail
      refine (cG c m1 f n t2 hf (hsl.below hb2' (Nat.le_refl _)) hT2).mono ?_
      rw [hbc]
      rintro e t3 ⟨rfl, hb3'⟩
      go_wp2_with fail
      go_ret
      exact ⟨rfl, hT2.trans (hb3'.mono hT2.size)⟩
    · go_wp2_with fail
      refine (cG 0 m1 f n t1 hf hsl hT1).mono ?_
      rw [hb0]
      rintro e t2 ⟨rfl, hb2'⟩
      go_wp2_with fail
      go_ret
      exact ⟨rfl, hT1.trans (hb2'.mono hT1.size)⟩
  · rw [hI] at cI
    replace hcut := hcut hI
    have hlong := Ch.beg_long c r
    have hp := Rn.el_pos r
    have hel : ∀ j, Rn.eb r j < 256 := Rn.eb_lt r
    clear hI
    go_wp2_with fail
    refine (cI w2 hBq).mono ?_
    rintro e w3 ⟨rfl, hb3⟩
    have hB3 := hBq.trans (hb3.mono hBq.size)
    clear cI
    go_wp2_with fail
    refine (cP w3).mono ?_
    rintro e w4 ⟨g, cap, rfl, hc, hm, hby, hb4⟩
    have hB4 := hB3.trans (hb4.mono hB3.size)
    clear cP
    generalize Rn.el r = L at *
    generalize Rn.eb r = eb at *
    have hLz : (1 : Int) ≤ L := by omega
    have hmx : max (1 : Int) L = L := by omega
    have hW : 0 ≤ IntKind.u64.wrap k := by
      show 0 ≤ k % 18446744073709551616
      omega
    obtain ⟨q, hq, hqL⟩ : ∃ q : Nat, (IntKind.u64.wrap k).tmod L = q ∧ q < L := by
      rw [Int.tmod_eq_emod_of_nonneg hW]
      have e1 := Int.emod_nonneg (IntKind.u64.wrap k) (show (L : Int) ≠ 0 by omega)
      have e2 := Int.emod_lt_of_pos (IntKind.u64.wrap k) (show (0 : Int) < L by omega)
      exact ⟨((IntKind.u64.wrap k) % L).toNat, by omega, by omega⟩
    have hq4 : q < 4 := by omega
    have hz1 : decide ((L : Int) < 1 + (q : Int)) = false := by simp; omega
    have hz2 : 1 + (q : Int) ≤ cap := by omega
    have hslc : SlAt w4 (.slice (some ⟨g, 0, none⟩) (1 + q) cap) (1 + q) eb := .inr ⟨g, 0, cap, rfl, by omega, hm, hby.le (by omega)⟩
    have hcq := hcut (1 + q) (by omega) (by omega)
    clear hW hcut
    go_wp2_with fail
    refine (cG c _ eb (1 + q) w4 hel hslc hB4).mono ?_
    rw [hcq]
    rintro e w5 ⟨rfl, hb5⟩
    have hB5 := hB4.trans (hb5.mono hB4.size)
    have hby5 := hby.below hb5 (Nat.le_refl _)
    clear hslc hby hcq
    have hby6 := hby5.below ((Below.refl w5.heap.size w5).alloc (Nat.le_refl _) (.cells #[] 5)) (Nat.le_refl _)
    have hc6 : ∀ j, j < L → (w5.alloc (.cells #[] 5)).cell? (Addr.add ⟨g, 0, none⟩ j) = some (.int .u8 (eb j : Nat)) := fun j hj => by
      rw [show (Addr.add ⟨g, 0, none⟩ j) = ⟨g, 0 + j, none⟩ from by simp [Addr.add]; omega]
      exact hby6 j hj
    go_wp2_with (at_builtin; (refine append_some_if (by simp [Region.wanted, yielded, go_sem]) _ _ rfl w5.heap.size _ 0 L cap [] eb rfl (owns_none w5) ⟨g, 0, none⟩ rfl hc6 (by omega) (by simp) ?_))
    intro v6 w6 hown6 hgrow6
    have hB6 : Below w.heap.size w w6 := (hB5.alloc hB5.size _).grown hgrow6 (by have := hB5.size; simp; omega) (fun x hx => by have := hB5.size; simp [Value.ownBlock] at hx; omega)
    have hz6 : w5.heap.size + 1 ≤ w6.heap.size := by have := hgrow6.size; simpa using this
    have hown7 := hown6.alloc (.cells #[.int .u8 128] 5)
    have hc7 : ∀ j, j < 1 → (w6.alloc (.cells #[.int .u8 128] 5)).cell? (Addr.add ⟨w6.heap.size, 0, none⟩ j) = some (.int .u8 ((fun _ => 128 : Nat → Nat) j : Nat)) := fun j hj => by
      obtain rfl : j = 0 := by omega
      simp [Addr.add]
    clear hc6 hby6 hby5 hgrow6 hown6
    go_wp2_with (at_builtin; (refine append_some_if (by simp [Region.wanted, yielded, go_sem]) _ _ rfl w5.heap.size _ L 1 1 (bs eb L) (fun _ => 128) rfl hown7 ⟨w6.heap.size, 0, none⟩ rfl hc7 (by omega) (by simp; omega) ?_))
    intro v8 w8 hown8 hgrow8
    have hlt8 : ∀ x, v6.ownBlock = some x → w5.heap.size ≤ x := fun x hx => (hown7.lt x hx).1
    have hB8 : Below w.heap.size w w8 := (hB6.alloc hB6.size _).grown hgrow8 (by have := hB6.size; simp; omega) (fun x hx => by have := hlt8 x hx; have := hB5.size; omega)
    have e8 := bs_snoc eb L 128
    rw [e8] at hown8
    obtain ⟨hsl8, -⟩ := slAt_own hown8
    have hg8 : ∀ j, (fun j => if j < L then eb j else 128) j < 256 := fun j => by
      show (if j < L then eb j else 128) < 256
      split
      · exact hel j
      · omega
    have hl8 := hlong (fun j => if j < L then eb j else 128) (fun j hj => if_pos hj)
    clear hown8 hgrow8 hown7 hc7 e8 hlt8 hlong
    go_wp2_with fail
    refine (cG c v8 _ (L + 1) w8 hg8 hsl8 hB8).mono ?_
    rw [hl8]
    rintro e w9 ⟨rfl, hb9⟩
    have hB9 := hB8.trans (hb9.mono hB8.size)
    clear hsl8 hl8 hg8
    have hAt := hA.below (hB9.alloc hB9.size (.cells #[] 5)) (Nat.le_refl _)
    have hBt := hB9.alloc hB9.size (.cells #[] 5)
    have hzt := hB9.size
    go_wp2_with (at_builtin; refine append_argS rfl _ _ rfl w9.heap.size _ _ 0 n [] f rfl (owns_none w9) rfl hAt (by omega) (by simp) ?_)
    intro m1 t1 hown hgrow
    have hT1 : Below w.heap.size w t1 := hBt.grown hgrow (by simp; omega) (fun q hq => by simp [Value.ownBlock] at hq; omega)
    obtain ⟨hsl, -⟩ := slAt_own (by simpa using hown)
    clear hgrow hown hAt hBt
    cases hb0 : Ch.begP 0 f n
    · rw [hb0, Bool.false_or] at hmine
      have hbc : Ch.begP c f n = false := by simpa using hmine
      go_wp2_with fail
      refine (cG 0 m1 f n t1 hf hsl hT1).mono ?_
      rw [hb0]
      rintro e t2 ⟨rfl, hb2'⟩
      have hT2 := hT1.trans (hb2'.mono hT1.size)
      go_wp2_with fail
      refine (cG c m1 f n t2 hf (hsl.below hb2' (Nat.le_refl _)) hT2).mono ?_
      rw [hbc]
      rintro e t3 ⟨rfl, hb3'⟩
      go_wp2_with fail
      go_ret
      exact ⟨rfl, hT2.trans (hb3'.mono hT2.size)⟩
    · go_wp2_with fail
      refine (cG 0 m1 f n t1 hf hsl hT1).mono ?_
      rw [hb0]
      rintro e t2 ⟨rfl, hb2'⟩
      go_wp2_with fail
      go_ret
      exact ⟨rfl, hT1.trans (hb2'.mono hT1.size)⟩
end Go.Proofs.YtinehnbjdlmopaaDoor
