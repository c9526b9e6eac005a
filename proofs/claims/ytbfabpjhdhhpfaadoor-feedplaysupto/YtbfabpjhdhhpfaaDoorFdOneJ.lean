/-
  THE WALK over gimletlaw04.one: Push.
-/
import Derived.Test.YtbfabpjhdhhpfaaDoorFdOneI
namespace Go.Proofs.YtbfabpjhdhhpfaaDoor
open Go.RowKit Go.Lib
section
variable {w : World} {D B M C : Nat} {v u : Value} {F : Nat → Nat} {N T : Nat} {E : Bool}
set_option maxRecDepth 100000 in
set_option maxHeartbeats 1000000 in
theorem one_push (h : Duo w D B M C v u F N T E) (hT : Lib.Utf8Tabs 0 1 w) (oth : Bool) (po : Option Addr) (lo co : Nat) (f : Nat → Nat) (hf : ∀ j, f j < 256) (hpo : po = none → lo = 0 ∧ co = 0) (hco : lo ≤ co) (hco2 : co ≤ 9223372036854775807)
    (hby : 0 < lo → ∃ b0 o0, po = some ⟨b0, o0, none⟩ ∧ Bytes w b0 o0 lo f ∧ b0 < w.heap.size ∧ b0 ≠ D ∧ b0 ≠ M ∧ v.ownBlock ≠ some b0 ∧ u.ownBlock ≠ some b0) (hlen : N + lo ≤ 1099511627776) (hBB : 0 < B ∧ 1 < B) (hBD : B ≤ D) (hCw : C ≤ w.heap.size) :
    Calls Tryd.prog 9 #[.pointer (some ⟨D, 0, none⟩), .pointer (some ⟨M, 0, none⟩), .agg #[.int .i64 1, .bool oth, .slice po lo co]] w (OneEnd D B M C v u N lo w) := by
  obtain ⟨G, N', r, hG, hN', hr5, hrun, hcr, cP0, cM0⟩ := push_both h hT po lo co f hf hpo hlen hBB hBD
  have hbyW : ∀ W : World, (∀ k, k < w.heap.size → k ≠ D → v.ownBlock ≠ some k → W.heap[k]? = w.heap[k]?) → 0 < lo → ∃ b0 o0, po = some ⟨b0, o0, none⟩ ∧ Bytes W b0 o0 lo f := fun W hk h0 => by
    obtain ⟨b0, o0, e, hb, hl, n1, n2, n3, n4⟩ := hby h0
    exact ⟨b0, o0, e, fun j hj => (World.cell?_of_block (a := ⟨b0, o0 + j, none⟩) (hk b0 hl n1 n3)).trans (hb j hj)⟩
  have hcW : ∀ W : World, (∀ k, k < w.heap.size → k ≠ D → v.ownBlock ≠ some k → W.heap[k]? = w.heap[k]?) → ∀ ad, po = some ad → ∀ j u, (xs f lo)[j]? = some u → W.cell? (ad.add j) = some u := fun W hk ad e j u hu => by
    obtain ⟨hj, rfl⟩ := xs_get _ _ _ _ hu
    obtain ⟨b0, o0, e2, hb⟩ := hbyW W hk (by omega)
    obtain rfl : ad = ⟨b0, o0, none⟩ := Option.some.inj (e.symm.trans e2)
    rw [Addr.add_lit]
    exact hb j hj
  have HW := hide' (And.intro hbyW hcW)
  have HP := hide' (And.intro cP0 (And.intro cM0 (And.intro hrun hcr)))
  clear hbyW hcW hby cP0 cM0 hrun hcr
  obtain ⟨i0, hi, hz0, hz1, hz2⟩ := info_parts infoByte'
  have hown0 := owns_empty (w.alloc (.cells #[.int .i64 1, .bool oth, .slice po lo co] 31))
  have hB0 : Below w.heap.size w ((w.alloc (.cells #[.int .i64 1, .bool oth, .slice po lo co] 31)).alloc (.cells #[] 5)) := ((Below.refl _ _).alloc (Nat.le_refl _) _).alloc (by simp) _
  have hsz0 : (w.alloc (.cells #[.int .i64 1, .bool oth, .slice po lo co] 31)).heap.size = w.heap.size + 1 := by simp
  rw [hsz0] at hown0
  have hnews : ∀ ad, po = some ad → ∀ j u, (xs f lo)[j]? = some u → ((w.alloc (.cells #[.int .i64 1, .bool oth, .slice po lo co] 31)).alloc (.cells #[] 5)).cell? (ad.add j) = some u := HW.out.2 _ (fun k hk _ _ => hB0.block k hk)
  have H := hide' h
  clear h hT hsz0
  have HB0 := hide' hB0
  clear hB0
  go_enter Tryd.func9, Tryd.ntmps9
  go_wp2_with (at_builtin; refine wpList_append_opt rfl _ _ 27 rfl (w.heap.size + 1) 5 i0 (.int .u8 0) 1 1 Tryd.underlying27 hi hz0 hz1 hz2 rfl (by decide) (.slice (some ⟨w.heap.size + 1, 0, none⟩) 0 0) 0 [] rfl hown0 po lo co hpo (xs f lo) rfl ?b0 hnews (one_cell f lo) ?b1 ?b2 ?b3 ?_)
  case b0 => first | exact xs_length f lo | (rw [xs_length]; omega)
  case b1 => unfold maxLen; omega
  case b2 => omega
  case b3 => simp
  intro v1 w1 hown1 hgrow1
  have hB1 : Below w.heap.size w w1 := HB0.out.grown hgrow1 (by simp; omega) (fun k hk => by simp [Value.ownBlock] at hk; omega)
  have hbox1 : w1.heap[w.heap.size]? = some (.cells #[.int .i64 1, .bool oth, .slice po lo co] 31 (0, 0)) := by
    rw [hgrow1.block w.heap.size (by simp; omega) (fun e => by simp [Value.ownBlock] at e), ((Below.refl _ (w.alloc (.cells #[.int .i64 1, .bool oth, .slice po lo co] 31))).alloc (Nat.le_refl _) _).block w.heap.size (by simp)]
    exact heap_top _ _ rfl
  have hs1 : w.heap.size + 1 ≤ w1.heap.size := by have := hgrow1.size; simp at this; omega
  have hownA : (w1.alloc (.cells #[.int .u8 71] 5)).ownsRow (w.heap.size + 1) 5 1 v1 lo (xs f lo) := hown1.alloc _
  have hB1A : Below w.heap.size w (w1.alloc (.cells #[.int .u8 71] 5)) := hB1.alloc hB1.size _
  have hbox1A : (w1.alloc (.cells #[.int .u8 71] 5)).heap[w.heap.size]? = some (.cells #[.int .i64 1, .bool oth, .slice po lo co] 31 (0, 0)) := (((Below.refl _ w1).alloc (Nat.le_refl _) _).block w.heap.size (by omega)).trans hbox1
  have hlt1 : ∀ k, v1.ownBlock = some k → w.heap.size + 1 ≤ k := fun k hk => (own_block_lt hown1 hk).2
  obtain ⟨pv1, capv1, rfl⟩ : ∃ pv capv, v1 = .slice pv lo capv := by
    rcases owns_row hown1 with ⟨e1, e2⟩ | ⟨q, cap, e1, _⟩
    · exact ⟨none, 0, by rw [e1, e2]⟩
    · exact ⟨_, _, e1⟩
  have HX1 := hide' (And.intro hB1A hbox1A)
  have HL1 := hide' hlt1
  clear hown0 hnews hown1 hgrow1 HB0 hB1 hbox1 hB1A hbox1A hlt1
  go_wp2_with (at_builtin; refine wpList_append_own_at _ rfl _ _ 27 rfl (w.heap.size + 1) 5 i0 (.int .u8 0) 1 1 Tryd.underlying27 hi hz0 hz1 hz2 rfl (by decide) (.slice pv1 lo capv1) lo (xs f lo) rfl hownA ⟨w1.heap.size, 0, none⟩ 1 1 [.int .u8 71] rfl rfl (one_news w1 71) ?d0 ?d1 ?d2 ?d3 ?_)
  case d0 => intro x hx; simp at hx; subst hx; rfl
  case d1 => unfold maxLen; omega
  case d2 => omega
  case d3 => simp; omega
  intro v2 w2 hown2 hgrow2 hnn2 hat2
  have hrow1 : ∀ k, (Value.slice pv1 lo capv1).ownBlock = some k → w.heap.size + 1 ≤ k := HL1.out
  have hs2 : (w1.alloc (.cells #[.int .u8 71] 5)).heap.size = w1.heap.size + 1 := by simp
  have hB2 : Below w.heap.size w w2 := HX1.out.1.grown hgrow2 (by omega) (fun k hk => by have := hrow1 k hk; omega)
  have hbox2 : w2.heap[w.heap.size]? = some (.cells #[.int .i64 1, .bool oth, .slice po lo co] 31 (0, 0)) :=
    (hgrow2.block w.heap.size (by omega) (fun e => by have := hrow1 _ e.symm; omega)).trans HX1.out.2
  obtain ⟨q, cap2, rfl, hq1, hq2, hcap2, hcap2'⟩ : ∃ q cap2, v2 = .slice (some ⟨q, 0, none⟩) (lo + 1) cap2 ∧ w.heap.size + 1 ≤ q ∧ q < w2.heap.size ∧ lo + 1 ≤ cap2 ∧ cap2 ≤ maxLen := by
    rcases hown2.2 with ⟨_, e2⟩ | ⟨q, cap, cur, e1, e2, e3, e4, e5, _⟩
    · omega
    · exact ⟨q, cap, e1, e2, (Array.getElem?_eq_some_iff.1 e3).1, e4, e5⟩
  unfold maxLen at hcap2'
  have hcells : ∀ j u, (xs f lo)[j]? = some u → w2.cell? ((⟨q, 0, none⟩ : Addr).add j) = some u := fun j u hu => by
    have hj := (xs_get _ _ _ _ hu).1
    exact hown2.cells rfl j u (by rw [List.getElem?_append_left (by rw [xs_length]; exact hj)]; exact hu)
  have h71 : w2.cell? ⟨q, lo, none⟩ = some (.int .u8 71) := by
    have := hown2.cells (g := q) rfl lo (.int .u8 71) (by rw [List.getElem?_append_right (by rw [xs_length]; omega), xs_length]; simp)
    rw [Addr.add_lit, Nat.zero_add] at this
    exact this
  have hDuo := H.out
  have hr2 := hDuo.ref.below hB2
  have hDl := hDuo.feed.lt
  have hMl := hDuo.ref.lt
  have hvq : v.ownBlock ≠ some q := fun e => by have := (hDuo.feed.row q e).2; omega
  have cP := HP.out.1 _ hB2 q cap2 hcells (by omega) hvq
  have rc2 : w2.cell? ⟨w.heap.size, 2, none⟩ = some (.slice po lo co) := by rw [Lib.cell_of_heap hbox2]; rfl
  have HX2 := hide' (And.intro hown2 (And.intro hB2 (And.intro hbox2 (And.intro hr2 (And.intro h71 hcells)))))
  have hlo1 : ¬ lo + 1 < lo := by omega
  clear hown2 hgrow2 hnn2 hat2 HX1 HL1 hownA hrow1 hB2 hbox2 hcells h71 hDuo hr2 hs2
  go_wp2_with fail
  refine cP.mono ?_
  rintro e w3 ⟨rfl, v', hF3, hv', hBu3⟩
  obtain ⟨hown2, hB2, hbox2, hr2, h71, hcells⟩ := HX2.out
  have hDuo := H.out
  have hvl : ∀ k, v.ownBlock = some k → k < w.heap.size := fun k hk => (hDuo.feed.row k hk).2
  have hul : ∀ k, u.ownBlock = some k → k < w.heap.size := fun k hk => (own_block_lt hDuo.ref.2 hk).1
  have hs2 := hB2.size
  have hkeep : ∀ k, k < w2.heap.size → k ≠ D → v.ownBlock ≠ some k → w3.heap[k]? = w2.heap[k]? := hBu3.block
  have hown3 := own_keep (w' := w3) hown2 (fun k hk => by
    have : q = k := Option.some.inj hk
    subst this
    exact hkeep q hq2 (by omega) hvq)
  have hbox3 := (hkeep w.heap.size (by omega) (by omega) (fun e => by have := hvl _ e; omega)).trans hbox2
  have hr3 := hr2.keep (hkeep M (by omega) (Ne.symm hDuo.ne) hDuo.vM) (fun k hk => hkeep k (by have := hul k hk; omega) (fun e => hDuo.uD (by rw [← e]; exact hk)) (fun e => hDuo.vu k e hk))
  have hkw : ∀ k, k < w.heap.size → k ≠ D → v.ownBlock ≠ some k → w3.heap[k]? = w.heap[k]? := fun k hk h1 h2 => (hkeep k (by omega) h1 h2).trans (hB2.block k hk)
  have hbq3 : Bytes w3 q 0 lo f := fun j hj => by
    have := hcells j (.int .u8 (f j)) (xs_at _ _ _ hj)
    rw [Addr.add_lit] at this
    exact (World.cell?_of_block (a := ⟨q, 0 + j, none⟩) (hkeep q hq2 (by omega) hvq)).trans this
  have h713 := (World.cell?_of_block (a := ⟨q, lo, none⟩) (hkeep q hq2 (by omega) hvq)).trans h71
  have cS := feedSame_true (some ⟨q, 0, none⟩) po lo cap2 co f w3.drew (by omega) (fun _ => ⟨q, 0, rfl, hbq3.below (Below.refl _ _).drew (Nat.le_refl _)⟩) (fun h0 => by obtain ⟨b0, o0, e, hb⟩ := HW.out.1 w3 hkw h0; exact ⟨b0, o0, e, hb.below (Below.refl _ _).drew (Nat.le_refl _)⟩)
  have rd2 : w3.cell? ⟨w.heap.size, 2, none⟩ = some (.slice po lo co) := by rw [Lib.cell_of_heap hbox3]; rfl
  have HX3 := hide' (And.intro hown3 (And.intro hbox3 (And.intro hr3 (And.intro hkw (And.intro h713 (And.intro hF3 (And.intro hBu3 hB2)))))))
  have HV := hide' (And.intro hv' (And.intro hvl hul))
  clear cP HX2 hown2 hB2 hbox2 hr2 h71 hcells hDuo hkeep hown3 hbox3 hr3 hkw hbq3 h713 hF3 hv' hBu3 rc2 hvl hul
  have g02 : w3.drew.cell? ⟨w.heap.size, 2, none⟩ = some (.slice po lo co) ∧ w3.drew.cell? ⟨q, lo, none⟩ = some (.int .u8 71) := ⟨rd2, HX3.out.2.2.2.2.1⟩
  have b1 : lo ≤ cap2 := by omega
  have b2 : (lo : Int) ≤ (cap2 : Int) := by omega
  have b3 : lo < lo + 1 := by omega
  have b4 : (lo : Int) < ((lo + 1 : Nat) : Int) := by omega
  have b5 : (lo : Int) < (lo : Int) + 1 := by omega
  have b6 : (0 : Int) ≤ (lo : Int) := by omega
  have b7 : ¬ (cap2 : Int) < (lo : Int) := by omega
  have hcell : Hid (∀ W', Below w3.drew.heap.size w3.drew W' → W'.cell? ⟨w.heap.size, 2, none⟩ = some (.slice po lo co) ∧ W'.cell? ⟨q, lo, none⟩ = some (.int .u8 71)) := fun W' hb => ⟨(hb.cell (p := ⟨w.heap.size, 2, none⟩) (block_lt_of_cell g02.1)).trans g02.1, (hb.cell (p := ⟨q, lo, none⟩) (block_lt_of_cell g02.2)).trans g02.2⟩
  go_wp2
  go_region_held3 (fun w' => w'.cell? ⟨w.heap.size, 2, none⟩ = some (.slice po lo co) ∧ w'.cell? ⟨q, lo, none⟩ = some (.int .u8 71)) (first | (with_reducible exact g02) | (with_reducible exact g03))
    (first | (go_at_call 20; refine cS.mono ?_; rintro e w4 ⟨rfl, hb4⟩; have g03 := hcell.out w4 hb4))
  obtain ⟨hown3, hbox3, hr3, hkw3, h713, hF3, hBu3, hB2⟩ := HX3.out
  have hb34 : Below w3.heap.size w3 w4 := ((Below.refl w3.heap.size w3).drew).trans hb4
  have hown4 := hown3.kept_below hb34
  have hs23 := hBu3.size
  have hs34 := hb34.size
  have hbox4 := (hb34.block w.heap.size (by omega)).trans hbox3
  have hr4 := hr3.below hb34
  have hF4 := hF3.below hb34
  have hvr3 := hF3.row
  have hkw4 : ∀ k, k < w.heap.size → k ≠ D → v.ownBlock ≠ some k → w4.heap[k]? = w.heap[k]? := fun k hk h1 h2 => (hb34.block k (by omega)).trans (hkw3 k hk h1 h2)
  have hos : w4.os = w.os := hb34.os.trans (hBu3.os.trans hB2.os)
  have htp : w4.tape = w.tape := hb34.tape.trans (hBu3.tape.trans hB2.tape)
  have hou : w4.output = w.output := hb34.output.trans (hBu3.output.trans hB2.output)
  have HX4 := hide' (And.intro hown4 (And.intro hbox4 (And.intro hr4 (And.intro hF4 (And.intro hkw4 (And.intro hos (And.intro htp (And.intro hou hvr3))))))))
  clear cS rd2 g02 hcell g03 HX3 hown3 hbox3 hr3 hkw3 h713 hF3 hBu3 hB2 hown4 hbox4 hr4 hF4 hkw4 hos htp hou hb34 hb4 hvr3 b7
  go_wp2
  go_loopw [9] (fun i wr => ∃ (a : Nat) (ys : List Value), i = .int .i64 a ∧ a ≤ lo + 1 ∧ wr.ownsRow (w.heap.size + 1) 5 1 (.slice (some ⟨q, 0, none⟩) (lo + 1) cap2) (lo + 1) ys ∧ w4.grownBy wr (some q)) (fun i _ => lo + 1 - (RowKit.intOf i).toNat)
  case atStart => exact ⟨0, _, rfl, Nat.zero_le _, HX4.out.1, ⟨rfl, rfl, rfl, Nat.le_refl _, fun _ _ _ => rfl⟩⟩
  case round =>
    obtain ⟨a, ys, rfl, han, hown, hgr⟩ := hrel
    by_cases hlt : a < lo + 1
    · have g1 : (a : Int) < (lo : Int) + 1 := by omega
      have hca := hown.cellAt a (by omega)
      have hyl : ys.length = lo + 1 := by have := hown.1; omega
      obtain ⟨y, hy⟩ : ∃ y, ys[a]? = some y := ⟨ys[a]'(by omega), List.getElem?_eq_getElem _⟩
      rw [hy] at hca
      have hfz := hown.frozenAt a
      have hst := hown.stored a (.int .u8 88)
      have hgr2 : w4.grownBy (wr.setCell ⟨q, a, none⟩ (.int .u8 88)) (some q) := by
        have hb := (Below.refl 0 wr).setCell (p := ⟨q, a, none⟩) (Nat.zero_le _) (.int .u8 88)
        exact ⟨hb.os.trans hgr.os, hb.tape.trans hgr.tape, hb.output.trans hgr.output, Nat.le_trans hgr.size hb.size, fun k hk hn => (Below.heap_setCell wr ⟨q, a, none⟩ _ k (fun e => hn (by rw [e]))).trans (hgr.block k hk hn)⟩
      have HS := hide' (And.intro hst hgr2)
      clear hst hgr2 hown hgr hyl hy
      go_wp2
      go_roundw
      case rel => exact ⟨a + 1, _, by go_num, by omega, HS.out.1.1, HS.out.2⟩
      case measure => simp [RowKit.intOf]; omega
    · obtain rfl : a = lo + 1 := by omega
      have g1 : ¬ ((lo + 1 : Nat) : Int) < (lo : Int) + 1 := by omega
      obtain ⟨hown4, hbox4, hr4, hF4, hkw4, hos, htp, hou, hvr3⟩ := HX4.out
      obtain ⟨hv', hvl, hul⟩ := HV.out
      have hDuo := H.out
      have hMl := hDuo.ref.lt
      have hDl := hDuo.feed.lt
      have hs4 := hgr.size
      have hne : ∀ k, k < w.heap.size + 1 → some k ≠ some q := fun k hk e => by have := Option.some.inj e; omega
      have hkwr : ∀ k, k < w.heap.size → k ≠ D → v.ownBlock ≠ some k → wr.heap[k]? = w.heap[k]? := fun k hk h1 h2 => (hgr.block k (by omega) (hne k (by omega))).trans (hkw4 k hk h1 h2)
      have hrr := hr4.keep (hgr.block M (by omega) (hne M (by omega))) (fun k hk => hgr.block k (by have := hul k hk; omega) (hne k (by have := hul k hk; omega)))
      have hFr := hF4.keep (hgr.block D (by omega) (hne D (by omega))) (fun k hk => by
        have h3 := (hvr3 k hk).2
        refine hgr.block k (by omega) (fun e => ?_)
        have hkq := Option.some.inj e
        rcases hv' with e1 | ⟨X, hX, e1⟩
        · have := hvl k (e1.symm.trans hk)
          omega
        · have := Option.some.inj (e1.symm.trans hk)
          omega)
      have hboxr := (hgr.block w.heap.size (by omega) (hne _ (by omega))).trans hbox4
      have cM := HP.out.2.1 wr hrr (by omega) (HW.out.2 wr hkwr)
      have rr2 : wr.cell? ⟨w.heap.size, 2, none⟩ = some (.slice po lo co) := by rw [Lib.cell_of_heap hboxr]; rfl
      have HXr := hide' (And.intro hFr (And.intro hkwr (And.intro (hgr.os.trans hos) (And.intro (hgr.tape.trans htp) (hgr.output.trans hou)))))
      have HVr := hide' hvr3
      clear hown4 hbox4 hr4 hF4 hkw4 hos htp hou hrr hFr hboxr hkwr hown hgr hDuo hv' hvl hul HX4 hvr3
      go_wp2_with fail
      refine cM.mono ?_
      rintro e w6 ⟨rfl, u', hR6, hu', hBu6⟩
      have HM := hide' (And.intro hR6 (And.intro hu' hBu6))
      clear hR6 hu' hBu6 cM
      go_wp2
      go_ret
      obtain ⟨hR6, hu', hBu6⟩ := HM.out
      obtain ⟨hFr, hkwr, hos, htp, hou⟩ := HXr.out
      obtain ⟨hv', hvl, hul⟩ := HV.out
      have hvr3 := HVr.out
      have hDuo := H.out
      have hs6 := hBu6.size
      have hvM : v'.ownBlock ≠ some M := fun e => by
        rcases hv' with e1 | ⟨X, hX, e1⟩
        · exact hDuo.vM (e1.symm.trans e)
        · have := Option.some.inj (e1.symm.trans e)
          omega
      have hvu : ∀ k, v'.ownBlock = some k → u.ownBlock ≠ some k := fun k hk e => by
        rcases hv' with e1 | ⟨X, hX, e1⟩
        · exact hDuo.vu k (e1.symm.trans hk) e
        · have := Option.some.inj (e1.symm.trans hk)
          have := hul k e
          omega
      have hF6 := hFr.keep (hBu6.block D (by omega) hDuo.ne hDuo.uD) (fun k hk => hBu6.block k (by have := (hvr3 k hk).2; omega) (fun e => hvM (by rw [← e]; exact hk)) (hvu k hk))
      refine ⟨by simp, v', u', G, N', T, E, ⟨hF6, hR6, hG, HP.out.2.2.1, HP.out.2.2.2, hDuo.ne, hvM, fun e => ?_, fun k hk e => ?_, by omega⟩, hN', fun k hk => ?_, fun k hk => ?_, ⟨hBu6.os.trans hos, hBu6.tape.trans htp, hBu6.output.trans hou, by omega, fun k hk h1 h2 h3 h4 => (hBu6.block k (by omega) h2 h4).trans (hkwr k hk h1 h3)⟩⟩
      · rcases hu' with e1 | ⟨X, hX, e1⟩
        · exact hDuo.uD (e1.symm.trans e)
        · have := Option.some.inj (e1.symm.trans e)
          omega
      · rcases hu' with e1 | ⟨X, hX, e1⟩
        · exact hvu k hk (e1.symm.trans e)
        · have := Option.some.inj (e1.symm.trans e)
          have := (hvr3 k hk).2
          omega
      · rcases hv' with e1 | ⟨X, hX, e1⟩
        · exact .inl (e1.symm.trans hk)
        · have := Option.some.inj (e1.symm.trans hk)
          exact .inr (by omega)
      · rcases hu' with e1 | ⟨X, hX, e1⟩
        · exact .inl (e1.symm.trans hk)
        · have := Option.some.inj (e1.symm.trans hk)
          exact .inr (by omega)
end
end Go.Proofs.YtbfabpjhdhhpfaaDoor
