/-
  THE WALK over gimlettop.WholeRunes.
-/
import Derived.Test.YtcggkbgbfgkaiaaDoorWhEnd
import Derived.Deep.RegionHeld3
import Derived.Deep.RegionHeld3
namespace Go.Proofs.YtcggkbgbfgkaiaaDoor
open Go.RowKit Go.Shelf
attribute [local go_sem] Oper.semAt_some

set_option maxRecDepth 100000 in
set_option maxHeartbeats 20000000 in
theorem lawWholeRunes_any (f : Nat → Nat) (n : Nat) (w : World) (hT : Lib.Utf8Tabs 0 1 w) (hf : ∀ j, f j < 256) (hn : n ≤ 1099511627776) :
    Calls Tryd.prog 3 #[.string (Rn.arr f n)] w fun e w' => e = .returned (.bool true) ∧ Below w.heap.size w w' := by
  have kc := fun (w : World) (C : Array Value) (n c : Nat) => Lib.run_convert_bytes_const (P := Tryd.prog) w 22 5 C n c Tryd.underlying22 Tryd.underlying5
  have c1 := fun W => put_nil 233 W (by omega) (by omega)
  refine (callsIn_wide (n := 8)).1 ?_
  refine callsIn_of_wp_marks Tryd.func3 rfl trivial ?_ rfl
  simp only [Tryd.ntmps3, List.size_toArray, List.length_cons, List.length_nil, Nat.reduceAdd, Nat.reduceSub, Array.replicate_succ, Array.replicate_zero, List.push_toArray, List.append_toArray, List.nil_append, List.cons_append]
  gi_wp2_with fail
  refine ⟨trivial, ?_⟩
  refine (callsIn_wide.2 (c1 _)).mono ?_
  rintro e W1 ⟨g, cap, rfl, h1, h2, h3, hb1⟩
  have hst := bytes_string W1 g 0 (Rn.el 233) cap (Rn.eb 233) (Rn.eb_lt 233) h3
  have hs0 : ((Rn.arr (Rn.eb 233) (Rn.el 233)).toList == [195, 169]) = true := by decide +kernel
  have hB1 : Below w.heap.size w W1 := ((Below.refl w.heap.size w).alloc (Nat.le_refl _) (.cells #[.bool false] 4)).trans (hb1.mono (by simp))
  have hz1 := hb1.size
  rw [World.size_alloc] at hz1
  have hr1 : W1.heap[w.heap.size]? = some (.cells #[.bool false] 4 (0, 0)) := (hb1.block w.heap.size (by simp)).trans (World.alloc_heap_new w _)
  have cG := good_any (Rn.lf [233, 128, 97]) 3 W1.heap.size 0 3 (W1.alloc (.cells #[.int .u8 233, .int .u8 128, .int .u8 97] 5 (3, 4))) (tabs_below hT (hB1.alloc hB1.size _) (Nat.le_refl _)) (Rn.lf_lt _) (by omega) (by decide) (by
    intro j hj
    have : j = 0 ∨ j = 1 ∨ j = 2 := by omega
    rcases this with rfl | rfl | rfl <;> (rw [Lib.cell_of_heap (World.alloc_heap_new _ _)]; rfl))
  rw [show Rn.good (Rn.lf [233, 128, 97]) 3 = 2 from by decide +kernel] at cG
  gi_wp2_with fail
  refine ⟨trivial, ?_⟩
  refine (callsIn_wide.2 cG).mono ?_
  rintro e W2 ⟨rfl, hb2⟩
  have hB2 := (hB1.alloc hB1.size (.cells #[.int .u8 233, .int .u8 128, .int .u8 97] 5 (3, 4))).trans (hb2.mono (hB1.alloc hB1.size _).size)
  have hz2 := hb2.size
  rw [World.size_alloc] at hz2
  have hr2 : W2.heap[w.heap.size]? = some (.cells #[.bool false] 4 (0, 0)) := (hb2.block w.heap.size (by simp; omega)).trans ((Below.heap_alloc _ _ _ (by omega)).trans hr1)
  clear cG c1 kc hst hs0 h1 h2 h3 hb1 hb2 hr1 hB1
  have hsz := Rn.arr_size f n
  obtain ⟨i0, hi, hz0, hy1, hy2⟩ := info_parts Wh.infoInt
  obtain ⟨j0, hj, hw0, hw1, hw2⟩ := info_parts Wh.infoRune
  have hRP : w.heap.size < W2.heap.size := by omega
  have hA0 : Wh.A w w.heap.size W2.heap.size (W2.heap.size + 1) (W2.heap.size + 1 + 1) f n 0 [] (.slice none 0 0) (.slice none 0 0) (((W2.alloc (.cells #[.slice none 0 0] 25)).alloc (.cells #[.slice none 0 0] 26)).iter (Rn.arr f n) 0) := by
    refine ⟨?_, ?_, ?_, ?_, World.ownsRow_nil _ _ _ _, World.ownsRow_nil _ _ _ _, ?_⟩
    · have := World.iter_heap ((W2.alloc (.cells #[.slice none 0 0] 25)).alloc (.cells #[.slice none 0 0] 26)) (Rn.arr f n) 0
      simp only [World.size_alloc] at this
      exact this
    · exact (Below.heap_alloc _ _ _ (by simp; omega)).trans ((Below.heap_alloc _ _ _ (by simp; omega)).trans ((Below.heap_alloc _ _ _ (by omega)).trans hr2))
    · exact (Below.heap_alloc _ _ _ (by simp; omega)).trans (Wh.heap_under _ _ _)
    · exact (Below.heap_alloc _ _ _ (by simp)).trans (Wh.heap_above _ _ _)
    · exact ((hB2.alloc (by omega) _).alloc (by simp; omega) _).alloc (by simp; omega) _
  gi_wp2
  gi_loopw [] (fun wr => ∃ (pos fuel : Nat) (pre : List (Rn.Chr n)) (pv lv : Value), Wh.A w w.heap.size W2.heap.size (W2.heap.size + 1) (W2.heap.size + 1 + 1) f n pos pre pv lv wr ∧ pre ++ Rn.chFrom f n hf fuel pos = Rn.chs f n hf ∧ n ≤ pos + fuel ∧ pre.length ≤ pos ∧ pos ≤ n) (fun wr => n - wr.iterPos (W2.heap.size + 1 + 1))
  case atStart => exact ⟨0, n, [], _, _, hA0, rfl, by omega, by simp, by omega⟩
  case round =>
    obtain ⟨pos, fuel, pre, pv, lv, hA, hpre, hfu, hpl, hpm⟩ := hrel
    have hit := hA.it
    by_cases hlt : pos < n
    · have hnx : ∀ ty, (Instr.next (.pointer (some ⟨W2.heap.size + 1 + 1, 0, none⟩)) true ty).run Tryd.prog wr = _ := fun ty => Lib.run_next_any_at wr (W2.heap.size + 1 + 1) (Rn.arr f n) pos ty hit (by rw [hsz]; exact hlt)
      rw [Rn.arr_decode f n pos hf hlt] at hnx
      obtain ⟨q, rfl⟩ : ∃ q, fuel = q + 1 := ⟨fuel - 1, by omega⟩
      unfold Rn.chFrom at hpre
      rw [dif_pos hlt] at hpre
      obtain ⟨hd1, hd2, hd3⟩ := Rn.dec_pos (Rn.off f pos) (n - pos) (fun _ => hf _) (by omega)
      have hx4 := Rn.dec_lt (Rn.off f pos) (n - pos) (fun _ => hf _) (by omega)
      obtain ⟨x, hx⟩ : ∃ x : Rn.Chr n, x = ⟨(pos, (Rn.dec (Rn.off f pos) (n - pos)).1), hlt, hx4⟩ := ⟨_, rfl⟩
      rw [← hx] at hpre
      have hx1 : x.1.1 = pos := by rw [hx]
      have hx2 : x.1.2 = (Rn.dec (Rn.off f pos) (n - pos)).1 := by rw [hx]
      clear hx
      have hA2 := hA.next hRP (Nat.lt_succ_self _) (Nat.lt_succ_self _) (pos + (Rn.dec (Rn.off f pos) (n - pos)).2)
      have HPOS : Hid (wr.iterPos (W2.heap.size + 1 + 1) = pos) := by
        show wr.iterPos (W2.heap.size + 1 + 1) = pos
        simp only [World.iterPos, hit]
      generalize wr.iterAt (W2.heap.size + 1 + 1) (Rn.arr f n) (pos + (Rn.dec (Rn.off f pos) (n - pos)).2) = Wn at *
      generalize (Rn.dec (Rn.off f pos) (n - pos)).1 = r at *
      generalize (Rn.dec (Rn.off f pos) (n - pos)).2 = d at *
      have HP := hide' (And.intro hpre (And.intro hx1 hx2))
      have HA := hide' hA2
      have hIn : W2.heap.size + 1 + 1 < Wn.heap.size := (Array.getElem?_eq_some_iff.1 hA2.it).1
      have p0 : Wn.cell? ⟨W2.heap.size, 0, none⟩ = some pv := by rw [Lib.cell_of_heap hA2.pb]; rfl
      have l0 : Wn.cell? ⟨W2.heap.size + 1, 0, none⟩ = some lv := by rw [Lib.cell_of_heap hA2.lb]; rfl
      have n1 : W2.heap.size < Wn.heap.size := by omega
      have n2 : W2.heap.size + 1 < Wn.heap.size := by omega
      have m1 : ¬ Wn.heap.size = W2.heap.size := by omega
      have m2 : ¬ Wn.heap.size = W2.heap.size + 1 := by omega
      have m3 : ¬ W2.heap.size = Wn.heap.size := by omega
      have m4 : ¬ W2.heap.size + 1 = Wn.heap.size := by omega
      have B1 : Below Wn.heap.size Wn Wn.drew := (Below.refl _ _).drew
      clear hpre hx1 hx2 hit hA hA2
      gi_wp2
      refine wpIn_wide.2 ?_
      refine wp_region_noPanic ?_
      go_region_law (first
        | (refine step_append_lies _ rfl (.tmp 36) (.tmp 38) 25 rfl (W2.heap.size + 1 + 1 + 1) 3 i0 (.int .i64 0) 1 8 Tryd.underlying25 hi hz0 hy1 hy2 rfl (by decide) pv pre.length (Wh.plcs pre) rfl (Wh.keepBelow HA.out.po (by first | exact B1 | exact B1.alloc (Nat.le_refl _) _ | exact (B1.alloc (Nat.le_refl _) _).alloc (by simp) _)) ⟨_, 0, none⟩ 1 1 [.int .i64 pos] rfl rfl (by (first | exact World.news_of_block (cs := #[.int .i64 pos]) (Wh.heap_new _ _) | exact World.news_of_block (cs := #[.int .i64 pos]) (Wh.heap_under _ _ _) | exact World.news_of_block (cs := #[.int .i64 pos]) (Wh.heap_above _ _ _))) (by intro u hu; simp at hu; subst hu; rfl) (by decide) (by unfold maxLen; omega) (by omega) (by first | omega | (simp; omega)) _ rfl ?_; intro g1 cap1 W3 ho1 hg1 _ hlt1; have hm1 := HA.out.mid (by first | exact B1 | exact B1.alloc (Nat.le_refl _) _ | exact (B1.alloc (Nat.le_refl _) _).alloc (by simp) _) hg1; obtain ⟨hl1, hk1⟩ := hm1; have hm2 := HA.out.low (by first | exact B1 | exact B1.alloc (Nat.le_refl _) _ | exact (B1.alloc (Nat.le_refl _) _).alloc (by simp) _) hg1; have hs3 := hm2.2; have n3 : W2.heap.size + 1 < W3.heap.size := (by omega); have m5 : ¬ W3.heap.size = W2.heap.size + 1 := (by omega); have m6 : ¬ W2.heap.size + 1 = W3.heap.size := (by omega); have m7 : ¬ W3.heap.size = W2.heap.size := (by omega); have m8 : ¬ W2.heap.size = W3.heap.size := (by omega); obtain ⟨p1, l1, y1, y2⟩ := HA.out.boxes (hm2.1 _ (by omega)) (hm2.1 _ (by omega)); clear hm2)
        | (refine step_append_lies _ rfl (.tmp 40) (.tmp 42) 26 rfl (W2.heap.size + 1 + 1 + 1) 21 j0 (.int .i32 0) 1 4 Tryd.underlying26 hj hw0 hw1 hw2 rfl (by decide) lv pre.length (Wh.rcs pre) rfl (Wh.keepBelow hl1 (by first | exact Below.refl _ _ | exact (Below.refl _ _).alloc (Nat.le_refl _) _)) ⟨_, 0, none⟩ 1 1 [.int .i32 r] rfl rfl (by (first | exact World.news_of_block (cs := #[.int .i32 r]) (Wh.heap_new _ _) | exact World.news_of_block (cs := #[.int .i32 r]) ((hk1 _ (by first | (simp; done) | (simp; omega)) (.inr (by simp))).trans (Wh.heap_new _ _)) | exact World.news_of_block (cs := #[.int .i32 r]) ((hk1 _ (by first | (simp; done) | (simp; omega)) (.inr (by simp))).trans (Wh.heap_under _ _ _)) | exact World.news_of_block (cs := #[.int .i32 r]) ((hk1 _ (by first | (simp; done) | (simp; omega)) (.inr (by simp))).trans (Wh.heap_above _ _ _)))) (by intro u hu; simp at hu; subst hu; rfl) (by decide) (by unfold maxLen; omega) (by omega) (by first | omega | (simp; omega)) _ rfl ?_; intro g2 cap2 W7 ho2 hg2 _ hlt2; have hm3 := HA.out.low2 (by first | exact B1 | exact B1.alloc (Nat.le_refl _) _ | exact (B1.alloc (Nat.le_refl _) _).alloc (by simp) _) hg1 (by first | exact Below.refl _ _ | exact (Below.refl _ _).alloc (Nat.le_refl _) _) hg2; obtain ⟨p7, l7, y7, y8⟩ := HA.out.boxes (hm3 _ (by omega)) (hm3 _ (by omega)); clear hm3))
      all_goals (
        refine NoPanic.normal ?_
        have hfin := HA.out.step hRP (Nat.lt_succ_self _) (Nat.lt_succ_self _) (by first | exact B1 | exact B1.alloc (Nat.le_refl _) _ | exact (B1.alloc (Nat.le_refl _) _).alloc (by simp) _) hg1 (by first | exact Below.refl _ _ | exact (Below.refl _ _).alloc (Nat.le_refl _) _) hg2 x (by rw [HP.out.2.1]) (by rw [HP.out.2.2]) ho1 ho2 HA.out.it
        have HF := hide' hfin
        clear p1 l1 y1 y2 p7 l7 y7 y8 hl1 hk1 ho1 ho2 hg1 hg2 hfin p0 l0 n1 n2 m1 m2 m3 m4 n3 m5 m6 m7 m8 B1
        gi_wp2
        go_roundw
        case rel => exact ⟨pos + d, q, pre ++ [x], _, _, HF.out, by rw [List.append_assoc]; exact HP.out.1, by omega, by simp; omega, by omega⟩
        case measure => rw [HPOS.out, HF.out.pos]; omega)
    · obtain ⟨wq, hwq⟩ : ∃ wq, wq = wr := ⟨_, rfl⟩
      subst hwq
      have hnx : ∀ ty, (Instr.next (.pointer (some ⟨W2.heap.size + 1 + 1, 0, none⟩)) true ty).run Tryd.prog wq = _ := fun ty => Lib.run_next_end_at wq (W2.heap.size + 1 + 1) (Rn.arr f n) pos ty hit (by rw [hsz]; exact hlt)
      rw [Rn.chFrom_end _ _ _ _ _ hlt, List.append_nil] at hpre
      subst hpre
      have HA := hide' hA
      have cAll := fun W => all_in Fence.wide 7 trivial rfl (Rn.arr f n) W
      have hnf := fun b W => Wh.eql_nilFunc b W
      clear hA hit hfu hpl hpm hlt hA0
      gi_wp2_with fail
      refine ⟨trivial, ?_⟩
      refine (cAll _).mono ?_
      rintro e w5 ⟨rfl, rfl⟩
      clear cAll
      gi_wp2
      obtain ⟨w6, hw6⟩ : ∃ w6, (wq.alloc (.cells #[.int .i64 0] 3)).alloc (.cells #[.string (Rn.arr f n)] 9) = w6 := ⟨_, rfl⟩
      obtain ⟨pp, cp, rfl, -⟩ := Wh.owns_slice HA.out.po
      obtain ⟨pc, cc, rfl, -⟩ := Wh.owns_slice HA.out.lo
      have hwr : W2.heap.size + 1 + 1 < wq.heap.size := (Array.getElem?_eq_some_iff.1 HA.out.it).1
      have hbx : w6.cell? ⟨wq.heap.size + 1, 0, none⟩ = some (.string (Rn.arr f n)) := by rw [← hw6, Lib.cell_of_heap (Wh.heap_above _ _ _)]; rfl
      have hJ0 : Wh.J w w.heap.size W2.heap.size (W2.heap.size + 1) wq.heap.size (Rn.chs f n hf) pp pc cp cc [] w6 := by
        have hb6 : Below wq.heap.size wq w6 := by rw [← hw6]; exact ((Below.refl _ _).alloc (Nat.le_refl _) _).alloc (by simp) _
        refine ⟨⟨HA.out.bel.trans (hb6.mono (by omega)), (hb6.block _ (by omega)).trans HA.out.res, (hb6.block _ (by omega)).trans HA.out.pb, (hb6.block _ (by omega)).trans HA.out.lb, Wh.rebase (Wh.keepBelow HA.out.po hb6) (by omega), Wh.rebase (Wh.keepBelow HA.out.lo hb6) (by omega), fun g hg => (HA.out.po.lt g hg).2, fun g hg => (HA.out.lo.lt g hg).2, hRP, by omega, by omega⟩, ?_, List.nil_prefix⟩
        rw [← hw6]
        exact Wh.heap_under _ _ _
      have hs6 : w6.heap.size = wq.heap.size + 1 + 1 := by rw [← hw6]; simp
      rw [hw6]
      have HJ0 := hide' hJ0
      clear hw6 HA hnf hnx hJ0
      refine wpIn_rangeFunc_ownG rfl (by omega) (gf := 17) (lb := #[.pointer (some ⟨wq.heap.size + 1, 0, none⟩)]) rfl trivial (enters_of Tryd.func17 (by kernel_rfl) rfl)
        (all_stops Fence.wide 7 trivial rfl (by omega) (wq.heap.size + 1) n f hf w6 hbx) walksK_t walksK_b (Below.refl _ _) (fun _ => rfl)
        (Wh.J w w.heap.size W2.heap.size (W2.heap.size + 1) wq.heap.size (Rn.chs f n hf) pp pc cp cc) (fun co pre _ => co = .ret ∧ ¬ pre <+: Rn.chs f n hf) (Wh.J.own _ _ _ _ _ _ _ _ _ _ _ (by omega) (by omega)) (fun co => Wh.X.own _ co _) HJ0.out
        (fun x => { tmps := #[.string (Rn.arr f n), undef, .pointer (some ⟨w.heap.size, 0, none⟩), .pointer (some ⟨W2.heap.size, 0, none⟩), .pointer (some ⟨W2.heap.size + 1, 0, none⟩), u5, u6, .pointer (some ⟨wq.heap.size, 0, none⟩), .func (.func 17) #[] #[.pointer (some ⟨wq.heap.size + 1, 0, none⟩)], .int .i64 x.1.1, .int .i32 x.1.2, undef, undef, undef, undef, undef, undef, undef, undef, undef, undef, .slice (some ⟨g, 0, none⟩) (Rn.el 233) cap, .string (Rn.arr (Rn.eb 233) (Rn.el 233)), .bool false, .bool false, .slice (some ⟨W1.heap.size, 0, none⟩) 3 3, .slice (some ⟨W1.heap.size, 0, none⟩) 3 3, .int .i64 2, .bool false, .bool false, .string (Rn.arr f n), .pointer (some ⟨W2.heap.size + 1 + 1, 0, none⟩), .tuple #[.bool false], .bool false, u34, u35, u36, u37, u38, u39, u40, u41, u42, u43, .string (Rn.arr f n), .func (.func 17) #[] #[.pointer (some ⟨wq.heap.size + 1, 0, none⟩)], .func (.func 17) #[] #[.pointer (some ⟨wq.heap.size + 1, 0, none⟩)], .bool false, .func (.func 17) #[] #[.pointer (some ⟨wq.heap.size + 1, 0, none⟩)], .int .i64 x.1.1, .int .i32 x.1.2, undef, undef, undef, undef, undef, undef, undef, undef, undef, undef, undef, undef, undef, undef, undef, undef, undef, undef, undef, undef, undef, undef, undef, undef, undef, undef, undef, undef, undef, undef, undef, undef, undef, undef, undef, undef, undef, undef, undef, undef, undef, undef, undef, undef, undef, undef, undef, undef, undef, undef, undef, undef, undef, undef, undef, undef, undef, undef, undef, undef, undef, undef, undef, undef, undef, undef, undef, undef, undef, undef, undef, undef, undef, undef, undef, undef, undef, undef, undef, undef, undef, undef, undef, undef, undef, undef, undef, undef, undef, undef, undef, undef, undef, undef, undef, undef, undef, undef, undef, undef, undef, undef, undef, undef, undef, undef, undef, undef, undef, undef, undef, undef, undef, undef, undef, undef, undef, undef, undef, undef, undef, undef, undef, undef, undef, undef, undef, undef, undef, undef, undef, undef, undef, undef, undef, undef, undef, undef, undef, undef, undef, undef, undef, undef, undef, undef, undef, undef, undef, undef, undef, undef, undef, undef, undef, undef, undef, undef, undef, undef, undef, undef, undef], defers := [] }) ?assign ?body ?done ?stop
      case assign =>
        intro l x W K hK
        simp only [Rn.encC]
        gi_wp2
        exact hK
      case body =>
        rintro l pre x W hJ hlt
        have hnx := Wh.pre_next hJ.ok x
        obtain ⟨cP, cL, cR, fR⟩ := hJ.base.cells
        have cK : W.cell? ⟨wq.heap.size, 0, none⟩ = some (.int .i64 (pre.length : Int)) := by rw [Lib.cell_of_heap hJ.num]; rfl
        have fK : W.frozen? ⟨wq.heap.size, 0, none⟩ = false := Lib.frozen_of_heap hJ.num 0
        have hst := fun h => hJ.step x h
        have hat := fun h => hJ.base.at h
        clear hJ HJ0 hbx
        generalize Rn.chs f n hf = cs at *
        by_cases hlen : pre.length < cs.length
        · obtain ⟨gp, gc, rfl, rfl, hp, hc⟩ := hat (by omega)
          have q1 := hp _ hlen
          have q2 := hc _ hlen
          have hge : ¬ (cs.length : Int) ≤ (pre.length : Int) := by omega
          have hg2 : (pre.length : Int) < (cs.length : Int) := by omega
          have hg3 : (pre.length : Int) + 1 ≤ 9223372036854775807 := by omega
          clear hp hc hat
          generalize hy : cs[pre.length] = y at *
          by_cases h1 : y.1.1 = x.1.1
          · by_cases h2 : y.1.2 = x.1.2
            · have hfin := hst (hnx.2 ⟨hlen, by rw [hy]; exact Subtype.ext (Prod.ext h1 h2)⟩)
              have e1 : ((y.1.1 : Int) != (x.1.1 : Int)) = false := by simp; omega
              have e2 : ((y.1.2 : Int) != (x.1.2 : Int)) = false := by simp; omega
              have HF := hide' hfin
              clear hst hnx hfin h1 h2 hy
              gi_wp2
              exact ⟨(KeepsOthers.setCell _ _ _).from _, KeepsWalks.setCell _ _ _, HF.out⟩
            · have hno : ¬ (pre ++ [x] <+: cs) := fun h => by obtain ⟨_, e⟩ := hnx.1 h; exact h2 (by rw [← hy, e])
              have e1 : ((y.1.1 : Int) != (x.1.1 : Int)) = false := by simp; omega
              have e2 : ((y.1.2 : Int) != (x.1.2 : Int)) = true := by simp; omega
              have HF := hide' hno
              clear hst hnx hno h1 h2 hy
              gi_wp2
              exact ⟨(KeepsOthers.setCell _ _ _).from _, rfl, HF.out⟩
          · have hno : ¬ (pre ++ [x] <+: cs) := fun h => by obtain ⟨_, e⟩ := hnx.1 h; exact h1 (by rw [← hy, e])
            have e1 : ((y.1.1 : Int) != (x.1.1 : Int)) = true := by simp; omega
            have HF := hide' hno
            clear hst hnx hno h1 hy
            gi_wp2
            exact ⟨(KeepsOthers.setCell _ _ _).from _, rfl, HF.out⟩
        · have hno : ¬ (pre ++ [x] <+: cs) := fun h => by obtain ⟨e, _⟩ := hnx.1 h; exact hlen e
          have hge : (cs.length : Int) ≤ (pre.length : Int) := by omega
          have HF := hide' hno
          clear hst hnx hno hlen hat
          gi_wp2
          exact ⟨(KeepsOthers.setCell _ _ _).from _, rfl, HF.out⟩
      case done =>
        rintro D xs W hD rfl hJ hK
        have HJ := hide' (And.intro hJ (And.intro hK hD))
        obtain ⟨cP, cL, cR, fR⟩ := hJ.base.cells
        have cK : W.cell? ⟨wq.heap.size, 0, none⟩ = some (.int .i64 ((Rn.chs f n hf).length : Int)) := by rw [Lib.cell_of_heap hJ.num]; rfl
        have hsc := Rn.chs_scal f n hf
        have cJ := Wh.join_of _ _ _ ((hJ.base.below ((Below.refl W.heap.size W).drew)).conv hsc)
        have hcv8 := (hJ.base.below ((Below.refl W.heap.size W).drew)).conv hsc
        have cM := fun W' => Wh.mend_tx f n W' hf (by omega)
        obtain ⟨CF, hCF⟩ := Classical.axiomOfChoice (fun W' => conv_runes f n W' hf (by omega))
        obtain ⟨WF, hWF⟩ := Classical.axiomOfChoice hCF
        have hc15 : ∀ W', (convert 9 26 (.string (Rn.arr f n))).run Tryd.prog W' = .ok (.slice (some ⟨W'.heap.size, 0, none⟩) (Rn.rl (Rn.chs f n hf)).length (CF W')) (WF W') := fun W' => (hWF W').1
        have hW15 : ∀ W', Below W'.heap.size W' (WF W') := fun W' => (hWF W').2.2.2.2.1
        have hc16 : ∀ W' Wx, Below (WF W').heap.size (WF W') Wx → (convert 26 9 (.slice (some ⟨W'.heap.size, 0, none⟩) (Rn.rl (Rn.chs f n hf)).length (CF W'))).run Tryd.prog Wx = .ok (.string (Rn.tx (Rn.rl (Rn.chs f n hf)))) Wx := fun W' Wx hb => by
          obtain ⟨_, _, _, hl, _, hz, _⟩ := hWF W'
          exact Wh.conv_lie _ hsc _ _ _ (fun j hj => (hb.cell (p := ⟨W'.heap.size, 0 + j, none⟩) (by rw [hz]; show W'.heap.size < _; omega)).trans (hl j hj))
        have hc16d : ∀ Wx, Below (WF W.drew).heap.size (WF W.drew) Wx → (convert 26 9 (.slice (some ⟨W.heap.size, 0, none⟩) (Rn.rl (Rn.chs f n hf)).length (CF W.drew))).run Tryd.prog Wx = .ok (.string (Rn.tx (Rn.rl (Rn.chs f n hf)))) Wx := fun Wx hb => hc16 W.drew Wx hb
        have hc16r := hc16d _ (Below.refl _ _)
        have hrefl : ∀ X : World, Below X.heap.size X X := fun X => Below.refl _ _
        obtain ⟨S, hSd⟩ : ∃ S : World → Prop, S = fun W' => Below W.heap.size W W' := ⟨_, rfl⟩
        have hB0 := hJ.base
        have s0 : ∀ W', S W' → W'.cell? ⟨wq.heap.size, 0, none⟩ = some (.int .i64 ((Rn.chs f n hf).length : Int)) := fun W' h => by rw [hSd] at h; exact (h.cell (p := ⟨wq.heap.size, 0, none⟩) (block_lt_of_cell cK)).trans cK
        have s1 : ∀ W', S W' → W'.cell? ⟨W2.heap.size + 1, 0, none⟩ = some (.slice pc (Rn.chs f n hf).length cc) := fun W' h => by rw [hSd] at h; exact (h.cell (p := ⟨W2.heap.size + 1, 0, none⟩) (block_lt_of_cell cL)).trans cL
        have s8 : ∀ W', S W' → (convert 26 9 (.slice pc (Rn.chs f n hf).length cc)).run Tryd.prog W' = .ok (.string (Rn.tx (Rn.rl (Rn.chs f n hf)))) W' := fun W' h => by rw [hSd] at h; exact (hB0.below h).conv hsc
        have hSB : ∀ W' W8, S W' → Below W'.heap.size W' W8 → S W8 := fun W' W8 h hb => by rw [hSd] at h ⊢; exact h.trans (hb.mono h.size)
        have hS0 : S W.drew := by rw [hSd]; exact (Below.refl _ _).drew
        clear hSd hB0
        have hLi : (((Rn.chs f n hf).length : Int) != ((Rn.chs f n hf).length : Int)) = false := by simp
        have hTT : ((Rn.tx (Rn.rl (Rn.chs f n hf))).toList != (Rn.tx (Rn.rl (Rn.chs f n hf))).toList) = false := by simp
        clear hJ hK HJ0 hbx hCF hWF hsc
        gi_wp2
        obtain ⟨Mid, hMid⟩ : ∃ Mid : Act → World → Prop, Mid = fun a' W' => Below W.heap.size W W' ∧ ∃ v88, a' = { tmps := #[.string (Rn.arr f n), undef, .pointer (some ⟨w.heap.size, 0, none⟩), .pointer (some ⟨W2.heap.size, 0, none⟩), .pointer (some ⟨W2.heap.size + 1, 0, none⟩), u5, u6, .pointer (some ⟨wq.heap.size, 0, none⟩), .func (.func 17) #[] #[.pointer (some ⟨wq.heap.size + 1, 0, none⟩)], undef, undef, undef, undef, undef, undef, undef, undef, undef, undef, undef, undef, .slice (some ⟨g, 0, none⟩) (Rn.el 233) cap, .string (Rn.arr (Rn.eb 233) (Rn.el 233)), .bool false, .bool false, .slice (some ⟨W1.heap.size, 0, none⟩) 3 3, .slice (some ⟨W1.heap.size, 0, none⟩) 3 3, .int .i64 2, .bool false, .bool false, .string (Rn.arr f n), .pointer (some ⟨W2.heap.size + 1 + 1, 0, none⟩), .tuple #[.bool false], .bool false, u34, u35, u36, u37, u38, u39, u40, u41, u42, u43, .string (Rn.arr f n), .func (.func 17) #[] #[.pointer (some ⟨wq.heap.size + 1, 0, none⟩)], .func (.func 17) #[] #[.pointer (some ⟨wq.heap.size + 1, 0, none⟩)], .bool false, .func (.func 17) #[] #[.pointer (some ⟨wq.heap.size + 1, 0, none⟩)], undef, undef, undef, undef, undef, undef, undef, undef, undef, undef, undef, undef, undef, undef, undef, undef, undef, undef, undef, undef, undef, undef, undef, undef, .int .i64 ((Rn.chs f n hf).length : Int), .slice pc (Rn.chs f n hf).length cc, .int .i64 ((Rn.chs f n hf).length : Int), .bool false, .bool false, .slice pc (Rn.chs f n hf).length cc, .string (Rn.tx (Rn.rl (Rn.chs f n hf))), .slice pc (Rn.chs f n hf).length cc, .string (Rn.tx (Rn.rl (Rn.chs f n hf))), .bool false, .bool false, .bool false, .string (Rn.arr f n), .string (Rn.tx (Rn.rl (Rn.chs f n hf))), .string (Rn.arr f n), v88, .string (Rn.tx (Rn.rl (Rn.chs f n hf))), .bool false, .bool false, undef, undef, undef, undef, undef, undef, undef, undef, undef, undef, undef, undef, undef, undef, undef, undef, undef, undef, undef, undef, undef, undef, undef, undef, undef, undef, undef, undef, undef, undef, undef, undef, undef, undef, undef, undef, undef, undef, undef, undef, undef, undef, undef, undef, undef, undef, undef, undef, undef, undef, undef, undef, undef, undef, undef, undef, undef, undef, undef, undef, undef, undef, undef, undef, undef, undef, undef, undef, undef, undef, undef, undef, undef, undef, undef, undef, undef, undef, undef, undef, undef, undef, undef, undef, undef, undef, undef, undef, undef, undef, undef, undef, undef, undef, undef, undef, undef, undef, undef, undef, undef, undef, undef, undef, undef, undef, undef, undef, undef, undef, undef, undef, undef, undef, undef, undef, undef, undef, undef, undef, undef, undef], defers := [{ target := .collected D, args := #[] }] } := ⟨_, rfl⟩
        have HMid := hide' hMid
        clear hMid
        refine wpIn_mono (Q := Exit.then Mid (fun _ _ _ => False)) ?_ ?_
        · refine wpIn_wide.2 ?_
          refine wp_region_held_drew (S := S) (by kernel_rfl) hS0 (fun hHeld => ?_)
          simp only [List.size_toArray, List.length_cons, List.length_nil, Nat.reduceAdd]
          refine wpAnyH_take (i := 0) (v := .int .i64 ((Rn.chs f n hf).length : Int)) rfl (by kernel_rfl) (by kernel_rfl) (by kernel_rfl) (fun _ _ _ h => h) (Or.inl ⟨by rfl, ?y0⟩) (by assumption) ?_
          case y0 => (intro w' hSw; have q0 := s0 w' hSw; have q1 := s1 w' hSw; have q8 := s8 w' hSw; go_simp)
          simp only [List.getElem_toArray, List.getElem_cons_zero, Act.put, List.setIfInBounds_toArray, List.set_cons_zero, List.set_cons_succ]
          refine wpAnyH_take (i := 1) (v := .slice pc (Rn.chs f n hf).length cc) rfl (by kernel_rfl) (by kernel_rfl) (by kernel_rfl) (fun _ _ _ h => h) (Or.inl ⟨by rfl, ?y1⟩) (by assumption) ?_
          case y1 => (intro w' hSw; have q0 := s0 w' hSw; have q1 := s1 w' hSw; have q8 := s8 w' hSw; go_simp)
          simp only [List.getElem_toArray, List.getElem_cons_zero, List.getElem_cons_succ, Act.put, List.setIfInBounds_toArray, List.set_cons_zero, List.set_cons_succ]
          refine wpAnyH_take (i := 2) (v := .int .i64 ((Rn.chs f n hf).length : Int)) rfl (by kernel_rfl) (by kernel_rfl) (by kernel_rfl) (fun _ _ _ h => h) (Or.inl ⟨by rfl, ?y2⟩) (by assumption) ?_
          case y2 => (intro w' hSw; have q0 := s0 w' hSw; have q1 := s1 w' hSw; have q8 := s8 w' hSw; go_simp)
          simp only [List.getElem_toArray, List.getElem_cons_zero, List.getElem_cons_succ, Act.put, List.setIfInBounds_toArray, List.set_cons_zero, List.set_cons_succ]
          refine wpAnyH_take (i := 3) (v := .bool false) rfl (by kernel_rfl) (by kernel_rfl) (by kernel_rfl) (fun _ _ _ h => h) (Or.inl ⟨by rfl, ?y3⟩) (by assumption) ?_
          case y3 => (intro w' hSw; have q0 := s0 w' hSw; have q1 := s1 w' hSw; have q8 := s8 w' hSw; go_simp)
          simp only [List.getElem_toArray, List.getElem_cons_zero, List.getElem_cons_succ, Act.put, List.setIfInBounds_toArray, List.set_cons_zero, List.set_cons_succ]
          refine wpAnyH_take (i := 4) (v := .bool false) rfl (by kernel_rfl) (by kernel_rfl) (by kernel_rfl) (fun _ _ _ h => h) (Or.inl ⟨by rfl, ?y4⟩) (by assumption) ?_
          case y4 => (intro w' hSw; have q0 := s0 w' hSw; have q1 := s1 w' hSw; have q8 := s8 w' hSw; go_simp)
          simp only [List.getElem_toArray, List.getElem_cons_zero, List.getElem_cons_succ, Act.put, List.setIfInBounds_toArray, List.set_cons_zero, List.set_cons_succ]
          refine wpAnyH_take (i := 5) (v := .slice pc (Rn.chs f n hf).length cc) rfl (by kernel_rfl) (by kernel_rfl) (by kernel_rfl) (fun _ _ _ h => h) (Or.inl ⟨by rfl, ?y5⟩) (by assumption) ?_
          case y5 => (intro w' hSw; have q0 := s0 w' hSw; have q1 := s1 w' hSw; have q8 := s8 w' hSw; go_simp)
          simp only [List.getElem_toArray, List.getElem_cons_zero, List.getElem_cons_succ, Act.put, List.setIfInBounds_toArray, List.set_cons_zero, List.set_cons_succ]
          refine wpAnyH_take (i := 7) (v := .slice pc (Rn.chs f n hf).length cc) rfl (by kernel_rfl) (by kernel_rfl) (by kernel_rfl) (fun _ _ _ h => h) (Or.inl ⟨by rfl, ?y7⟩) (by assumption) ?_
          case y7 => (intro w' hSw; have q0 := s0 w' hSw; have q1 := s1 w' hSw; have q8 := s8 w' hSw; go_simp)
          simp only [List.getElem_toArray, List.getElem_cons_zero, List.getElem_cons_succ, Act.put, List.setIfInBounds_toArray, List.set_cons_zero, List.set_cons_succ]
          refine wpAnyH_take (i := 8) (v := .string (Rn.tx (Rn.rl (Rn.chs f n hf)))) rfl (by kernel_rfl) (by kernel_rfl) (by kernel_rfl) (fun _ _ _ h => h) (Or.inl ⟨by rfl, ?y8⟩) (by assumption) ?_
          case y8 => (intro w' hSw; have q0 := s0 w' hSw; have q1 := s1 w' hSw; have q8 := s8 w' hSw; go_simp)
          simp only [List.getElem_toArray, List.getElem_cons_zero, List.getElem_cons_succ, Act.put, List.setIfInBounds_toArray, List.set_cons_zero, List.set_cons_succ]
          refine wpAnyH_ready (rs := [6]) (by kernel_rfl) (by simp) ?_
          refine AllReadyH.cons rfl (fun K hK => ?_) ?_
          · try simp only [List.getElem_toArray, List.getElem_cons_zero, List.getElem_cons_succ]
            go_simp
            refine cJ.mono ?_
            rintro e W7 ⟨rfl, rfl⟩
            go_wp2_with fail
            refine hK.out _ _ (by assumption) (fun hHeld => ?_)
            clear hK K
            try simp only [List.getElem_toArray, List.getElem_cons_zero, List.getElem_cons_succ, Act.put, List.setIfInBounds_toArray, List.set_cons_zero, List.set_cons_succ]
            refine wpAnyH_take (i := 9) (v := .bool false) rfl (by kernel_rfl) (by kernel_rfl) (by kernel_rfl) (fun _ _ _ h => h) (Or.inl ⟨by rfl, ?y9⟩) (by assumption) ?_
            case y9 => (intro w' hSw; have q0 := s0 w' hSw; have q1 := s1 w' hSw; have q8 := s8 w' hSw; go_simp)
            simp only [List.getElem_toArray, List.getElem_cons_zero, List.getElem_cons_succ, Act.put, List.setIfInBounds_toArray, List.set_cons_zero, List.set_cons_succ]
            refine wpAnyH_take (i := 10) (v := .bool false) rfl (by kernel_rfl) (by kernel_rfl) (by kernel_rfl) (fun _ _ _ h => h) (Or.inl ⟨by rfl, ?y10⟩) (by assumption) ?_
            case y10 => (intro w' hSw; have q0 := s0 w' hSw; have q1 := s1 w' hSw; have q8 := s8 w' hSw; go_simp)
            simp only [List.getElem_toArray, List.getElem_cons_zero, List.getElem_cons_succ, Act.put, List.setIfInBounds_toArray, List.set_cons_zero, List.set_cons_succ]
            refine wpAnyH_take (i := 11) (v := .bool false) rfl (by kernel_rfl) (by kernel_rfl) (by kernel_rfl) (fun _ _ _ h => h) (Or.inl ⟨by rfl, ?y11⟩) (by assumption) ?_
            case y11 => (intro w' hSw; have q0 := s0 w' hSw; have q1 := s1 w' hSw; have q8 := s8 w' hSw; go_simp)
            simp only [List.getElem_toArray, List.getElem_cons_zero, List.getElem_cons_succ, Act.put, List.setIfInBounds_toArray, List.set_cons_zero, List.set_cons_succ]
            refine wpAnyH_take (i := 12) (v := .string (Rn.arr f n)) rfl (by kernel_rfl) (by kernel_rfl) (by kernel_rfl) (fun _ _ _ h => h) (Or.inl ⟨by rfl, ?y12⟩) (by assumption) ?_
            case y12 => (intro w' hSw; have q0 := s0 w' hSw; have q1 := s1 w' hSw; have q8 := s8 w' hSw; go_simp)
            simp only [List.getElem_toArray, List.getElem_cons_zero, List.getElem_cons_succ, Act.put, List.setIfInBounds_toArray, List.set_cons_zero, List.set_cons_succ]
            refine wpAnyH_take (i := 14) (v := .string (Rn.arr f n)) rfl (by kernel_rfl) (by kernel_rfl) (by kernel_rfl) (fun _ _ _ h => h) (Or.inl ⟨by rfl, ?y14⟩) (by assumption) ?_
            case y14 => (intro w' hSw; have q0 := s0 w' hSw; have q1 := s1 w' hSw; have q8 := s8 w' hSw; go_simp)
            simp only [List.getElem_toArray, List.getElem_cons_zero, List.getElem_cons_succ, Act.put, List.setIfInBounds_toArray, List.set_cons_zero, List.set_cons_succ]
            refine wpAnyH_ready (rs := [13, 15]) (by kernel_rfl) (by simp) ?_
            refine AllReadyH.cons rfl (fun K hK => ?_) ?_
            · try simp only [List.getElem_toArray, List.getElem_cons_zero, List.getElem_cons_succ]
              go_simp
              refine (cM _).mono ?_
              rintro e W8 ⟨rfl, hb8⟩
              go_wp2_with fail
              have hS8 := hSB _ _ (by assumption) hb8
              refine hK.out _ _ hS8 (fun hHeld => ?_)
              clear hK K
              try simp only [List.getElem_toArray, List.getElem_cons_zero, List.getElem_cons_succ, Act.put, List.setIfInBounds_toArray, List.set_cons_zero, List.set_cons_succ]
              refine wpAnyH_ready (rs := [15]) (by kernel_rfl) (by simp) ?_
              refine AllReadyH.cons rfl (fun K hK => ?_) ?_
              · try simp only [List.getElem_toArray, List.getElem_cons_zero, List.getElem_cons_succ]
                go_simp
                refine hK.out _ _ (hSB _ _ (by assumption) (hW15 _)) (fun hHeld => ?_)
                clear hK K
                try simp only [List.getElem_toArray, List.getElem_cons_zero, List.getElem_cons_succ, Act.put, List.setIfInBounds_toArray, List.set_cons_zero, List.set_cons_succ]
                refine wpAnyH_ready (rs := [16]) (by kernel_rfl) (by simp) ?_
                refine AllReadyH.cons rfl (fun K hK => ?_) ?_
                · try simp only [List.getElem_toArray, List.getElem_cons_zero, List.getElem_cons_succ]
                  go_simp
                  refine hK.out _ _ (by assumption) (fun hHeld => ?_)
                  clear hK K
                  try simp only [List.getElem_toArray, List.getElem_cons_zero, List.getElem_cons_succ, Act.put, List.setIfInBounds_toArray, List.set_cons_zero, List.set_cons_succ]
                  refine wpAnyH_take (i := 17) (v := .bool false) rfl (by kernel_rfl) (by kernel_rfl) (by kernel_rfl) (fun _ _ _ h => h) (Or.inl ⟨by rfl, ?y17⟩) (by assumption) ?_
                  case y17 => (intro w' hSw; have q0 := s0 w' hSw; have q1 := s1 w' hSw; have q8 := s8 w' hSw; go_simp)
                  simp only [List.getElem_toArray, List.getElem_cons_zero, List.getElem_cons_succ, Act.put, List.setIfInBounds_toArray, List.set_cons_zero, List.set_cons_succ]
                  refine wpAnyH_take (i := 18) (v := .bool false) rfl (by kernel_rfl) (by kernel_rfl) (by kernel_rfl) (fun _ _ _ h => h) (Or.inl ⟨by rfl, ?y18⟩) (by assumption) ?_
                  case y18 => (intro w' hSw; have q0 := s0 w' hSw; have q1 := s1 w' hSw; have q8 := s8 w' hSw; go_simp)
                  simp only [List.getElem_toArray, List.getElem_cons_zero, List.getElem_cons_succ, Act.put, List.setIfInBounds_toArray, List.set_cons_zero, List.set_cons_succ]
                  refine wpAnyH_done (by kernel_rfl) ?_ _
                  show Mid _ _
                  rw [HMid.out]
                  exact ⟨((Below.refl _ _).drew.trans hb8).trans ((hW15 _).mono ((Below.refl W.heap.size W).drew.trans hb8).size), _, rfl⟩
                · exact AllReadyH.nil
              · exact AllReadyH.nil
            · refine AllReadyH.cons rfl (fun K hK => ?_) AllReadyH.nil
              try simp only [List.getElem_toArray, List.getElem_cons_zero, List.getElem_cons_succ]
              go_simp
              refine hK.out _ _ (hSB _ _ (by assumption) (hW15 _)) (fun hHeld => ?_)
              clear hK K
              try simp only [List.getElem_toArray, List.getElem_cons_zero, List.getElem_cons_succ, Act.put, List.setIfInBounds_toArray, List.set_cons_zero, List.set_cons_succ]
              refine wpAnyH_ready (rs := [13, 16]) (by kernel_rfl) (by simp) ?_
              refine AllReadyH.cons rfl (fun K hK => ?_) ?_
              · try simp only [List.getElem_toArray, List.getElem_cons_zero, List.getElem_cons_succ]
                go_simp
                refine (cM _).mono ?_
                rintro e W8 ⟨rfl, hb8⟩
                have k16 := hc16d W8 hb8
                go_wp2_with fail
                have hS8 := hSB _ _ (by assumption) hb8
                refine hK.out _ _ hS8 (fun hHeld => ?_)
                clear hK K
                try simp only [List.getElem_toArray, List.getElem_cons_zero, List.getElem_cons_succ, Act.put, List.setIfInBounds_toArray, List.set_cons_zero, List.set_cons_succ]
                refine wpAnyH_ready (rs := [16]) (by kernel_rfl) (by simp) ?_
                refine AllReadyH.cons rfl (fun K hK => ?_) ?_
                · try simp only [List.getElem_toArray, List.getElem_cons_zero, List.getElem_cons_succ]
                  go_simp
                  refine hK.out _ _ (by assumption) (fun hHeld => ?_)
                  clear hK K
                  try simp only [List.getElem_toArray, List.getElem_cons_zero, List.getElem_cons_succ, Act.put, List.setIfInBounds_toArray, List.set_cons_zero, List.set_cons_succ]
                  refine wpAnyH_take (i := 17) (v := .bool false) rfl (by kernel_rfl) (by kernel_rfl) (by kernel_rfl) (fun _ _ _ h => h) (Or.inl ⟨by rfl, ?y17⟩) (by assumption) ?_
                  case y17 => (intro w' hSw; have q0 := s0 w' hSw; have q1 := s1 w' hSw; have q8 := s8 w' hSw; go_simp)
                  simp only [List.getElem_toArray, List.getElem_cons_zero, List.getElem_cons_succ, Act.put, List.setIfInBounds_toArray, List.set_cons_zero, List.set_cons_succ]
                  refine wpAnyH_take (i := 18) (v := .bool false) rfl (by kernel_rfl) (by kernel_rfl) (by kernel_rfl) (fun _ _ _ h => h) (Or.inl ⟨by rfl, ?y18⟩) (by assumption) ?_
                  case y18 => (intro w' hSw; have q0 := s0 w' hSw; have q1 := s1 w' hSw; have q8 := s8 w' hSw; go_simp)
                  simp only [List.getElem_toArray, List.getElem_cons_zero, List.getElem_cons_succ, Act.put, List.setIfInBounds_toArray, List.set_cons_zero, List.set_cons_succ]
                  refine wpAnyH_done (by kernel_rfl) ?_ _
                  show Mid _ _
                  rw [HMid.out]
                  exact ⟨((Below.refl W.heap.size W).drew.trans (hW15 W.drew)).trans (hb8.mono ((Below.refl W.heap.size W).drew.trans (hW15 W.drew)).size), _, rfl⟩
                · exact AllReadyH.nil
              · refine AllReadyH.cons rfl (fun K hK => ?_) AllReadyH.nil
                try simp only [List.getElem_toArray, List.getElem_cons_zero, List.getElem_cons_succ]
                go_simp
                refine hK.out _ _ (by assumption) (fun hHeld => ?_)
                clear hK K
                try simp only [List.getElem_toArray, List.getElem_cons_zero, List.getElem_cons_succ, Act.put, List.setIfInBounds_toArray, List.set_cons_zero, List.set_cons_succ]
                refine wpAnyH_ready (rs := [13]) (by kernel_rfl) (by simp) ?_
                refine AllReadyH.cons rfl (fun K hK => ?_) ?_
                · try simp only [List.getElem_toArray, List.getElem_cons_zero, List.getElem_cons_succ]
                  go_simp
                  refine (cM _).mono ?_
                  rintro e W8 ⟨rfl, hb8⟩
                  go_wp2_with fail
                  have hS8 := hSB _ _ (by assumption) hb8
                  refine hK.out _ _ hS8 (fun hHeld => ?_)
                  clear hK K
                  try simp only [List.getElem_toArray, List.getElem_cons_zero, List.getElem_cons_succ, Act.put, List.setIfInBounds_toArray, List.set_cons_zero, List.set_cons_succ]
                  refine wpAnyH_take (i := 17) (v := .bool false) rfl (by kernel_rfl) (by kernel_rfl) (by kernel_rfl) (fun _ _ _ h => h) (Or.inl ⟨by rfl, ?y17⟩) (by assumption) ?_
                  case y17 => (intro w' hSw; have q0 := s0 w' hSw; have q1 := s1 w' hSw; have q8 := s8 w' hSw; go_simp)
                  simp only [List.getElem_toArray, List.getElem_cons_zero, List.getElem_cons_succ, Act.put, List.setIfInBounds_toArray, List.set_cons_zero, List.set_cons_succ]
                  refine wpAnyH_take (i := 18) (v := .bool false) rfl (by kernel_rfl) (by kernel_rfl) (by kernel_rfl) (fun _ _ _ h => h) (Or.inl ⟨by rfl, ?y18⟩) (by assumption) ?_
                  case y18 => (intro w' hSw; have q0 := s0 w' hSw; have q1 := s1 w' hSw; have q8 := s8 w' hSw; go_simp)
                  simp only [List.getElem_toArray, List.getElem_cons_zero, List.getElem_cons_succ, Act.put, List.setIfInBounds_toArray, List.set_cons_zero, List.set_cons_succ]
                  refine wpAnyH_done (by kernel_rfl) ?_ _
                  show Mid _ _
                  rw [HMid.out]
                  exact ⟨((Below.refl W.heap.size W).drew.trans (hW15 W.drew)).trans (hb8.mono ((Below.refl W.heap.size W).drew.trans (hW15 W.drew)).size), _, rfl⟩
                · exact AllReadyH.nil
          · exact AllReadyH.nil
        · rintro e a' W' h
          cases e with
          | normal =>
            replace h : Mid a' W' := h
            rw [HMid.out] at h
            obtain ⟨hbW, v88, rfl⟩ := h
            have hJ2 := HJ.out.1.base.below hbW
            have HJ2 := hide' hJ2
            dsimp only
            clear hJ2 cK cP cL cR fR cJ hcv8 cM hc15 hW15 hc16 hc16d hc16r hrefl s0 s1 s8 hSB hS0 hLi hTT
            have cRu := runes_any f n W' hf (by omega)
            gi_wp2_with fail
            refine ⟨trivial, ?_⟩
            refine (callsIn_wide.2 cRu).mono ?_
            rintro e W9 ⟨capr, rfl, hr1, hr2', hLie, hb9, hz9, -⟩
            have HB9 := hide' (HJ2.out.below hb9)
            have HC9 := hide' (hbW.trans (hb9.mono hbW.size))
            have HL9 := hide' (And.intro hLie hz9)
            clear cRu hLie hb9 hz9
            have hrl : (Rn.rl (Rn.chs f n hf)).length = (Rn.chs f n hf).length := by simp [Rn.rl]
            have hr3 : capr ≤ 9223372036854775807 := by unfold maxLen at hr2'; exact hr2'
            gi_wp2
            gi_loopw [95] (fun i wx => ∃ a : Nat, i = .int .i64 a ∧ a ≤ (Rn.rl (Rn.chs f n hf)).length ∧ wx = W9) (fun i _ => (Rn.rl (Rn.chs f n hf)).length - (RowKit.intOf i).toNat)
            case atStart => exact ⟨0, rfl, Nat.zero_le _, rfl⟩
            case round =>
              obtain ⟨a, rfl, han, hW⟩ := hrel
              subst hW
              obtain ⟨cP, cL, cR, fR⟩ := HB9.out.cells
              by_cases hlt : a < (Rn.rl (Rn.chs f n hf)).length
              · obtain ⟨gp, gc, rfl, rfl, hp, hc⟩ := HB9.out.at (by omega)
                have q1 := HL9.out.1 a hlt
                have q2 := hc a (by omega)
                have e0 : (Rn.rl (Rn.chs f n hf))[a] = ((Rn.chs f n hf)[a]'(by omega)).1.2 := by simp [Rn.rl]
                rw [e0, Nat.zero_add] at q1
                have g1 : (a : Int) < ((Rn.rl (Rn.chs f n hf)).length : Int) := by omega
                have g2 : ¬ ((Rn.chs f n hf).length : Int) ≤ (a : Int) := by omega
                have g3 : (a : Int) < ((Rn.chs f n hf).length : Int) := by omega
                clear e0 hp hc
                generalize ((Rn.chs f n hf)[a]'(by omega)).1.2 = r at q1 q2
                have e1 : ((r : Int) != (r : Int)) = false := by simp
                gi_wp2
                go_roundw
                case rel => exact ⟨a + 1, by go_num, by omega, trivial⟩
                case measure => simp [RowKit.intOf]; omega
              · have g1 : ¬ (a : Int) < ((Rn.rl (Rn.chs f n hf)).length : Int) := by omega
                obtain ⟨wp, hwp⟩ : ∃ wp, wp = wr := ⟨_, rfl⟩
                subst hwp
                obtain ⟨cap8, W10, hc8, hn8, hm8, hby, hb10, hz10⟩ := conv_bytes f n wp hf (by omega)
                have HB10 := hide' (HB9.out.below hb10)
                have HC10 := hide' (HC9.out.trans (hb10.mono HC9.out.size))
                have HY := hide' hby
                have hm9 : cap8 ≤ 9223372036854775807 := by unfold maxLen at hm8; exact hm8
                clear hby hb10 HB9 HL9 HJ2 cP cL cR fR HC9 han
                obtain ⟨cP, cL, cR, fR⟩ := HB10.out.cells
                gi_wp2
                clear cP cL cR fR
                gi_loopw [117] (fun i wx => ∃ a : Nat, i = .int .i64 a ∧ a ≤ (Rn.chs f n hf).length ∧ Below W10.heap.size W10 wx) (fun i _ => (Rn.chs f n hf).length - (RowKit.intOf i).toNat)
                case atStart => exact ⟨0, rfl, Nat.zero_le _, Below.refl _ _⟩
                case round =>
                  obtain ⟨a, rfl, han, hbx⟩ := hrel
                  have HBx := hide' (HB10.out.below hbx)
                  by_cases hlt : a < (Rn.chs f n hf).length
                  · obtain ⟨gp, gc, rfl, rfl, hp, hc⟩ := HBx.out.at (by omega)
                    obtain ⟨cP, cL, cR, fR⟩ := HBx.out.cells
                    obtain ⟨d, r1, w1, how, hd0, hdn, hnx, hn1, hn2, hcase⟩ := Wh.chs_next f n hf a hlt
                    have hpn := ((Rn.chs f n hf)[a]).2.1
                    have q1 := hp a hlt
                    have cN := next_in f n wp.heap.size 0 cap8 ((Rn.chs f n hf)[a]).1.1 wr (tabs_below hT HBx.out.bel (Nat.le_refl _)) hf hpn hn8 hm8 (HY.out.below hbx (Nat.le_refl _))
                    rw [hnx] at cN
                    have hall : ∀ W11, Below wr.heap.size wr W11 → W11.cell? ⟨gc, a, none⟩ = some (.int .i32 ((Rn.chs f n hf)[a]).1.2) ∧ (∀ h : a + 1 < (Rn.chs f n hf).length, W11.cell? ⟨gp, a + 1, none⟩ = some (.int .i64 ((((Rn.chs f n hf)[a]).1.1 + d : Nat) : Int))) ∧ W11.cell? ⟨W2.heap.size, 0, none⟩ = some (.slice (some ⟨gp, 0, none⟩) (Rn.chs f n hf).length cp) ∧ W11.cell? ⟨W2.heap.size + 1, 0, none⟩ = some (.slice (some ⟨gc, 0, none⟩) (Rn.chs f n hf).length cc) := fun W11 hb => by
                      refine ⟨(hb.cell (p := ⟨gc, a, none⟩) (block_lt_of_cell (hc a hlt))).trans (hc a hlt), fun h => ?_, (hb.cell (p := ⟨W2.heap.size, 0, none⟩) (block_lt_of_cell cP)).trans cP, (hb.cell (p := ⟨W2.heap.size + 1, 0, none⟩) (block_lt_of_cell cL)).trans cL⟩
                      rw [← hn1 h]
                      exact (hb.cell (p := ⟨gp, a + 1, none⟩) (block_lt_of_cell (hp (a + 1) h))).trans (hp (a + 1) h)
                    have hend : ∀ W11, Below wr.heap.size wr W11 → Below W10.heap.size W10 W11 := fun W11 hb => hbx.trans (hb.mono hbx.size)
                    have HEND := hide' hend
                    have g1 : (a : Int) < ((Rn.chs f n hf).length : Int) := by omega
                    clear hp hc hnx hn1 hbx HBx hend
                    generalize ((Rn.chs f n hf)[a]).1.1 = p at *
                    generalize ((Rn.chs f n hf)[a]).1.2 = r at *
                    by_cases hx : a + 1 < (Rn.chs f n hf).length
                    · have g5 : (a : Int) + 1 < ((Rn.chs f n hf).length : Int) := by omega
                      clear hn2
                      rcases hcase with ⟨rfl, rfl, rfl⟩ | ⟨rfl, rfl, ⟨rfl, rfl, rfl⟩ | ⟨rfl, rfl, rfl⟩⟩
                      · have cN' : Calls Tryd.prog 11 #[.slice (some ⟨wp.heap.size, 0, none⟩) n cap8, .int .i64 (p : Nat)] wr fun e w' => e = .returned (.tuple #[.int .i32 (r1 : Nat), .int .i64 (w1 : Nat), .int .i64 0, .int .i64 0]) ∧ Below wr.heap.size wr w' := cN
                        have e1 : ((r1 : Int) != (r1 : Int)) = false := by simp
                        have e2 : ((w1 : Int) != (w1 : Int)) = false := by simp
                        have ew : IntKind.i64.wrap (w1 : Int) = (w1 : Int) := by rw [IntKind.wrap_i64]; omega
                        clear cN
                        gi_wp2_with fail
                        refine ⟨trivial, ?_⟩
                        refine (callsIn_wide.2 cN').mono ?_
                        rintro e W11 ⟨rfl, hb11⟩
                        obtain ⟨z1, z2, z3, z4⟩ := hall W11 hb11
                        have hbe := HEND.out W11 hb11
                        have y1 : W11.cell? ⟨gp, a + 1, none⟩ = some (.int .i64 ((p : Int) + (w1 : Int))) := z2 hx
                        have es : IntKind.i64.wrap ((p : Int) + (w1 : Int) - (p : Int)) = (w1 : Int) := by rw [show ((p : Int) + (w1 : Int) - (p : Int)) = (w1 : Int) by omega]; rw [IntKind.wrap_i64]; omega
                        clear z2 cN' hall q1 cP cL cR fR hb11 HEND
                        gi_wp2
                        all_goals try (rename_i xx bb hh1 hh2; have hq : some undef = some (Value.bool bb) := hh1; exact absurd hq (by simp [undef]))
                        go_roundw
                        case rel => exact ⟨a + 1, by go_num, by omega, hbe⟩
                        case measure => simp [RowKit.intOf]; omega
                      · have cN' : Calls Tryd.prog 11 #[.slice (some ⟨wp.heap.size, 0, none⟩) n cap8, .int .i64 (p : Nat)] wr fun e w' => e = .returned (.tuple #[.int .i32 65533, .int .i64 1, .int .i64 2, .int .i64 0]) ∧ Below wr.heap.size wr w' := cN
                        clear cN
                        gi_wp2_with fail
                        refine ⟨trivial, ?_⟩
                        refine (callsIn_wide.2 cN').mono ?_
                        rintro e W11 ⟨rfl, hb11⟩
                        obtain ⟨z1, z2, z3, z4⟩ := hall W11 hb11
                        have hbe := HEND.out W11 hb11
                        have z5 : W11.cell? ⟨gc, a, none⟩ = some (.int .i32 65533) := z1
                        clear z1
                        have y1 : W11.cell? ⟨gp, a + 1, none⟩ = some (.int .i64 ((p : Int) + 1)) := z2 hx
                        have es : IntKind.i64.wrap ((p : Int) + 1 - (p : Int)) = 1 := by rw [show ((p : Int) + 1 - (p : Int)) = 1 by omega]; rw [IntKind.wrap_i64]; omega
                        clear z2 cN' hall q1 cP cL cR fR hb11 HEND
                        gi_wp2
                        all_goals try (rename_i xx bb hh1 hh2; have hq : some undef = some (Value.bool bb) := hh1; exact absurd hq (by simp [undef]))
                        go_roundw
                        case rel => exact ⟨a + 1, by go_num, by omega, hbe⟩
                        case measure => simp [RowKit.intOf]; omega
                      · have cN' : Calls Tryd.prog 11 #[.slice (some ⟨wp.heap.size, 0, none⟩) n cap8, .int .i64 (p : Nat)] wr fun e w' => e = .returned (.tuple #[.int .i32 0, .int .i64 ((n - p : Nat) : Int), .int .i64 1, .int .i64 0]) ∧ Below wr.heap.size wr w' := cN
                        have ew : IntKind.i64.wrap ((n : Int) - (p : Int)) = (n : Int) - (p : Int) := by rw [IntKind.wrap_i64]; omega
                        have e3 : (((n - p : Nat) : Int) == (n : Int) - (p : Int)) = true := by simp; omega
                        clear cN
                        gi_wp2_with fail
                        refine ⟨trivial, ?_⟩
                        refine (callsIn_wide.2 cN').mono ?_
                        rintro e W11 ⟨rfl, hb11⟩
                        obtain ⟨z1, z2, z3, z4⟩ := hall W11 hb11
                        have hbe := HEND.out W11 hb11
                        have z5 : W11.cell? ⟨gc, a, none⟩ = some (.int .i32 65533) := z1
                        clear z1
                        have y1 : W11.cell? ⟨gp, a + 1, none⟩ = some (.int .i64 ((p : Int) + 1)) := z2 hx
                        have es : IntKind.i64.wrap ((p : Int) + 1 - (p : Int)) = 1 := by rw [show ((p : Int) + 1 - (p : Int)) = 1 by omega]; rw [IntKind.wrap_i64]; omega
                        clear z2 cN' hall q1 cP cL cR fR hb11 HEND
                        gi_wp2
                        all_goals try (rename_i xx bb hh1 hh2; have hq : some undef = some (Value.bool bb) := hh1; exact absurd hq (by simp [undef]))
                        go_roundw
                        case rel => exact ⟨a + 1, by go_num, by omega, hbe⟩
                        case measure => simp [RowKit.intOf]; omega
                    · have g5 : ¬ (a : Int) + 1 < ((Rn.chs f n hf).length : Int) := by omega
                      have HND := hide' (hn2 hx)
                      clear hn2
                      rcases hcase with ⟨rfl, rfl, rfl⟩ | ⟨rfl, rfl, ⟨rfl, rfl, rfl⟩ | ⟨rfl, rfl, rfl⟩⟩
                      · have cN' : Calls Tryd.prog 11 #[.slice (some ⟨wp.heap.size, 0, none⟩) n cap8, .int .i64 (p : Nat)] wr fun e w' => e = .returned (.tuple #[.int .i32 (r1 : Nat), .int .i64 (w1 : Nat), .int .i64 0, .int .i64 0]) ∧ Below wr.heap.size wr w' := cN
                        have e1 : ((r1 : Int) != (r1 : Int)) = false := by simp
                        have e2 : ((w1 : Int) != (w1 : Int)) = false := by simp
                        have ew : IntKind.i64.wrap (w1 : Int) = (w1 : Int) := by rw [IntKind.wrap_i64]; omega
                        clear cN
                        gi_wp2_with fail
                        refine ⟨trivial, ?_⟩
                        refine (callsIn_wide.2 cN').mono ?_
                        rintro e W11 ⟨rfl, hb11⟩
                        obtain ⟨z1, z2, z3, z4⟩ := hall W11 hb11
                        have hbe := HEND.out W11 hb11
                        have es : IntKind.i64.wrap ((n : Int) - (p : Int)) = (w1 : Int) := by rw [show ((n : Int) - (p : Int)) = (w1 : Int) by have := HND.out; omega]; rw [IntKind.wrap_i64]; omega
                        clear z2 cN' hall q1 cP cL cR fR hb11 HEND
                        gi_wp2
                        all_goals try (rename_i xx bb hh1 hh2; have hq : some undef = some (Value.bool bb) := hh1; exact absurd hq (by simp [undef]))
                        go_roundw
                        case rel => exact ⟨a + 1, by go_num, by omega, hbe⟩
                        case measure => simp [RowKit.intOf]; omega
                      · have cN' : Calls Tryd.prog 11 #[.slice (some ⟨wp.heap.size, 0, none⟩) n cap8, .int .i64 (p : Nat)] wr fun e w' => e = .returned (.tuple #[.int .i32 65533, .int .i64 1, .int .i64 2, .int .i64 0]) ∧ Below wr.heap.size wr w' := cN
                        clear cN
                        gi_wp2_with fail
                        refine ⟨trivial, ?_⟩
                        refine (callsIn_wide.2 cN').mono ?_
                        rintro e W11 ⟨rfl, hb11⟩
                        obtain ⟨z1, z2, z3, z4⟩ := hall W11 hb11
                        have hbe := HEND.out W11 hb11
                        have z5 : W11.cell? ⟨gc, a, none⟩ = some (.int .i32 65533) := z1
                        clear z1
                        have es : IntKind.i64.wrap ((n : Int) - (p : Int)) = 1 := by rw [show ((n : Int) - (p : Int)) = 1 by have := HND.out; omega]; rw [IntKind.wrap_i64]; omega
                        clear z2 cN' hall q1 cP cL cR fR hb11 HEND
                        gi_wp2
                        all_goals try (rename_i xx bb hh1 hh2; have hq : some undef = some (Value.bool bb) := hh1; exact absurd hq (by simp [undef]))
                        go_roundw
                        case rel => exact ⟨a + 1, by go_num, by omega, hbe⟩
                        case measure => simp [RowKit.intOf]; omega
                      · have cN' : Calls Tryd.prog 11 #[.slice (some ⟨wp.heap.size, 0, none⟩) n cap8, .int .i64 (p : Nat)] wr fun e w' => e = .returned (.tuple #[.int .i32 0, .int .i64 ((n - p : Nat) : Int), .int .i64 1, .int .i64 0]) ∧ Below wr.heap.size wr w' := cN
                        clear cN
                        gi_wp2_with fail
                        refine ⟨trivial, ?_⟩
                        refine (callsIn_wide.2 cN').mono ?_
                        rintro e W11 ⟨rfl, hb11⟩
                        obtain ⟨z1, z2, z3, z4⟩ := hall W11 hb11
                        have hbe := HEND.out W11 hb11
                        have z5 : W11.cell? ⟨gc, a, none⟩ = some (.int .i32 65533) := z1
                        clear z1
                        have ew : IntKind.i64.wrap ((n : Int) - (p : Int)) = 1 := by rw [show ((n : Int) - (p : Int)) = 1 by have := HND.out; omega]; rw [IntKind.wrap_i64]; omega
                        have e3 : (((n - p : Nat) : Int) == 1) = true := by have := HND.out; simp; omega
                        clear z2 cN' hall q1 cP cL cR fR hb11 HEND
                        gi_wp2
                        all_goals try (rename_i xx bb hh1 hh2; have hq : some undef = some (Value.bool bb) := hh1; exact absurd hq (by simp [undef]))
                        go_roundw
                        case rel => exact ⟨a + 1, by go_num, by omega, hbe⟩
                        case measure => simp [RowKit.intOf]; omega
                  · have g1 : ¬ (a : Int) < ((Rn.chs f n hf).length : Int) := by omega
                    have cRu := runes_any f n wr.drew hf (by omega)
                    obtain ⟨cP, cL, cR, fR⟩ := HBx.out.cells
                    have hcl : ∀ W12, Below wr.drew.heap.size wr.drew W12 → W12.cell? ⟨W2.heap.size + 1, 0, none⟩ = some (.slice pc (Rn.chs f n hf).length cc) ∧ W12.cell? ⟨w.heap.size, 0, none⟩ = some (.bool false) ∧ W12.frozen? ⟨w.heap.size, 0, none⟩ = false := fun W12 hb => (HBx.out.below ((Below.refl wr.heap.size wr).drew.trans hb)).cells.2
                    have e9 : (((Rn.rl (Rn.chs f n hf)).length : Int) == ((Rn.chs f n hf).length : Int)) = true := by rw [hrl]; simp
                    have m1 : ¬ w.heap.size = W2.heap.size + 1 := by omega
                    gi_wp2
                    refine wpIn_wide.2 ?_
                    go_region_held3 (fun w' => w'.cell? ⟨W2.heap.size + 1, 0, none⟩ = some (.slice pc (Rn.chs f n hf).length cc)) (first | assumption | go_keep)
                      (first | (go_at_call 10; refine cRu.mono ?_; rintro e W12 ⟨cap12, rfl, -, -, -, hb12, -, -⟩; obtain ⟨z4, z5, z6⟩ := hcl W12 hb12))
                    replace hb12 : Below wr.heap.size wr W12 := (Below.refl wr.heap.size wr).drew.trans hb12
                    have hBz := HBx.out.below hb12
                    have hCz := (HC10.out.trans (hbx.mono HC10.out.size))
                    have hDz := (hb12.block D (Nat.lt_of_lt_of_le (Array.getElem?_eq_some_iff.1 HJ.out.2.1).1 hCz.size)).trans ((hCz.block D (Array.getElem?_eq_some_iff.1 HJ.out.2.1).1).trans HJ.out.2.1)
                    have HZ := hide' (And.intro hBz hDz)
                    clear cRu cP cL cR fR hcl hb12 hBz hCz hDz hbx
                    gi_wp2
                    have hsD := HJ.out.2.2
                    have hrW := hRP
                    exact Wh.leaves_one w w.heap.size D (by omega) (by omega) _ rfl _ ((Below.heap_setCell _ _ _ _ (by show D ≠ w.heap.size; omega)).trans HZ.out.2) (Go.Joins.block_setCell (i := 0) HZ.out.1.res _) (HZ.out.1.bel.setCell (p := ⟨w.heap.size, 0, none⟩) (Nat.le_refl _) _)
          | _ => exact h.elim
      case stop =>
        rintro D co pre W hD hpre ⟨_, hn⟩ _
        exact absurd hpre hn
end Go.Proofs.YtcggkbgbfgkaiaaDoor
