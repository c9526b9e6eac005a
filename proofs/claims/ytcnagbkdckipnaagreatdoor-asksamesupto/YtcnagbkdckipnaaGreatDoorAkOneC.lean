/-
  THE WALK over the parser's one: a path, compared or not (gen_akone.py writes this text).
-/
import Derived.Test.YtcnagbkdckipnaaGreatDoorAkOneB
namespace Go.Proofs.YtcnagbkdckipnaaGreatDoor
open Go.RowKit Go.Lib Go.Sort
set_option maxRecDepth 100000 in
set_option maxHeartbeats 8000000 in
theorem akOneE (W : World) (P : Nat) (qv wv : Value) (n : Nat) (ws : Nat → Ak.Wo) (en : Ak.Wo) (at_ op mo : Nat) (h0 : Ak.Ps W P qv wv n ws at_ op mo) (wi : Ak.RX)
    (hA : Ak.sgB n ws at_ ⟨#[40]⟩ = false) (hB : Ak.clB n ws at_ (Ak.bs [110, 111, 116]) = false) (hC : Ak.clB n ws at_ Ak.lenS = false) (ht : Ak.Tb W) (hg : Ak.GU P qv wv n ws en) (hD : Ak.clF n ws at_ 3 3 = none)
    (hw : ∀ W1, Ak.Pb P W W1 → Ak.Ps W1 P qv wv n ws at_ op mo → Calls Tryz.prog 147 #[.pointer (some ⟨P, 0, none⟩)] W1 (Ak.PrE P qv wv n ws en op mo W1 (Ak.XV W1.heap.size) (wi at_))) :
    Calls Tryz.prog 133 #[.pointer (some ⟨P, 0, none⟩)] W (Ak.PrE P qv wv n ws en op mo W (Ak.XV W.heap.size) ((wi at_).bind fun x a => match Ak.cmF n ws a 1 2 with
      | some c => (Ak.takeR n ws (a + 1) 1).bind fun w a => .ok (Ak.cmpT c w.tx x) a
      | none => .ok x a)) := by
  obtain ⟨W1, hW1⟩ : ∃ X, X = W.alloc (.cells Ak.exZ 121) := ⟨_, rfl⟩
  have hb : Below W.heap.size W W1 := by rw [hW1]; exact (Below.refl _ _).alloc (Nat.le_refl _) _
  have hs : W1.heap.size = W.heap.size + 1 := by rw [hW1]; simp
  have hnew : W1.heap[W.heap.size]? = some (.cells Ak.exZ 121 (0, 0)) := by rw [hW1]; exact Ak.heap_new _ _
  have CI := hide' (hA ▸ akIs W1 P qv wv n ws at_ op mo (h0.below hb) ⟨#[40]⟩)
  have CL := hide' (fun (w : World) (hp : Ak.Ps w P qv wv n ws at_ op mo) (s : ByteArray) => akCalls w P qv wv n ws at_ op mo hp s)
  have HW := hide' hw
  have H0 := hide' h0
  have HW1 := hide' hW1
  have HB := hide' hb
  have hPl : P < W.heap.size := h0.c.lt
  obtain ⟨N, hN⟩ : ∃ N, W.heap.size = N := ⟨_, rfl⟩
  rw [hN] at hnew
  have HN := hide' hnew
  have hPN : P ≠ N := by omega
  have tw : IntKind.i64.wrap ((at_ : Int) + 1) = ((at_ + 1 : Nat) : Int) := by have := h0.atn; have := h0.nn; rw [IntKind.wrap_i64]; omega
  have hmf : ∀ (fn : Fn) (first cap : Array Value) (w : World), (Instr.makeFunc fn first cap).run Tryz.prog w = .ok (.func fn first cap) w := fun _ _ _ _ => rfl
  have CM := hide' (fun (wr : World) (hp : Ak.Pb P W wr) => (ht.pb h0.c hp).cm)
  have HBb := hide' hB
  have HCc := hide' hC
  have HD : Hid (Ak.clF n ws at_ 3 (6 - 3) = none) := hide' hD
  have CC := hide' (fun (w : World) (q : Ak.Pb P W w) (a : Nat) (hp : Ak.Ps w P qv wv n ws a op mo) => akCompare w P qv wv n ws a op mo hp (ht.pb h0.c q) 1 2 (by omega) (by omega))
  have CT := hide' (fun (w : World) (a : Nat) (hp : Ak.Ps w P qv wv n ws a op mo) => akTake w P qv wv n ws en a op mo hp hg 1)
  obtain ⟨R, hR⟩ : ∃ R, wi at_ = R := ⟨_, rfl⟩
  rw [hR] at HW ⊢
  clear hW1 hb hnew h0 hw hR hA hB hC hD ht hg
  cases R with
  | bad a why =>
    dsimp only [Ak.Res.bind]
    go_enter Tryz.func133, Tryz.ntmps133
    go_wp2_with fail
    change Calls _ _ _ (W.alloc (.cells Ak.exZ 121)) _
    rw [← HW1.out]
    refine CI.out.mono ?_
    rintro e w2 ⟨rfl, hb2⟩
    have HP2 := hide' ((H0.out.below HB.out).below hb2)
    have HB2 := hide' ((Ak.Pb.of_below (b := P) HB.out).trans (.of_below (b := P) hb2))
    have HN2 := hide' ((hb2.block N (by omega)).trans HN.out)
    clear hb2 CI
    go_wp2_with fail
    refine (HBb.out ▸ CL.out w2 HP2.out (Ak.bs [110, 111, 116])).mono ?_
    rintro e w3 ⟨rfl, hb3⟩
    have HP3 := hide' (HP2.out.below hb3)
    have HN3 := hide' ((hb3.block N (Array.getElem?_eq_some_iff.1 HN2.out).1).trans HN2.out)
    have HB3 := hide' (HB2.out.trans (.of_below (b := P) hb3))
    clear hb3
    go_wp2_with fail
    refine (HCc.out ▸ CL.out w3 HP3.out (Ak.lenS)).mono ?_
    rintro e w4 ⟨rfl, hb4⟩
    have HP4 := hide' (HP3.out.below hb4)
    have HN4 := hide' ((hb4.block N (Array.getElem?_eq_some_iff.1 HN3.out).1).trans HN3.out)
    have HB4 := hide' (HB3.out.trans (.of_below (b := P) hb4))
    clear hb4
    go_wp2_with fail
    go_loopw [3] (fun v wr => ∃ j : Nat, v = .int .i64 j ∧ 3 ≤ j ∧ j ≤ 6 ∧ Hid (Ak.clF n ws at_ j (6 - j) = none) ∧ Hid (Ak.Pb P W wr) ∧ Hid (Ak.Ps wr P qv wv n ws at_ op mo) ∧ Hid (wr.heap[N]? = some (.cells Ak.exZ 121 (0, 0)))) (fun v _ => 6 - (RowKit.intOf v).toNat)
    case atStart => exact ⟨3, rfl, by omega, by omega, HD, HB4, HP4, HN4⟩
    case round =>
      obtain ⟨j, rfl, hj3, hj6, HA, HB5, HP5, HN5⟩ := hrel
      clear HB2 HP2 HN2 HB3 HP3 HN3 HB4 HP4 HN4
      by_cases hlt : j ≤ 5
      · have t1 : (j : Int) ≤ 5 := by omega
        have t0 : (0 : Int) ≤ j := by omega
        have t9 : (j : Int) < 9 := by omega
        have twj : IntKind.i64.wrap ((j : Int) + 1) = ((j + 1 : Nat) : Int) := by rw [IntKind.wrap_i64]; omega
        obtain ⟨s, hs⟩ : ∃ s, Ak.cms[j]? = some s := ⟨_, List.getElem?_eq_getElem (by simp [Ak.cms]; omega)⟩
        have q := CM.out wr HB5.out j s hs
        have C := hide' (CL.out wr HP5.out s)
        have ha := HA.out
        rw [show 6 - j = (5 - j) + 1 by omega] at ha
        unfold Ak.clF at ha
        rw [hs, Option.getD_some] at ha
        obtain ⟨t, htt⟩ : ∃ t, Ak.clB n ws at_ s = t := ⟨_, rfl⟩
        rw [htt] at C ha
        clear hs HA
        cases t
        · rw [if_neg (by decide)] at ha
          have HA := hide' ha
          clear ha htt
          go_wp2_with fail
          refine C.out.mono ?_
          rintro e w6 ⟨rfl, hb6⟩
          have HP6 := hide' (HP5.out.below hb6)
          have HN6 := hide' ((hb6.block N (Array.getElem?_eq_some_iff.1 HN5.out).1).trans HN5.out)
          have HB6 := hide' (HB5.out.trans (.of_below (b := P) hb6))
          clear hb6 C q
          go_wp2_with fail
          refine ⟨⟨j + 1, by simp, by omega, by omega, ?_, HB6, HP6, HN6⟩, ?_⟩
          · rw [show 6 - (j + 1) = 5 - j by omega]
            exact HA
          · simp [RowKit.intOf]
            omega
        · rw [if_pos rfl] at ha
          cases ha
      · have t1 : ¬ (j : Int) ≤ 5 := by omega
        have ha := HA.out
        rw [show 6 - j = 0 by omega] at ha
        unfold Ak.clF at ha
        clear ha
        go_wp2_with fail
        refine (HW.out wr HB5.out HP5.out).mono ?_
        rintro e w9 hv
        obtain ⟨d, rfl, h1, h2, h3⟩ := hv
        have HV := hide' (Ak.PrE.of_bad (qv := qv) (wv := wv) (op := op) (mo := mo) (V := Ak.XV N) (Ak.GvE.pre ⟨d, rfl, h1, h2, h3⟩ HB5.out))
        clear h1 h2 h3
        go_wp2_with fail
        exact ⟨rfl, HV.out⟩
  | ok x a =>
    dsimp only [Ak.Res.bind]
    obtain ⟨K, hK⟩ : ∃ K, Ak.cmF n ws a 1 2 = K := ⟨_, rfl⟩
    rw [hK]
    have HK : Hid (Ak.cmF n ws a 1 (2 + 1 - 1) = K) := hide' hK
    clear hK
    cases K with
    | none =>
      dsimp only
      go_enter Tryz.func133, Tryz.ntmps133
      go_wp2_with fail
      change Calls _ _ _ (W.alloc (.cells Ak.exZ 121)) _
      rw [← HW1.out]
      refine CI.out.mono ?_
      rintro e w2 ⟨rfl, hb2⟩
      have HP2 := hide' ((H0.out.below HB.out).below hb2)
      have HB2 := hide' ((Ak.Pb.of_below (b := P) HB.out).trans (.of_below (b := P) hb2))
      have HN2 := hide' ((hb2.block N (by omega)).trans HN.out)
      clear hb2 CI
      go_wp2_with fail
      refine (HBb.out ▸ CL.out w2 HP2.out (Ak.bs [110, 111, 116])).mono ?_
      rintro e w3 ⟨rfl, hb3⟩
      have HP3 := hide' (HP2.out.below hb3)
      have HN3 := hide' ((hb3.block N (Array.getElem?_eq_some_iff.1 HN2.out).1).trans HN2.out)
      have HB3 := hide' (HB2.out.trans (.of_below (b := P) hb3))
      clear hb3
      go_wp2_with fail
      refine (HCc.out ▸ CL.out w3 HP3.out (Ak.lenS)).mono ?_
      rintro e w4 ⟨rfl, hb4⟩
      have HP4 := hide' (HP3.out.below hb4)
      have HN4 := hide' ((hb4.block N (Array.getElem?_eq_some_iff.1 HN3.out).1).trans HN3.out)
      have HB4 := hide' (HB3.out.trans (.of_below (b := P) hb4))
      clear hb4
      go_wp2_with fail
      go_loopw [3] (fun v wr => ∃ j : Nat, v = .int .i64 j ∧ 3 ≤ j ∧ j ≤ 6 ∧ Hid (Ak.clF n ws at_ j (6 - j) = none) ∧ Hid (Ak.Pb P W wr) ∧ Hid (Ak.Ps wr P qv wv n ws at_ op mo) ∧ Hid (wr.heap[N]? = some (.cells Ak.exZ 121 (0, 0)))) (fun v _ => 6 - (RowKit.intOf v).toNat)
      case atStart => exact ⟨3, rfl, by omega, by omega, HD, HB4, HP4, HN4⟩
      case round =>
        obtain ⟨j, rfl, hj3, hj6, HA, HB5, HP5, HN5⟩ := hrel
        clear HB2 HP2 HN2 HB3 HP3 HN3 HB4 HP4 HN4
        by_cases hlt : j ≤ 5
        · have t1 : (j : Int) ≤ 5 := by omega
          have t0 : (0 : Int) ≤ j := by omega
          have t9 : (j : Int) < 9 := by omega
          have twj : IntKind.i64.wrap ((j : Int) + 1) = ((j + 1 : Nat) : Int) := by rw [IntKind.wrap_i64]; omega
          obtain ⟨s, hs⟩ : ∃ s, Ak.cms[j]? = some s := ⟨_, List.getElem?_eq_getElem (by simp [Ak.cms]; omega)⟩
          have q := CM.out wr HB5.out j s hs
          have C := hide' (CL.out wr HP5.out s)
          have ha := HA.out
          rw [show 6 - j = (5 - j) + 1 by omega] at ha
          unfold Ak.clF at ha
          rw [hs, Option.getD_some] at ha
          obtain ⟨t, htt⟩ : ∃ t, Ak.clB n ws at_ s = t := ⟨_, rfl⟩
          rw [htt] at C ha
          clear hs HA
          cases t
          · rw [if_neg (by decide)] at ha
            have HA := hide' ha
            clear ha htt
            go_wp2_with fail
            refine C.out.mono ?_
            rintro e w6 ⟨rfl, hb6⟩
            have HP6 := hide' (HP5.out.below hb6)
            have HN6 := hide' ((hb6.block N (Array.getElem?_eq_some_iff.1 HN5.out).1).trans HN5.out)
            have HB6 := hide' (HB5.out.trans (.of_below (b := P) hb6))
            clear hb6 C q
            go_wp2_with fail
            refine ⟨⟨j + 1, by simp, by omega, by omega, ?_, HB6, HP6, HN6⟩, ?_⟩
            · rw [show 6 - (j + 1) = 5 - j by omega]
              exact HA
            · simp [RowKit.intOf]
              omega
          · rw [if_pos rfl] at ha
            cases ha
        · have t1 : ¬ (j : Int) ≤ 5 := by omega
          have ha := HA.out
          rw [show 6 - j = 0 by omega] at ha
          unfold Ak.clF at ha
          clear ha
          go_wp2_with fail
          refine (HW.out wr HB5.out HP5.out).mono ?_
          rintro e w6 ⟨v, rfl, hx, hb6, hp6⟩
          obtain ⟨xo, xp, xl, xc, sp, sl, sc, xa, xm, xt, xn, rfl, hxk⟩ := Ak.cmpX hx
          have HX := hide' hxk
          have hs5 := (Array.getElem?_eq_some_iff.1 HN5.out).1
          have hs6 := hb6.size
          obtain ⟨M, hM⟩ : ∃ M, w6.heap.size = M := ⟨_, rfl⟩
          have hbk : Below w6.heap.size w6 (w6.alloc (.cells #[.int .i64 xo, .slice xp xl xc, .slice sp sl sc, .string xa, .int .i64 xm, .string xt, .int .i64 xn] 121)) := (Below.refl _ _).alloc (Nat.le_refl _) _
          have HB7 := hide' ((HB5.out.trans hb6).trans (.of_below (b := P) hbk))
          have HP7 := hide' (hp6.below hbk)
          have HN7 := hide' ((hbk.block N (by omega)).trans ((hb6.block N (by omega) (by omega)).trans HN5.out))
          have HM7 := hide' (hM ▸ Ak.heap_new w6 (.cells #[.int .i64 xo, .slice xp xl xc, .slice sp sl sc, .string xa, .int .i64 xm, .string xt, .int .i64 xn] 121))
          have HK7 := hide' (fun (k : Nat) (hk : k < M) => hbk.block k (by omega))
          have hPM : P ≠ M := by have := hp6.c.lt; omega
          have hNM : N ≠ M := by omega
          have s7 : (w6.alloc (.cells #[.int .i64 xo, .slice xp xl xc, .slice sp sl sc, .string xa, .int .i64 xm, .string xt, .int .i64 xn] 121)).heap.size = M + 1 := by simp [hM]
          clear hx hxk hb6 hp6 hbk
          go_wp2_with fail
          refine (HK.out ▸ CC.out _ HB7.out a HP7.out).mono ?_
          rintro e w8 ⟨rfl, hb8, hp8⟩
          have HB8 := hide' (HB7.out.trans hb8)
          have HP8 := hide' hp8
          have HN8 := hide' ((hb8.block N (by omega) (by omega)).trans HN7.out)
          have HK8 := hide' (fun (k : Nat) (hk : k < M) (hn : k ≠ P) => (hb8.block k (by omega) hn).trans (HK7.out k hk))
          have hm8 := (hb8.block M (by omega) (by omega)).trans HM7.out
          have m0 : w8.cell? ⟨M, 0, none⟩ = some (.int .i64 xo) := by rw [Lib.cell_of_heap hm8]; rfl
          have mf0 : w8.frozen? ⟨M, 0, none⟩ = false := Lib.frozen_of_heap hm8 0
          have m1 : w8.cell? ⟨M, 1, none⟩ = some (.slice xp xl xc) := by rw [Lib.cell_of_heap hm8]; rfl
          have mf1 : w8.frozen? ⟨M, 1, none⟩ = false := Lib.frozen_of_heap hm8 1
          have m2 : w8.cell? ⟨M, 2, none⟩ = some (.slice sp sl sc) := by rw [Lib.cell_of_heap hm8]; rfl
          have mf2 : w8.frozen? ⟨M, 2, none⟩ = false := Lib.frozen_of_heap hm8 2
          have m3 : w8.cell? ⟨M, 3, none⟩ = some (.string xa) := by rw [Lib.cell_of_heap hm8]; rfl
          have mf3 : w8.frozen? ⟨M, 3, none⟩ = false := Lib.frozen_of_heap hm8 3
          have m4 : w8.cell? ⟨M, 4, none⟩ = some (.int .i64 xm) := by rw [Lib.cell_of_heap hm8]; rfl
          have mf4 : w8.frozen? ⟨M, 4, none⟩ = false := Lib.frozen_of_heap hm8 4
          have m5 : w8.cell? ⟨M, 5, none⟩ = some (.string xt) := by rw [Lib.cell_of_heap hm8]; rfl
          have mf5 : w8.frozen? ⟨M, 5, none⟩ = false := Lib.frozen_of_heap hm8 5
          have m6 : w8.cell? ⟨M, 6, none⟩ = some (.int .i64 xn) := by rw [Lib.cell_of_heap hm8]; rfl
          have mf6 : w8.frozen? ⟨M, 6, none⟩ = false := Lib.frozen_of_heap hm8 6
          clear hb8 hp8 hm8
          have hn_ := HN8.out
          unfold Ak.exZ at hn_
          have z0 : w8.cell? ⟨N, 0, none⟩ = some (.int .i64 0) := by rw [Lib.cell_of_heap hn_]; rfl
          have zf0 : w8.frozen? ⟨N, 0, none⟩ = false := Lib.frozen_of_heap hn_ 0
          have z1 : w8.cell? ⟨N, 1, none⟩ = some (.slice none 0 0) := by rw [Lib.cell_of_heap hn_]; rfl
          have zf1 : w8.frozen? ⟨N, 1, none⟩ = false := Lib.frozen_of_heap hn_ 1
          have z2 : w8.cell? ⟨N, 2, none⟩ = some (.slice none 0 0) := by rw [Lib.cell_of_heap hn_]; rfl
          have zf2 : w8.frozen? ⟨N, 2, none⟩ = false := Lib.frozen_of_heap hn_ 2
          have z3 : w8.cell? ⟨N, 3, none⟩ = some (.string ⟨#[]⟩) := by rw [Lib.cell_of_heap hn_]; rfl
          have zf3 : w8.frozen? ⟨N, 3, none⟩ = false := Lib.frozen_of_heap hn_ 3
          have z4 : w8.cell? ⟨N, 4, none⟩ = some (.int .i64 0) := by rw [Lib.cell_of_heap hn_]; rfl
          have zf4 : w8.frozen? ⟨N, 4, none⟩ = false := Lib.frozen_of_heap hn_ 4
          have z5 : w8.cell? ⟨N, 5, none⟩ = some (.string ⟨#[]⟩) := by rw [Lib.cell_of_heap hn_]; rfl
          have zf5 : w8.frozen? ⟨N, 5, none⟩ = false := Lib.frozen_of_heap hn_ 5
          have z6 : w8.cell? ⟨N, 6, none⟩ = some (.int .i64 0) := by rw [Lib.cell_of_heap hn_]; rfl
          have zf6 : w8.frozen? ⟨N, 6, none⟩ = false := Lib.frozen_of_heap hn_ 6
          clear hn_
          go_wp2_with fail
          have hWN : W.heap.size ≤ N := by omega
          have hnz := HN8.out
          unfold Ak.exZ at hnz
          obtain ⟨f1, f2, f3⟩ := Ak.far7e HB8.out hWN HP8.out.c hPN (.int .i64 xo) (.slice xp xl xc) (.slice sp sl sc) (.string xa) (.int .i64 xm) (.string xt) (.int .i64 xn)
          have l7 := Ak.load7e hnz (.int .i64 xo) (.slice xp xl xc) (.slice sp sl sc) (.string xa) (.int .i64 xm) (.string xt) (.int .i64 xn)
          revert f1 f2 f3 l7
          generalize World.setCell _ ⟨N, 6, none⟩ (.int .i64 xn) = WF
          intro f1 f2 f3 l7
          refine bodyPost_ret (Ak.results_cell Tryz.results133 _ ⟨N, 0, none⟩ rfl _ _ l7) rfl ?_
          refine Ak.PrE.of_ok ?_ f1 (H0.out.go f1 f2 HP8.out.atn HP8.out.opm)
          have hXf := (HX.out WF fun b v hb e => ?_).1
          · exact hXf.mono (by omega)
          · have k2 := block_lt_of_cell e
            exact (World.cell?_of_block ((f3 b.block (by omega)).trans (HK8.out b.block (by omega) (by omega)))).trans e
    | some c =>
      dsimp only
      obtain ⟨T, hT⟩ : ∃ T, Ak.takeR n ws (a + 1) 1 = T := ⟨_, rfl⟩
      rw [hT]
      have HT := hide' hT
      clear hT
      cases T with
      | bad a4 why =>
        dsimp only [Ak.Res.bind]
        go_enter Tryz.func133, Tryz.ntmps133
        go_wp2_with fail
        change Calls _ _ _ (W.alloc (.cells Ak.exZ 121)) _
        rw [← HW1.out]
        refine CI.out.mono ?_
        rintro e w2 ⟨rfl, hb2⟩
        have HP2 := hide' ((H0.out.below HB.out).below hb2)
        have HB2 := hide' ((Ak.Pb.of_below (b := P) HB.out).trans (.of_below (b := P) hb2))
        have HN2 := hide' ((hb2.block N (by omega)).trans HN.out)
        clear hb2 CI
        go_wp2_with fail
        refine (HBb.out ▸ CL.out w2 HP2.out (Ak.bs [110, 111, 116])).mono ?_
        rintro e w3 ⟨rfl, hb3⟩
        have HP3 := hide' (HP2.out.below hb3)
        have HN3 := hide' ((hb3.block N (Array.getElem?_eq_some_iff.1 HN2.out).1).trans HN2.out)
        have HB3 := hide' (HB2.out.trans (.of_below (b := P) hb3))
        clear hb3
        go_wp2_with fail
        refine (HCc.out ▸ CL.out w3 HP3.out (Ak.lenS)).mono ?_
        rintro e w4 ⟨rfl, hb4⟩
        have HP4 := hide' (HP3.out.below hb4)
        have HN4 := hide' ((hb4.block N (Array.getElem?_eq_some_iff.1 HN3.out).1).trans HN3.out)
        have HB4 := hide' (HB3.out.trans (.of_below (b := P) hb4))
        clear hb4
        go_wp2_with fail
        go_loopw [3] (fun v wr => ∃ j : Nat, v = .int .i64 j ∧ 3 ≤ j ∧ j ≤ 6 ∧ Hid (Ak.clF n ws at_ j (6 - j) = none) ∧ Hid (Ak.Pb P W wr) ∧ Hid (Ak.Ps wr P qv wv n ws at_ op mo) ∧ Hid (wr.heap[N]? = some (.cells Ak.exZ 121 (0, 0)))) (fun v _ => 6 - (RowKit.intOf v).toNat)
        case atStart => exact ⟨3, rfl, by omega, by omega, HD, HB4, HP4, HN4⟩
        case round =>
          obtain ⟨j, rfl, hj3, hj6, HA, HB5, HP5, HN5⟩ := hrel
          clear HB2 HP2 HN2 HB3 HP3 HN3 HB4 HP4 HN4
          by_cases hlt : j ≤ 5
          · have t1 : (j : Int) ≤ 5 := by omega
            have t0 : (0 : Int) ≤ j := by omega
            have t9 : (j : Int) < 9 := by omega
            have twj : IntKind.i64.wrap ((j : Int) + 1) = ((j + 1 : Nat) : Int) := by rw [IntKind.wrap_i64]; omega
            obtain ⟨s, hs⟩ : ∃ s, Ak.cms[j]? = some s := ⟨_, List.getElem?_eq_getElem (by simp [Ak.cms]; omega)⟩
            have q := CM.out wr HB5.out j s hs
            have C := hide' (CL.out wr HP5.out s)
            have ha := HA.out
            rw [show 6 - j = (5 - j) + 1 by omega] at ha
            unfold Ak.clF at ha
            rw [hs, Option.getD_some] at ha
            obtain ⟨t, htt⟩ : ∃ t, Ak.clB n ws at_ s = t := ⟨_, rfl⟩
            rw [htt] at C ha
            clear hs HA
            cases t
            · rw [if_neg (by decide)] at ha
              have HA := hide' ha
              clear ha htt
              go_wp2_with fail
              refine C.out.mono ?_
              rintro e w6 ⟨rfl, hb6⟩
              have HP6 := hide' (HP5.out.below hb6)
              have HN6 := hide' ((hb6.block N (Array.getElem?_eq_some_iff.1 HN5.out).1).trans HN5.out)
              have HB6 := hide' (HB5.out.trans (.of_below (b := P) hb6))
              clear hb6 C q
              go_wp2_with fail
              refine ⟨⟨j + 1, by simp, by omega, by omega, ?_, HB6, HP6, HN6⟩, ?_⟩
              · rw [show 6 - (j + 1) = 5 - j by omega]
                exact HA
              · simp [RowKit.intOf]
                omega
            · rw [if_pos rfl] at ha
              cases ha
          · have t1 : ¬ (j : Int) ≤ 5 := by omega
            have ha := HA.out
            rw [show 6 - j = 0 by omega] at ha
            unfold Ak.clF at ha
            clear ha
            go_wp2_with fail
            refine (HW.out wr HB5.out HP5.out).mono ?_
            rintro e w6 ⟨v, rfl, hx, hb6, hp6⟩
            obtain ⟨xo, xp, xl, xc, sp, sl, sc, xa, xm, xt, xn, rfl, hxk⟩ := Ak.cmpX hx
            have HX := hide' hxk
            have hs5 := (Array.getElem?_eq_some_iff.1 HN5.out).1
            have hs6 := hb6.size
            obtain ⟨M, hM⟩ : ∃ M, w6.heap.size = M := ⟨_, rfl⟩
            have hbk : Below w6.heap.size w6 (w6.alloc (.cells #[.int .i64 xo, .slice xp xl xc, .slice sp sl sc, .string xa, .int .i64 xm, .string xt, .int .i64 xn] 121)) := (Below.refl _ _).alloc (Nat.le_refl _) _
            have HB7 := hide' ((HB5.out.trans hb6).trans (.of_below (b := P) hbk))
            have HP7 := hide' (hp6.below hbk)
            have HN7 := hide' ((hbk.block N (by omega)).trans ((hb6.block N (by omega) (by omega)).trans HN5.out))
            have HM7 := hide' (hM ▸ Ak.heap_new w6 (.cells #[.int .i64 xo, .slice xp xl xc, .slice sp sl sc, .string xa, .int .i64 xm, .string xt, .int .i64 xn] 121))
            have HK7 := hide' (fun (k : Nat) (hk : k < M) => hbk.block k (by omega))
            have hPM : P ≠ M := by have := hp6.c.lt; omega
            have hNM : N ≠ M := by omega
            have s7 : (w6.alloc (.cells #[.int .i64 xo, .slice xp xl xc, .slice sp sl sc, .string xa, .int .i64 xm, .string xt, .int .i64 xn] 121)).heap.size = M + 1 := by simp [hM]
            clear hx hxk hb6 hp6 hbk
            go_wp2_with fail
            refine (HK.out ▸ CC.out _ HB7.out a HP7.out).mono ?_
            rintro e w8 ⟨rfl, hb8, hp8⟩
            have HB8 := hide' (HB7.out.trans hb8)
            have HP8 := hide' hp8
            have HN8 := hide' ((hb8.block N (by omega) (by omega)).trans HN7.out)
            have HM8 := hide' ((hb8.block M (by omega) (by omega)).trans HM7.out)
            have HK8 := hide' (fun (k : Nat) (hk : k < M) (hn : k ≠ P) => (hb8.block k (by omega) hn).trans (HK7.out k hk))
            have hs8 := hb8.size
            clear hb8 hp8
            go_wp2_with fail
            refine (HT.out ▸ CT.out _ _ HP8.out).mono ?_
            rintro e w9 hv
            obtain ⟨d, rfl, h1, h2, h3⟩ := hv
            have HV := hide' (Ak.PrE.of_bad (qv := qv) (wv := wv) (op := op) (mo := mo) (V := Ak.XV N) (Ak.GvE.pre ⟨d, rfl, h1, h2, h3⟩ HB8.out))
            clear h1 h2 h3
            go_wp2_with fail
            exact ⟨rfl, HV.out⟩
      | ok wo a4 =>
        dsimp only [Ak.Res.bind]
        go_enter Tryz.func133, Tryz.ntmps133
        go_wp2_with fail
        change Calls _ _ _ (W.alloc (.cells Ak.exZ 121)) _
        rw [← HW1.out]
        refine CI.out.mono ?_
        rintro e w2 ⟨rfl, hb2⟩
        have HP2 := hide' ((H0.out.below HB.out).below hb2)
        have HB2 := hide' ((Ak.Pb.of_below (b := P) HB.out).trans (.of_below (b := P) hb2))
        have HN2 := hide' ((hb2.block N (by omega)).trans HN.out)
        clear hb2 CI
        go_wp2_with fail
        refine (HBb.out ▸ CL.out w2 HP2.out (Ak.bs [110, 111, 116])).mono ?_
        rintro e w3 ⟨rfl, hb3⟩
        have HP3 := hide' (HP2.out.below hb3)
        have HN3 := hide' ((hb3.block N (Array.getElem?_eq_some_iff.1 HN2.out).1).trans HN2.out)
        have HB3 := hide' (HB2.out.trans (.of_below (b := P) hb3))
        clear hb3
        go_wp2_with fail
        refine (HCc.out ▸ CL.out w3 HP3.out (Ak.lenS)).mono ?_
        rintro e w4 ⟨rfl, hb4⟩
        have HP4 := hide' (HP3.out.below hb4)
        have HN4 := hide' ((hb4.block N (Array.getElem?_eq_some_iff.1 HN3.out).1).trans HN3.out)
        have HB4 := hide' (HB3.out.trans (.of_below (b := P) hb4))
        clear hb4
        go_wp2_with fail
        go_loopw [3] (fun v wr => ∃ j : Nat, v = .int .i64 j ∧ 3 ≤ j ∧ j ≤ 6 ∧ Hid (Ak.clF n ws at_ j (6 - j) = none) ∧ Hid (Ak.Pb P W wr) ∧ Hid (Ak.Ps wr P qv wv n ws at_ op mo) ∧ Hid (wr.heap[N]? = some (.cells Ak.exZ 121 (0, 0)))) (fun v _ => 6 - (RowKit.intOf v).toNat)
        case atStart => exact ⟨3, rfl, by omega, by omega, HD, HB4, HP4, HN4⟩
        case round =>
          obtain ⟨j, rfl, hj3, hj6, HA, HB5, HP5, HN5⟩ := hrel
          clear HB2 HP2 HN2 HB3 HP3 HN3 HB4 HP4 HN4
          by_cases hlt : j ≤ 5
          · have t1 : (j : Int) ≤ 5 := by omega
            have t0 : (0 : Int) ≤ j := by omega
            have t9 : (j : Int) < 9 := by omega
            have twj : IntKind.i64.wrap ((j : Int) + 1) = ((j + 1 : Nat) : Int) := by rw [IntKind.wrap_i64]; omega
            obtain ⟨s, hs⟩ : ∃ s, Ak.cms[j]? = some s := ⟨_, List.getElem?_eq_getElem (by simp [Ak.cms]; omega)⟩
            have q := CM.out wr HB5.out j s hs
            have C := hide' (CL.out wr HP5.out s)
            have ha := HA.out
            rw [show 6 - j = (5 - j) + 1 by omega] at ha
            unfold Ak.clF at ha
            rw [hs, Option.getD_some] at ha
            obtain ⟨t, htt⟩ : ∃ t, Ak.clB n ws at_ s = t := ⟨_, rfl⟩
            rw [htt] at C ha
            clear hs HA
            cases t
            · rw [if_neg (by decide)] at ha
              have HA := hide' ha
              clear ha htt
              go_wp2_with fail
              refine C.out.mono ?_
              rintro e w6 ⟨rfl, hb6⟩
              have HP6 := hide' (HP5.out.below hb6)
              have HN6 := hide' ((hb6.block N (Array.getElem?_eq_some_iff.1 HN5.out).1).trans HN5.out)
              have HB6 := hide' (HB5.out.trans (.of_below (b := P) hb6))
              clear hb6 C q
              go_wp2_with fail
              refine ⟨⟨j + 1, by simp, by omega, by omega, ?_, HB6, HP6, HN6⟩, ?_⟩
              · rw [show 6 - (j + 1) = 5 - j by omega]
                exact HA
              · simp [RowKit.intOf]
                omega
            · rw [if_pos rfl] at ha
              cases ha
          · have t1 : ¬ (j : Int) ≤ 5 := by omega
            have ha := HA.out
            rw [show 6 - j = 0 by omega] at ha
            unfold Ak.clF at ha
            clear ha
            go_wp2_with fail
            refine (HW.out wr HB5.out HP5.out).mono ?_
            rintro e w6 ⟨v, rfl, hx, hb6, hp6⟩
            obtain ⟨xo, xp, xl, xc, sp, sl, sc, xa, xm, xt, xn, rfl, hxk⟩ := Ak.cmpX hx
            have HX := hide' hxk
            have hs5 := (Array.getElem?_eq_some_iff.1 HN5.out).1
            have hs6 := hb6.size
            obtain ⟨M, hM⟩ : ∃ M, w6.heap.size = M := ⟨_, rfl⟩
            have hbk : Below w6.heap.size w6 (w6.alloc (.cells #[.int .i64 xo, .slice xp xl xc, .slice sp sl sc, .string xa, .int .i64 xm, .string xt, .int .i64 xn] 121)) := (Below.refl _ _).alloc (Nat.le_refl _) _
            have HB7 := hide' ((HB5.out.trans hb6).trans (.of_below (b := P) hbk))
            have HP7 := hide' (hp6.below hbk)
            have HN7 := hide' ((hbk.block N (by omega)).trans ((hb6.block N (by omega) (by omega)).trans HN5.out))
            have HM7 := hide' (hM ▸ Ak.heap_new w6 (.cells #[.int .i64 xo, .slice xp xl xc, .slice sp sl sc, .string xa, .int .i64 xm, .string xt, .int .i64 xn] 121))
            have HK7 := hide' (fun (k : Nat) (hk : k < M) => hbk.block k (by omega))
            have hPM : P ≠ M := by have := hp6.c.lt; omega
            have hNM : N ≠ M := by omega
            have s7 : (w6.alloc (.cells #[.int .i64 xo, .slice xp xl xc, .slice sp sl sc, .string xa, .int .i64 xm, .string xt, .int .i64 xn] 121)).heap.size = M + 1 := by simp [hM]
            clear hx hxk hb6 hp6 hbk
            go_wp2_with fail
            refine (HK.out ▸ CC.out _ HB7.out a HP7.out).mono ?_
            rintro e w8 ⟨rfl, hb8, hp8⟩
            have HB8 := hide' (HB7.out.trans hb8)
            have HP8 := hide' hp8
            have HN8 := hide' ((hb8.block N (by omega) (by omega)).trans HN7.out)
            have HM8 := hide' ((hb8.block M (by omega) (by omega)).trans HM7.out)
            have HK8 := hide' (fun (k : Nat) (hk : k < M) (hn : k ≠ P) => (hb8.block k (by omega) hn).trans (HK7.out k hk))
            have hs8 := hb8.size
            clear hb8 hp8
            go_wp2_with fail
            refine (HT.out ▸ CT.out _ _ HP8.out).mono ?_
            rintro e w10 ⟨v, rfl, rfl, hb10, hp10⟩
            have hm10 := (hb10.block M (by omega) (by omega)).trans HM8.out
            have hn10 := (hb10.block N (by omega) (by omega)).trans HN8.out
            have HK10 := hide' (fun (k : Nat) (hk : k < M) (hn : k ≠ P) => (hb10.block k (by omega) hn).trans (HK8.out k hk hn))
            have HB10 := hide' (HB8.out.trans hb10)
            have HP10 := hide' hp10
            obtain ⟨wk, wt, wn, q0, q1, q2, q3⟩ := wo
            unfold Ak.Wo.cs
            dsimp only
            have m0 : w10.cell? ⟨M, 0, none⟩ = some (.int .i64 xo) := by rw [Lib.cell_of_heap hm10]; rfl
            have mf0 : w10.frozen? ⟨M, 0, none⟩ = false := Lib.frozen_of_heap hm10 0
            have m1 : w10.cell? ⟨M, 1, none⟩ = some (.slice xp xl xc) := by rw [Lib.cell_of_heap hm10]; rfl
            have mf1 : w10.frozen? ⟨M, 1, none⟩ = false := Lib.frozen_of_heap hm10 1
            have m2 : w10.cell? ⟨M, 2, none⟩ = some (.slice sp sl sc) := by rw [Lib.cell_of_heap hm10]; rfl
            have mf2 : w10.frozen? ⟨M, 2, none⟩ = false := Lib.frozen_of_heap hm10 2
            have m3 : w10.cell? ⟨M, 3, none⟩ = some (.string xa) := by rw [Lib.cell_of_heap hm10]; rfl
            have mf3 : w10.frozen? ⟨M, 3, none⟩ = false := Lib.frozen_of_heap hm10 3
            have m4 : w10.cell? ⟨M, 4, none⟩ = some (.int .i64 xm) := by rw [Lib.cell_of_heap hm10]; rfl
            have mf4 : w10.frozen? ⟨M, 4, none⟩ = false := Lib.frozen_of_heap hm10 4
            have m5 : w10.cell? ⟨M, 5, none⟩ = some (.string xt) := by rw [Lib.cell_of_heap hm10]; rfl
            have mf5 : w10.frozen? ⟨M, 5, none⟩ = false := Lib.frozen_of_heap hm10 5
            have m6 : w10.cell? ⟨M, 6, none⟩ = some (.int .i64 xn) := by rw [Lib.cell_of_heap hm10]; rfl
            have mf6 : w10.frozen? ⟨M, 6, none⟩ = false := Lib.frozen_of_heap hm10 6
            have y0 : w10.cell? ⟨N, 0, none⟩ = some (.int .i64 0) := by rw [Lib.cell_of_heap hn10]; rfl
            have yf0 : w10.frozen? ⟨N, 0, none⟩ = false := Lib.frozen_of_heap hn10 0
            have y1 : w10.cell? ⟨N, 1, none⟩ = some (.slice none 0 0) := by rw [Lib.cell_of_heap hn10]; rfl
            have yf1 : w10.frozen? ⟨N, 1, none⟩ = false := Lib.frozen_of_heap hn10 1
            have y2 : w10.cell? ⟨N, 2, none⟩ = some (.slice none 0 0) := by rw [Lib.cell_of_heap hn10]; rfl
            have yf2 : w10.frozen? ⟨N, 2, none⟩ = false := Lib.frozen_of_heap hn10 2
            have y3 : w10.cell? ⟨N, 3, none⟩ = some (.string ⟨#[]⟩) := by rw [Lib.cell_of_heap hn10]; rfl
            have yf3 : w10.frozen? ⟨N, 3, none⟩ = false := Lib.frozen_of_heap hn10 3
            have y4 : w10.cell? ⟨N, 4, none⟩ = some (.int .i64 0) := by rw [Lib.cell_of_heap hn10]; rfl
            have yf4 : w10.frozen? ⟨N, 4, none⟩ = false := Lib.frozen_of_heap hn10 4
            have y5 : w10.cell? ⟨N, 5, none⟩ = some (.string ⟨#[]⟩) := by rw [Lib.cell_of_heap hn10]; rfl
            have yf5 : w10.frozen? ⟨N, 5, none⟩ = false := Lib.frozen_of_heap hn10 5
            have y6 : w10.cell? ⟨N, 6, none⟩ = some (.int .i64 0) := by rw [Lib.cell_of_heap hn10]; rfl
            have yf6 : w10.frozen? ⟨N, 6, none⟩ = false := Lib.frozen_of_heap hn10 6
            have hWM : W.heap.size ≤ M := by omega
            have HN11 := hide' ((Ak.set_else (w := w10.setCell ⟨M, 4, none⟩ (.int .i64 (c : Nat))) (i := 5) (v := .string wt) hNM).trans ((Ak.set_else (w := w10) (i := 4) (v := .int .i64 (c : Nat)) hNM).trans hn10))
            have HB11 := hide' ((HB10.out.far hWM 4 (.int .i64 (c : Nat))).far hWM 5 (.string wt))
            have HC11 := hide' ((hp10.c.far hPM 4 (.int .i64 (c : Nat))).far hPM 5 (.string wt))
            have HP11 := hide' (H0.out.go HB11.out HC11.out hp10.atn hp10.opm)
            have hwt := fun w : World => Ak.woText w wk wt wn q0 q1 q2 q3
            clear hb10 hp10 hn10 hm10
            have hn_ := HN11.out
            unfold Ak.exZ at hn_
            have z0 : ((w10.setCell ⟨M, 4, none⟩ (.int .i64 (c : Nat))).setCell ⟨M, 5, none⟩ (.string wt)).cell? ⟨N, 0, none⟩ = some (.int .i64 0) := by rw [Lib.cell_of_heap hn_]; rfl
            have zf0 : ((w10.setCell ⟨M, 4, none⟩ (.int .i64 (c : Nat))).setCell ⟨M, 5, none⟩ (.string wt)).frozen? ⟨N, 0, none⟩ = false := Lib.frozen_of_heap hn_ 0
            have z1 : ((w10.setCell ⟨M, 4, none⟩ (.int .i64 (c : Nat))).setCell ⟨M, 5, none⟩ (.string wt)).cell? ⟨N, 1, none⟩ = some (.slice none 0 0) := by rw [Lib.cell_of_heap hn_]; rfl
            have zf1 : ((w10.setCell ⟨M, 4, none⟩ (.int .i64 (c : Nat))).setCell ⟨M, 5, none⟩ (.string wt)).frozen? ⟨N, 1, none⟩ = false := Lib.frozen_of_heap hn_ 1
            have z2 : ((w10.setCell ⟨M, 4, none⟩ (.int .i64 (c : Nat))).setCell ⟨M, 5, none⟩ (.string wt)).cell? ⟨N, 2, none⟩ = some (.slice none 0 0) := by rw [Lib.cell_of_heap hn_]; rfl
            have zf2 : ((w10.setCell ⟨M, 4, none⟩ (.int .i64 (c : Nat))).setCell ⟨M, 5, none⟩ (.string wt)).frozen? ⟨N, 2, none⟩ = false := Lib.frozen_of_heap hn_ 2
            have z3 : ((w10.setCell ⟨M, 4, none⟩ (.int .i64 (c : Nat))).setCell ⟨M, 5, none⟩ (.string wt)).cell? ⟨N, 3, none⟩ = some (.string ⟨#[]⟩) := by rw [Lib.cell_of_heap hn_]; rfl
            have zf3 : ((w10.setCell ⟨M, 4, none⟩ (.int .i64 (c : Nat))).setCell ⟨M, 5, none⟩ (.string wt)).frozen? ⟨N, 3, none⟩ = false := Lib.frozen_of_heap hn_ 3
            have z4 : ((w10.setCell ⟨M, 4, none⟩ (.int .i64 (c : Nat))).setCell ⟨M, 5, none⟩ (.string wt)).cell? ⟨N, 4, none⟩ = some (.int .i64 0) := by rw [Lib.cell_of_heap hn_]; rfl
            have zf4 : ((w10.setCell ⟨M, 4, none⟩ (.int .i64 (c : Nat))).setCell ⟨M, 5, none⟩ (.string wt)).frozen? ⟨N, 4, none⟩ = false := Lib.frozen_of_heap hn_ 4
            have z5 : ((w10.setCell ⟨M, 4, none⟩ (.int .i64 (c : Nat))).setCell ⟨M, 5, none⟩ (.string wt)).cell? ⟨N, 5, none⟩ = some (.string ⟨#[]⟩) := by rw [Lib.cell_of_heap hn_]; rfl
            have zf5 : ((w10.setCell ⟨M, 4, none⟩ (.int .i64 (c : Nat))).setCell ⟨M, 5, none⟩ (.string wt)).frozen? ⟨N, 5, none⟩ = false := Lib.frozen_of_heap hn_ 5
            have z6 : ((w10.setCell ⟨M, 4, none⟩ (.int .i64 (c : Nat))).setCell ⟨M, 5, none⟩ (.string wt)).cell? ⟨N, 6, none⟩ = some (.int .i64 0) := by rw [Lib.cell_of_heap hn_]; rfl
            have zf6 : ((w10.setCell ⟨M, 4, none⟩ (.int .i64 (c : Nat))).setCell ⟨M, 5, none⟩ (.string wt)).frozen? ⟨N, 6, none⟩ = false := Lib.frozen_of_heap hn_ 6
            clear hn_
            go_wp2_with fail
            have hWN : W.heap.size ≤ N := by omega
            have hnz := HN11.out
            unfold Ak.exZ at hnz
            obtain ⟨f1, f2, f3⟩ := Ak.far7e HB11.out hWN HP11.out.c hPN (.int .i64 xo) (.slice xp xl xc) (.slice sp sl sc) (.string xa) (.int .i64 (c : Nat)) (.string wt) (.int .i64 xn)
            have l7 := Ak.load7e hnz (.int .i64 xo) (.slice xp xl xc) (.slice sp sl sc) (.string xa) (.int .i64 (c : Nat)) (.string wt) (.int .i64 xn)
            revert f1 f2 f3 l7
            generalize World.setCell _ ⟨N, 6, none⟩ (.int .i64 xn) = WF
            intro f1 f2 f3 l7
            refine bodyPost_ret (Ak.results_cell Tryz.results133 _ ⟨N, 0, none⟩ rfl _ _ l7) rfl ?_
            refine Ak.PrE.of_ok ?_ f1 (H0.out.go f1 f2 HP11.out.atn HP11.out.opm)
            have hXf := (HX.out WF fun b v hb e => ?_).2.1 c wt
            · exact hXf.mono (by omega)
            · have k2 := block_lt_of_cell e
              exact (World.cell?_of_block ((f3 b.block (by omega)).trans ((Ak.set_else (by omega)).trans ((Ak.set_else (by omega)).trans (HK10.out b.block (by omega) (by omega)))))).trans e
end Go.Proofs.YtcnagbkdckipnaaGreatDoor
