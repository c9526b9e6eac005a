import Derived.Test.YteiiepjegdlbeaaDoorScLawPlB
namespace Go.Proofs.YteiiepjegdlbeaaDoor
open Go.RowKit Go.Lib
namespace Sc
set_option maxRecDepth 10000 in
set_option maxHeartbeats 4000000 in
theorem lawPlaces_any (v : Value) (f : Nat → Nat) (n : Nat) (w : World) (hS : Spans w) (hU : Lib.Utf8Tabs 2 3 w) (hf : ∀ j, f j < 256) (hA : ArgS w f n v) (hn : n ≤ 268435456) :
   Calls Tryd.prog 4 #[v] w fun e w' => e = .returned (.bool true) ∧ Below w.heap.size w w' := by
 have cA := awake_any w hS hU
 have cW : ∀ (W : World), Below w.heap.size w W → Calls Tryd.prog 9 #[v, .bool true] W (WholeE W f n true) := fun W hb => wholeRun_any W v f n true (hS.below hb (Nat.le_refl _)) (tabs_below hU hb (Nat.le_refl _)) hf (hA.below hb (Nat.le_refl _)) (by omega)
 have cT : ∀ (W : World), Below w.heap.size w W → ∀ a, a ≤ n → Calls Tryd.prog 15 #[v, .int .i64 a] W fun e w' => e = .returned (.tuple #[plaV (plw f n a), .int .i64 0]) ∧ Below W.heap.size W w' := fun W hb a ha => at_arg (hA.below hb (Nat.le_refl _)) hf (by omega) a ha
 obtain ⟨pa, cap, ev, hsp⟩ := hA.span
 subst ev
 have HSP := hide' hsp
 clear hsp
 have CA := hide' cA
 have CW := hide' cW
 have CT := hide' cT
 have HA := hide' hA
 have HF := hide' hf
 have HN := hide' hn
 clear cA cW cT hS hU hA hf hn
 go_enter Tryd.func4, Tryd.ntmps4
 go_wp2_with fail
 refine CA.out.mono ?_
 rintro e w1 ⟨rfl, hb1⟩
 have CW1 := hide' (CW.out w1 hb1)
 have HB1 := hide' hb1
 clear hb1 CA CW
 go_wp2_with fail
 refine CW1.out.mono ?_
 rintro e w2 ⟨Q, D, R, tk, op, V, u, how, p, rfl, hD, hSt, hb2⟩
 have hB2 : Below w.heap.size w w2 := HB1.out.trans (hb2.mono HB1.out.size)
 obtain ⟨hPl, hTl, hst⟩ := stop_place hSt
 rw [List.length_map] at hTl
 have HTL := hide' hTl
 have HD := hide' hD
 have HB2 := hide' hB2
 have HST := hide' hst
 have HPL := hide' hPl
 clear hD hSt hb2 hB2 CW1 HB1 hPl hTl hst
 go_wp2_with fail
 go_loopw [5, 6] (fun at_ i wr => ∃ x j : Nat, at_ = .int .i64 x ∧ i = .int .i64 j ∧ j ≤ V.length ∧ Hid (Below w2.heap.size w2 wr) ∧ Hid (PlOk f n x ((V.map (·.tk)).drop j))) (fun _ i _ => V.length - (RowKit.intOf i).toNat)
 case atStart => exact ⟨0, 0, rfl, rfl, Nat.zero_le _, Below.refl _ _, HPL.out⟩
 case round =>
   obtain ⟨x, j, rfl, rfl, hj, hb, hpl⟩ := hrel
   have hDr := HD.out.below hb.out
   have hBw : Below w.heap.size w wr := HB2.out.trans (hb.out.mono HB2.out.size)
   have c0 := hDr.c 0 tk rfl
   obtain ⟨po, co, etk⟩ := own_shape hDr.toks
   rw [etk] at c0
   have hlen : V.length ≤ 268435456 := Nat.le_trans HTL.out HN.out
   have HBW := hide' hBw
   have HDR := hide' hDr
   have HTK := hide' etk
   clear hDr hBw etk
   by_cases hlt : j < V.length
   · have i1 : (j : Int) < (V.length : Int) := by omega
     obtain ⟨g, cp, e1, k1, k2, k3, k4⟩ := tok_cells HDR.out.toks hlt
     rw [HTK.out] at e1
     cases e1
     have hdr : (V.map (·.tk)).drop j = (V[j]).tk :: (V.map (·.tk)).drop (j + 1) := by
       rw [List.drop_eq_getElem_cons (by rw [List.length_map]; exact hlt), List.getElem_map]
     have hpl' := hpl.out
     rw [hdr] at hpl'
     obtain ⟨a, b, hL, hR⟩ := hpl'
     have hbsp : ∃ q o, pa = some ⟨q, o, none⟩ ∧ Bytes w q o n f := by
       rcases HSP.out.2 with e | e
       · have := hL.lt; have := hL.le; omega
       · exact e
     have HBSP := hide' hbsp
     clear hbsp
     have q0 := k4 j hlt
     have hnx : ∀ (h2 : j + 1 < V.length) (i : Nat) (y : Value), ((V[j + 1]).arr)[i]? = some y → wr.cell? ⟨g, (j + 1) * 12 + i, none⟩ = some y := fun h2 => k4 (j + 1) h2
     have HNX := hide' hnx
     have HR := hide' hR
     have HL := hide' hL
     obtain ⟨t, ht⟩ : ∃ t, V[j] = t := ⟨_, rfl⟩
     rw [ht] at q0 HL
     have e1 := HL.out.fm
     have e2 := HL.out.til
     rw [plw_plc] at e1 e2
     have t0 := q0 0 (.int .i64 (t.tk.kind : Nat)) rfl
     rw [Nat.add_zero] at t0
     have t1 := q0 1 (.string ⟨t.tk.name.toArray⟩) rfl
     have t2 := q0 2 t.av rfl
     obtain ⟨pv, cv, eav⟩ := own_shape (HDR.out.attrs t (ht ▸ List.getElem_mem hlt)).1
     rw [eav] at t2
     have t3 := q0 3 (.string ⟨t.tk.text.toArray⟩) rfl
     have t4 := q0 4 (.int .i64 (t.tk.fm.1 : Nat)) rfl
     have t5 := q0 5 (.int .i64 (t.tk.fm.2.1 : Nat)) rfl
     have t6 := q0 6 (.int .i64 (t.tk.fm.2.2.1 : Nat)) rfl
     have t7 := q0 7 (.int .i64 (t.tk.fm.2.2.2 : Nat)) rfl
     have t8 := q0 8 (.int .i64 (t.tk.til.1 : Nat)) rfl
     have t9 := q0 9 (.int .i64 (t.tk.til.2.1 : Nat)) rfl
     have t10 := q0 10 (.int .i64 (t.tk.til.2.2.1 : Nat)) rfl
     have t11 := q0 11 (.int .i64 (t.tk.til.2.2.2 : Nat)) rfl
     rw [e1] at t4 t5 t6 t7
     rw [e2] at t8 t9 t10 t11
     dsimp only at t4 t5 t6 t7 t8 t9 t10 t11
     have cF : ∀ (W : World), Below w.heap.size w W → Calls Tryd.prog 15 #[.slice pa n cap, .int .i64 a] W fun e w' => e = .returned (.tuple #[.agg #[.int .i64 (a : Nat), .int .i64 ((Rn.plc f n a).1 : Nat), .int .i64 ((Rn.plc f n a).2.1 : Nat), .int .i64 ((Rn.plc f n a).2.2 : Nat)], .int .i64 0]) ∧ Below W.heap.size W w' := fun W h => by
       have := CT.out W h a (by have := HL.out.lt; have := HL.out.le; omega)
       rw [plw_plc] at this
       exact this
     have cG : ∀ (W : World), Below w.heap.size w W → Calls Tryd.prog 15 #[.slice pa n cap, .int .i64 b] W fun e w' => e = .returned (.tuple #[.agg #[.int .i64 (b : Nat), .int .i64 ((Rn.plc f n b).1 : Nat), .int .i64 ((Rn.plc f n b).2.1 : Nat), .int .i64 ((Rn.plc f n b).2.2 : Nat)], .int .i64 0]) ∧ Below W.heap.size W w' := fun W h => by
       have := CT.out W h b HL.out.le
       rw [plw_plc] at this
       exact this
     have CF := hide' cF
     have CG := hide' cG
     have HE1 := hide' e1
     have HE2 := hide' e2
     have HT := hide' ht
     obtain ⟨N, hN⟩ : ∃ N, V.length = N := ⟨_, rfl⟩
     have HNN := hide' hN
     rw [hN] at i1 c0 hj hlen
     clear cF cG e1 e2 eav ht q0 hnx hR hL hpl hdr k4 hN
     generalize Rn.plc f n a = pa1 at *
     generalize Rn.plc f n b = pb1 at *
     obtain ⟨r1, r2, r3⟩ := pa1
     obtain ⟨r4, r5, r6⟩ := pb1
     dsimp only at CF CG t4 t5 t6 t7 t8 t9 t10 t11
     go_wp2_with fail
     refine (CF.out _ (HBW.out.alloc HBW.out.size _)).mono ?_
     rintro e w3 ⟨rfl, hb3⟩
     have hs3 := (hb3.block wr.heap.size (by simp)).trans (show _ = some (Obj.cells #[.int .i64 (t.tk.kind : Nat), .string ⟨t.tk.name.toArray⟩, .slice pv t.tk.attrs.length cv, .string ⟨t.tk.text.toArray⟩, .int .i64 (a : Nat), .int .i64 (r1 : Nat), .int .i64 (r2 : Nat), .int .i64 (r3 : Nat), .int .i64 (b : Nat), .int .i64 (r4 : Nat), .int .i64 (r5 : Nat), .int .i64 (r6 : Nat)] 43 (0, 0)) from World.alloc_heap_new wr _)
     have hr3 : Below wr.heap.size wr w3 := ((Below.refl _ _).alloc (Nat.le_refl _) _).trans (hb3.mono (by simp))
     have u8' : w3.cell? ⟨wr.heap.size, 8, none⟩ = some (.int .i64 (b : Nat)) := by rw [Lib.cell_of_heap hs3]; rfl
     have hl3 : wr.heap.size < w3.heap.size := lt_of_heap hs3
     have hl3' : wr.heap.size ≠ w3.heap.size := by omega
     have HS3 := hide' hs3
     have HR3 := hide' hr3
     have hB3 : Below w.heap.size w w3 := HBW.out.trans (hr3.mono HBW.out.size)
     have HB3 := hide' hB3
     clear hs3 hr3 hb3 hB3 t0 t1 t2 t3 t4 t5 t6 t7 t8 t9 t10 t11 c0 CF
     go_wp2_with fail
     refine (CG.out _ (HB3.out.alloc HB3.out.size _)).mono ?_
     rintro e w4 ⟨rfl, hb4⟩
     have hp4 := (hb4.block w3.heap.size (by simp)).trans (show _ = some (Obj.cells #[.int .i64 (a : Nat), .int .i64 (r1 : Nat), .int .i64 (r2 : Nat), .int .i64 (r3 : Nat)] 32 (0, 0)) from World.alloc_heap_new w3 _)
     have hr4 : Below w3.heap.size w3 w4 := ((Below.refl _ _).alloc (Nat.le_refl _) _).trans (hb4.mono (by simp))
     have hs4 := (hr4.block wr.heap.size hl3).trans HS3.out
     have hb4' : Below wr.heap.size wr w4 := HR3.out.trans (hr4.mono HR3.out.size)
     have hB4 : Below w.heap.size w w4 := HBW.out.trans (hb4'.mono HBW.out.size)
     have hl4 : w3.heap.size < w4.heap.size := lt_of_heap hp4
     have s0 : w4.cell? ⟨wr.heap.size, 0, none⟩ = some (.int .i64 (t.tk.kind : Nat)) := by rw [Lib.cell_of_heap hs4]; rfl
     have s3 : w4.cell? ⟨wr.heap.size, 3, none⟩ = some (.string ⟨t.tk.text.toArray⟩) := by rw [Lib.cell_of_heap hs4]; rfl
     have s4 : w4.cell? ⟨wr.heap.size, 4, none⟩ = some (.int .i64 (a : Nat)) := by rw [Lib.cell_of_heap hs4]; rfl
     have s5 : w4.cell? ⟨wr.heap.size, 5, none⟩ = some (.int .i64 (r1 : Nat)) := by rw [Lib.cell_of_heap hs4]; rfl
     have s6 : w4.cell? ⟨wr.heap.size, 6, none⟩ = some (.int .i64 (r2 : Nat)) := by rw [Lib.cell_of_heap hs4]; rfl
     have s7 : w4.cell? ⟨wr.heap.size, 7, none⟩ = some (.int .i64 (r3 : Nat)) := by rw [Lib.cell_of_heap hs4]; rfl
     have s8 : w4.cell? ⟨wr.heap.size, 8, none⟩ = some (.int .i64 (b : Nat)) := by rw [Lib.cell_of_heap hs4]; rfl
     have s9 : w4.cell? ⟨wr.heap.size, 9, none⟩ = some (.int .i64 (r4 : Nat)) := by rw [Lib.cell_of_heap hs4]; rfl
     have s10 : w4.cell? ⟨wr.heap.size, 10, none⟩ = some (.int .i64 (r5 : Nat)) := by rw [Lib.cell_of_heap hs4]; rfl
     have s11 : w4.cell? ⟨wr.heap.size, 11, none⟩ = some (.int .i64 (r6 : Nat)) := by rw [Lib.cell_of_heap hs4]; rfl
     have p0 : w4.cell? ⟨w3.heap.size, 0, none⟩ = some (.int .i64 (a : Nat)) := by rw [Lib.cell_of_heap hp4]; rfl
     have p1 : w4.cell? ⟨w3.heap.size, 1, none⟩ = some (.int .i64 (r1 : Nat)) := by rw [Lib.cell_of_heap hp4]; rfl
     have p2 : w4.cell? ⟨w3.heap.size, 2, none⟩ = some (.int .i64 (r2 : Nat)) := by rw [Lib.cell_of_heap hp4]; rfl
     have p3 : w4.cell? ⟨w3.heap.size, 3, none⟩ = some (.int .i64 (r3 : Nat)) := by rw [Lib.cell_of_heap hp4]; rfl
     have d0 := (HDR.out.below hb4').c 0 tk rfl
     rw [HTK.out, HNN.out] at d0
     have hQl : Q < wr.heap.size := HDR.out.lt
     have HB4' := hide' hb4'
     have v1 : wr.heap.size < w4.heap.size := by omega
     have v2 : wr.heap.size ≠ w4.heap.size := by omega
     have v3 : w3.heap.size ≠ w4.heap.size := by omega
     have v4 : Q < w4.heap.size := by omega
     have v5 : Q ≠ w4.heap.size := by omega
     have v6 : g < w4.heap.size := by omega
     have v7 : g ≠ w4.heap.size := by omega
     have HB4 := hide' hB4
     have j1 : ¬ (a : Int) < x := by have := HL.out.rise; omega
     have j2 : ¬ (b : Int) ≤ a := by have := HL.out.lt; omega
     have HK3 := hide' k3
     have HV1 := hide' v1
     clear k3 hs4 hp4 hr4 hb4' hB4 hb4 u8' HS3 HR3 HB3 CG
     by_cases hk : t.tk.kind = 0
     · rw [hk] at s0
       go_wp2_with fail
       obtain ⟨q, o, epa, hby⟩ := HBSP.out
       obtain ⟨x1, x2, x3, t5', r5', x4, x5⟩ := HL.out.text hk
       have hlen2 : j + 1 < V.length := by
         have h9 := congrArg List.length x4
         rw [List.length_drop, List.length_map, List.length_cons] at h9
         omega
       have et2 : (V[j + 1]).tk = t5' := by
         have h9 : (V.map (·.tk)).drop (j + 1) = (V[j + 1]).tk :: (V.map (·.tk)).drop (j + 1 + 1) := by
           rw [List.drop_eq_getElem_cons (by rw [List.length_map]; exact hlen2), List.getElem_map]
         rw [h9] at x4
         injection x4
       have efm : (V[j + 1]).tk.fm = (b, r4, r5, r6) := by rw [et2, x5]; exact HE2.out
       have hnext : ∀ (i : Nat) (y : Value), ((V[j + 1]).arr)[i]? = some y → w4.cell? ⟨g, (j + 1) * 12 + i, none⟩ = some y := fun i y e => (HB4'.out.cell (p := ⟨g, (j + 1) * 12 + i, none⟩) HK3.out).trans (HNX.out hlen2 i y e)
       have m4 := hnext 4 (.int .i64 ((V[j + 1]).tk.fm.1 : Nat)) rfl
       have m5 := hnext 5 (.int .i64 ((V[j + 1]).tk.fm.2.1 : Nat)) rfl
       have m6 := hnext 6 (.int .i64 ((V[j + 1]).tk.fm.2.2.1 : Nat)) rfl
       have m7 := hnext 7 (.int .i64 ((V[j + 1]).tk.fm.2.2.2 : Nat)) rfl
       rw [efm] at m4 m5 m6 m7
       dsimp only at m4 m5 m6 m7
       have hn0 : 0 < n := by omega
       have hby4 : Bytes w4 q o n f := hby.below HB4.out (Nat.le_refl _)
       have hq4 : q < w4.heap.size := block_lt_of_cell (hby4 0 hn0)
       have hq4' : q ≠ w4.heap.size := by omega
       have y1 := hby4 b x2
       rw [x3] at y1
       have i2 : ¬ (n : Int) ≤ b := by omega
       have i3 : (b : Int) < n := by omega
       have i4 : ¬ (N : Int) ≤ (j : Int) + 1 := by have := HNN.out; omega
       have i5 : (j : Int) + 1 < N := by have := HNN.out; omega
       have i6 : (0 : Int) ≤ (j : Int) + 1 := by omega
       have iw1 : IntKind.i64.wrap ((j : Int) + 1) = j + 1 := by rw [IntKind.wrap_i64]; omega
       have i8 : ¬ (⟨t.tk.text.toArray⟩ : ByteArray).toList = (⟨#[]⟩ : ByteArray).toList := by rw [ByteArray.toList_mk, ByteArray.toList_mk]; exact x1
       have i9 : ¬ t.tk.text = [] := x1
       have i10 : (t.tk.text == []) = false := by simpa using x1
       have i11 : t.tk.text.isEmpty = false := by simpa using x1
       clear efm et2 x4 x5 x1 x3 hnext hby hby4 hn0 hlen2
       subst epa
       go_quiet (fail)
       have HD4 : Hid (Below w2.heap.size w2 ((w4.alloc (Obj.cells #[.int .i64 (b : Nat), .int .i64 (r4 : Nat), .int .i64 (r5 : Nat), .int .i64 (r6 : Nat)] 32)).drewN nq)) := below_drewN ((hb.out.trans (HB4'.out.mono hb.out.size)).alloc (Nat.le_trans hb.out.size (by omega)) _) _
       clear m4 m5 m6 m7 y1 s0 s3 s4 s5 s6 s7 s8 s9 s10 s11 p0 p1 p2 p3 d0
       go_wp2_with fail
       refine ⟨⟨b, j + 1, rfl, by simp, by omega, HD4, HR.out⟩, ?_⟩
       show V.length - ((j : Int) + 1).toNat < V.length - (j : Int).toNat
       omega
     · have i2 : ¬ (t.tk.kind : Int) = 0 := by omega
       go_wp2_with fail
       obtain ⟨q, o, epa, hby⟩ := HBSP.out
       obtain ⟨x1, x2, x3, x4, x5⟩ := HL.out.tag hk
       have hab := HL.out.lt
       have hbn := HL.out.le
       have hby4 : Bytes w4 q o n f := hby.below HB4.out (Nat.le_refl _)
       have hq4 : q < w4.heap.size := block_lt_of_cell (hby4 a (by omega))
       have hq4' : q ≠ w4.heap.size := by omega
       obtain ⟨b1, hb1⟩ : ∃ b1, b1 = b - 1 := ⟨_, rfl⟩
       obtain ⟨b2, hb2⟩ : ∃ b2, b2 = b - 2 := ⟨_, rfl⟩
       obtain ⟨a1, ha1⟩ : ∃ a1, a1 = a + 1 := ⟨_, rfl⟩
       have hn9 := HN.out
       have w1' : IntKind.i64.wrap ((b : Int) - 1) = (b1 : Int) := by rw [IntKind.wrap_i64]; omega
       have w2' : IntKind.i64.wrap ((b : Int) - 2) = (b2 : Int) := by rw [IntKind.wrap_i64]; omega
       have w3' : IntKind.i64.wrap ((a : Int) + 1) = (a1 : Int) := by rw [IntKind.wrap_i64]; omega
       have y1 := hby4 a (by omega)
       have y2 := hby4 b1 (by omega)
       have y3 := hby4 b2 (by omega)
       have y4 := hby4 a1 (by omega)
       rw [← hb2, ← ha1] at x5
       rw [← hb1] at x4
       rw [x1] at y1
       rw [x4] at y2
       have j3 : (a : Int) < n := by omega
       have j4 : (b1 : Int) < n := by omega
       have j5 : (b2 : Int) < n := by omega
       have j6 : (a1 : Int) < n := by omega
       subst epa
       have HX5 := hide' x5
       clear x1 x2 x3 x4 x5 hab hbn hby hby4 hb1 hb2 ha1 hn9
       have iw1 : IntKind.i64.wrap ((j : Int) + 1) = j + 1 := by rw [IntKind.wrap_i64]; omega
       by_cases k3 : t.tk.kind = 3
       · rw [k3] at s0
         obtain ⟨k5, k6⟩ := HX5.out.1 k3
         have k7 : ¬ (f a1 : Int) = 47 := by omega
         rw [k5] at y3
         obtain ⟨fa, hfa⟩ : ∃ fa, fa = f a1 := ⟨_, rfl⟩
         rw [← hfa] at y4 k7
         have k8 : ((fa : Int) != 47) = true := bne_iff_ne.2 k7
         clear hfa k5 k6 k3
         go_quiet (fail)
         have HD4 : Hid (Below w2.heap.size w2 ((w4.alloc (Obj.cells #[.int .i64 (b : Nat), .int .i64 (r4 : Nat), .int .i64 (r5 : Nat), .int .i64 (r6 : Nat)] 32)).drewN nq)) := below_drewN ((hb.out.trans (HB4'.out.mono hb.out.size)).alloc (Nat.le_trans hb.out.size (by omega)) _) _
         clear y1 y2 y3 y4 s0 s3 s4 s5 s6 s7 s8 s9 s10 s11 p0 p1 p2 p3 d0 w1' w2' w3'
         go_wp2_with fail
         refine ⟨⟨b, j + 1, rfl, by simp, by omega, HD4, HR.out⟩, ?_⟩
         show V.length - ((j : Int) + 1).toNat < V.length - (j : Int).toNat
         omega
       · have k4 : ¬ (t.tk.kind : Int) = 3 := by omega
         by_cases k5 : f b2 = 47
         · have k6 : f a1 = 47 := by
             rcases Nat.decEq (f a1) 47 with k | k
             · exact absurd (HX5.out.2 ⟨k5, k⟩) k3
             · exact k
           rw [k5] at y3
           rw [k6] at y4
           clear k5 k6 k3
           go_quiet (fail)
           have HD4 : Hid (Below w2.heap.size w2 ((w4.alloc (Obj.cells #[.int .i64 (b : Nat), .int .i64 (r4 : Nat), .int .i64 (r5 : Nat), .int .i64 (r6 : Nat)] 32)).drewN nq)) := below_drewN ((hb.out.trans (HB4'.out.mono hb.out.size)).alloc (Nat.le_trans hb.out.size (by omega)) _) _
           clear y1 y2 y3 y4 s0 s3 s4 s5 s6 s7 s8 s9 s10 s11 p0 p1 p2 p3 d0 w1' w2' w3'
           go_wp2_with fail
           refine ⟨⟨b, j + 1, rfl, by simp, by omega, HD4, HR.out⟩, ?_⟩
           show V.length - ((j : Int) + 1).toNat < V.length - (j : Int).toNat
           omega
         · have k6 : ¬ (f b2 : Int) = 47 := by omega
           obtain ⟨fa, hfa⟩ : ∃ fa, fa = f a1 := ⟨_, rfl⟩
           obtain ⟨fb, hfb⟩ : ∃ fb, fb = f b2 := ⟨_, rfl⟩
           rw [← hfa] at y4
           rw [← hfb] at y3 k6
           clear hfa hfb k3 k5
           go_quiet (fail)
           have HD4 : Hid (Below w2.heap.size w2 ((w4.alloc (Obj.cells #[.int .i64 (b : Nat), .int .i64 (r4 : Nat), .int .i64 (r5 : Nat), .int .i64 (r6 : Nat)] 32)).drewN nq)) := below_drewN ((hb.out.trans (HB4'.out.mono hb.out.size)).alloc (Nat.le_trans hb.out.size (by omega)) _) _
           clear y1 y2 y3 y4 s0 s3 s4 s5 s6 s7 s8 s9 s10 s11 p0 p1 p2 p3 d0 w1' w2' w3'
           go_wp2_with fail
           refine ⟨⟨b, j + 1, rfl, by simp, by omega, HD4, HR.out⟩, ?_⟩
           show V.length - ((j : Int) + 1).toNat < V.length - (j : Int).toNat
           omega
   · have i1 : ¬ (j : Int) < (V.length : Int) := by omega
     obtain ⟨N, hN⟩ : ∃ N, V.length = N := ⟨_, rfl⟩
     rw [hN] at *
     have c1 := HDR.out.c 1 (.int .i64 (how : Nat)) rfl
     rcases HST.out with ⟨rfl, rfl⟩ | ⟨rfl, y, hy, rfl⟩
     · have c2 := HDR.out.c 2 (.int .i64 ((0 : Nat) : Int)) rfl
       have c3 := HDR.out.c 3 (.int .i64 ((0 : Nat) : Int)) rfl
       have c4 := HDR.out.c 4 (.int .i64 ((0 : Nat) : Int)) rfl
       have c5 := HDR.out.c 5 (.int .i64 ((0 : Nat) : Int)) rfl
       go_wp2_with fail
       go_ret
       exact ⟨rfl, HBW.out⟩
     · rw [plw_plc] at *
       have c2 := HDR.out.c 2 (.int .i64 (y : Nat)) rfl
       have cT1 := CT.out wr HBW.out y hy
       rw [plw_plc] at cT1
       unfold plaV at cT1
       dsimp only at cT1
       have CT1 := hide' cT1
       clear cT1
       go_wp2_with fail
       refine CT1.out.mono ?_
       rintro e w3 ⟨rfl, hb3⟩
       have hDr3 := HDR.out.below hb3
       have hBw3 : Below w.heap.size w w3 := HBW.out.trans (hb3.mono HBW.out.size)
       have hQ3 := hDr3.lt
       have d1 := hDr3.c 1 (.int .i64 ((2 : Nat) : Int)) rfl
       have d2 := hDr3.c 2 (.int .i64 (y : Nat)) rfl
       have d3 := hDr3.c 3 (.int .i64 ((Rn.plc f n y).1 : Nat)) rfl
       have d4 := hDr3.c 4 (.int .i64 ((Rn.plc f n y).2.1 : Nat)) rfl
       have d5 := hDr3.c 5 (.int .i64 ((Rn.plc f n y).2.2 : Nat)) rfl
       generalize (Rn.plc f n y).1 = r1 at *
       generalize (Rn.plc f n y).2.1 = r2 at *
       generalize (Rn.plc f n y).2.2 = r3 at *
       have HBW3 := hide' hBw3
       clear hDr3 hBw3 hb3 c0 c1 c2 HDR HD
       go_wp2_with fail
       go_quiet (fail)
       go_wp2_with fail
       go_ret
       exact ⟨rfl, below_drewN (HBW3.out.alloc HBW3.out.size _) _⟩
end Sc
end Go.Proofs.YteiiepjegdlbeaaDoor
