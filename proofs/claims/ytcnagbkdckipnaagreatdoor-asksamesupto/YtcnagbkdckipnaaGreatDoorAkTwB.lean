import Derived.Test.YtcnagbkdckipnaaGreatDoorAkSame
import Derived.Test.YtcnagbkdckipnaaGreatDoorAkJn
/-
  WALKS over gimletlaw11.twins and Twin: the same expressions, the same path, as new memory (gen_aktw.py writes this text).
-/
namespace Go.Proofs.YtcnagbkdckipnaaGreatDoor
open Go.RowKit Go.Lib Go.Sort
namespace Ak
mutual
/-- no row is longer than a machine bears -/
def bS : Sv → Prop | .mk _ _ _ _ _ wh => wh.length ≤ 1048576 ∧ bXs wh
def bX : Xv → Prop | .mk _ _ _ ar _ _ st _ _ _ _ => (ar.length ≤ 1048576 ∧ bXs ar) ∧ st.length ≤ 1048576 ∧ bSs st
def bXs : List Xv → Prop
  | [] => True
  | a :: l => bX a ∧ bXs l
def bSs : List Sv → Prop
  | [] => True
  | a :: l => bS a ∧ bSs l
end
theorem bXs_mem : ∀ {l : List Xv} {x : Xv}, bXs l → x ∈ l → bX x
  | [], _, _, h => by cases h
  | a :: l, x, h, hx => by
    unfold bXs at h
    rcases List.mem_cons.1 hx with rfl | hx
    · exact h.1
    · exact bXs_mem h.2 hx
theorem bSs_mem : ∀ {l : List Sv} {x : Sv}, bSs l → x ∈ l → bS x
  | [], _, _, h => by cases h
  | a :: l, x, h, hx => by
    unfold bSs at h
    rcases List.mem_cons.1 hx with rfl | hx
    · exact h.1
    · exact bSs_mem h.2 hx
/-- what twins answers of expressions, Twin of steps -/
def TwsE (l : List Xv) : Prop := ∀ (W : World) p c, l.length ≤ 1048576 → bXs l → RowX W p c l → Calls Tryz.prog 30 #[.slice p l.length c] W fun r w' => ∃ (q : Option Addr) (n d : Nat) (Q : List Xv), r = .returned (.slice q n d) ∧ Hid (LX W.heap.size w' (.slice q n d) Q) ∧ Hid (cXs Q = cXs l) ∧ Hid (Below W.heap.size W w')
def TwpE (l : List Sv) : Prop := ∀ (W : World) p c, l.length ≤ 1048576 → bSs l → RowS W p c l → Calls Tryz.prog 13 #[.agg #[.slice p l.length c]] W fun r w' => ∃ (q : Option Addr) (n d : Nat) (Q : List Sv), r = .returned (.agg #[.slice q n d]) ∧ Hid (LS W.heap.size w' (.slice q n d) Q) ∧ Hid (cSs Q = cSs l) ∧ Hid (Below W.heap.size W w')
def TwX : Xv → Prop | .mk _ _ _ ar _ _ st _ _ _ _ => TwsE ar ∧ TwpE st
def TwS : Sv → Prop | .mk _ _ _ _ _ wh => TwsE wh
theorem LX.below {B : Nat} {w w' : World} {v : Value} {l : List Xv} (h : LX B w v l) (hb : Below w.heap.size w w') : LX B w' v l :=
  ⟨h.own.keep fun b _ hl => hb.block b hl, fun x hx => (h.ok x hx).below hb, h.lo, h.own_lo⟩
theorem LS.below {B : Nat} {w w' : World} {v : Value} {l : List Sv} (h : LS B w v l) (hb : Below w.heap.size w w') : LS B w' v l :=
  ⟨h.own.keep fun b _ hl => hb.block b hl, fun x hx => (h.ok x hx).below hb, h.lo, h.own_lo⟩
theorem grown_below {B : Nat} {W w w' : World} {v : Option Nat} (h : Below B W w) (hg : w.grownBy w' v) (hv : ∀ b, v = some b → B ≤ b) (hB : B ≤ w.heap.size) : Below B W w' :=
  h.trans ⟨hg.os, hg.tape, hg.output, hg.size, fun k hk => hg.block k (by omega) fun c => by have := hv k c.symm; omega⟩
theorem cXs_snoc {l : List Xv} {Q : List Xv} {i : Nat} {x y : Xv} (h : cXs Q = cXs (l.take i)) (hx : l[i]? = some x) (hy : cX y = cX x) : cXs (Q ++ [y]) = cXs (l.take (i + 1)) := by
  obtain ⟨h1, h2⟩ := List.getElem?_eq_some_iff.1 hx
  rw [List.take_add_one, hx, cXs_map, List.map_append, ← cXs_map, h, cXs_map, cXs_map, List.map_append]
  simp [hy]
theorem cSs_snoc {l : List Sv} {Q : List Sv} {i : Nat} {x y : Sv} (h : cSs Q = cSs (l.take i)) (hx : l[i]? = some x) (hy : cS y = cS x) : cSs (Q ++ [y]) = cSs (l.take (i + 1)) := by
  obtain ⟨h1, h2⟩ := List.getElem?_eq_some_iff.1 hx
  rw [List.take_add_one, hx, cSs_map, List.map_append, ← cSs_map, h, cSs_map, cSs_map, List.map_append]
  simp [hy]
theorem cXs_leneq {l m : List Xv} (h : cXs l = cXs m) : l.length = m.length := by
  have := congrArg List.length h
  rwa [cXs_map, cXs_map, List.length_map, List.length_map] at this
theorem cSs_leneq {l m : List Sv} (h : cSs l = cSs m) : l.length = m.length := by
  have := congrArg List.length h
  rwa [cSs_map, cSs_map, List.length_map, List.length_map] at this
end Ak
set_option maxRecDepth 100000 in
set_option maxHeartbeats 8000000 in
theorem akTwins (l : List Ak.Xv) (ih : ∀ x ∈ l, Ak.TwX x) : Ak.TwsE l := by
  intro W p c hn hbs hR
  obtain ⟨h1, h2, h3⟩ := hR
  obtain ⟨n, hln⟩ : ∃ n, l.length = n := ⟨_, rfl⟩
  rw [hln] at h1 h3 hn ⊢
  have HL := hide' hln
  have H3 := hide' h3
  have IH := hide' ih
  have HBS := hide' hbs
  have HNC : Hid (n ≤ 9223372036854775807) := hide' (by omega)
  clear hln h1 h3 ih hbs
  have HB0 : Hid (Below W.heap.size W W) := hide' (Below.refl _ _)
  go_enter Tryz.func30, Tryz.ntmps30
  go_wp2_with fail
  go_loopw [3, 8] (fun v u wr => ∃ (i : Nat) (Q : List Ak.Xv), u = .int .i64 i ∧ i ≤ n ∧ Hid (Ak.LX W.heap.size wr v Q) ∧ Hid (Ak.cXs Q = Ak.cXs (l.take i)) ∧ Hid (Below W.heap.size W wr)) (fun _ u _ => n - (RowKit.intOf u).toNat)
  case atStart => exact ⟨0, [], rfl, Nat.zero_le _, hide' (Ak.LX.nil _ _), hide' (by simp), HB0⟩
  case round =>
    obtain ⟨i, Q, rfl, hi, HX, HC, HB⟩ := hrel
    clear HB0
    obtain ⟨pa, ca, rfl, _⟩ := HX.out.own.form
    obtain ⟨kq, hkq⟩ : ∃ k, Q.length = k := ⟨_, rfl⟩
    have HKQ := hide' hkq
    have HQI : Hid (kq = i) := hide' (by have h := Ak.cXs_leneq HC.out; rw [hkq, List.length_take, HL.out] at h; omega)
    rw [hkq] at HX
    simp only [hkq]
    clear hkq
    by_cases hlt : i < n
    · have t1 : (i : Int) < (n : Int) := by omega
      have t0 : (0 : Int) ≤ i := by omega
      obtain ⟨b, o, rfl, hel⟩ := H3.out (by omega)
      obtain ⟨x, hx⟩ : ∃ x, l[i]? = some x := ⟨_, List.getElem?_eq_getElem (by rw [HL.out]; exact hlt)⟩
      obtain ⟨r1, r2⟩ := hel i x hx
      have IX := IH.out x (List.mem_of_getElem? hx)
      have BX := Ak.bXs_mem HBS.out (List.mem_of_getElem? hx)
      obtain ⟨op, xp, xc, ar, sp, sc, st, aa, cm, tx, nu⟩ := x
      unfold Ak.TwX at IX
      unfold Ak.bX at BX
      obtain ⟨IX1, IX2⟩ := IX
      obtain ⟨⟨ba, bb⟩, bc, bd⟩ := BX
      obtain ⟨R1, R2⟩ := r2.rows
      obtain ⟨ka, hka⟩ : ∃ k, ar.length = k := ⟨_, rfl⟩
      obtain ⟨ks, hks⟩ : ∃ k, st.length = k := ⟨_, rfl⟩
      have hce : ∀ {a : Addr} {u : Value}, W.cell? a = some u → wr.cell? a = some u := fun {a u} h => (HB.out.cell (p := a) (block_lt_of_cell h)).trans h
      simp only [Ak.Xv.enc, hka, hks] at r1
      have c0 : wr.cell? ⟨b, o + i * 7, none⟩ = some (.int .i64 op) := hce (r1 0 _ rfl)
      have c1 : wr.cell? ⟨b, o + i * 7 + 1, none⟩ = some (.slice xp ka xc) := hce (r1 1 _ rfl)
      have c2 : wr.cell? ⟨b, o + i * 7 + 2, none⟩ = some (.slice sp ks sc) := hce (r1 2 _ rfl)
      have c3 : wr.cell? ⟨b, o + i * 7 + 3, none⟩ = some (.string aa) := hce (r1 3 _ rfl)
      have c4 : wr.cell? ⟨b, o + i * 7 + 4, none⟩ = some (.int .i64 cm) := hce (r1 4 _ rfl)
      have c5 : wr.cell? ⟨b, o + i * 7 + 5, none⟩ = some (.string tx) := hce (r1 5 _ rfl)
      have c6 : wr.cell? ⟨b, o + i * 7 + 6, none⟩ = some (.int .i64 nu) := hce (r1 6 _ rfl)
      obtain ⟨M, hM⟩ : ∃ M, wr.heap.size = M := ⟨_, rfl⟩
      obtain ⟨w1, hw1⟩ : ∃ X, X = wr.alloc (.cells #[.int .i64 op, .slice xp ka xc, .slice sp ks sc, .string aa, .int .i64 cm, .string tx, .int .i64 nu] 121) := ⟨_, rfl⟩
      have b1 : Below wr.heap.size wr w1 := by rw [hw1]; exact (Below.refl _ _).alloc (Nat.le_refl _) _
      have s1 : w1.heap.size = M + 1 := by rw [hw1]; simp [hM]
      have m1 : w1.heap[M]? = some (.cells #[.int .i64 op, .slice xp ka xc, .slice sp ks sc, .string aa, .int .i64 cm, .string tx, .int .i64 nu] 121 (0, 0)) := by rw [hw1, ← hM]; exact Ak.heap_new _ _
      have CL := IX1 w1 xp xc ba bb ((R1.below HB.out).below b1)
      rw [hka] at CL
      have CL := hide' CL
      have IX2 := hide' IX2
      have BC := hide' bc
      have BD := hide' bd
      have RS := hide' R2
      have HW1 := hide' hw1
      have HM := hide' hM
      have HX1 := hide' (HX.out.below b1)
      have B1 := hide' b1
      have M1 := hide' m1
      have HKS := hide' hks
      have HKA := hide' hka
      have Hx := hide' hx
      clear hel r1 r2 R1 R2 IX1 hce hx bb bd
      have a0 : w1.cell? ⟨M, 0, none⟩ = some (.int .i64 op) := by rw [Lib.cell_of_heap m1]; rfl
      have a1 : w1.cell? ⟨M, 1, none⟩ = some (.slice xp ka xc) := by rw [Lib.cell_of_heap m1]; rfl
      have a2 : w1.cell? ⟨M, 2, none⟩ = some (.slice sp ks sc) := by rw [Lib.cell_of_heap m1]; rfl
      have a3 : w1.cell? ⟨M, 3, none⟩ = some (.string aa) := by rw [Lib.cell_of_heap m1]; rfl
      have a4 : w1.cell? ⟨M, 4, none⟩ = some (.int .i64 cm) := by rw [Lib.cell_of_heap m1]; rfl
      have a5 : w1.cell? ⟨M, 5, none⟩ = some (.string tx) := by rw [Lib.cell_of_heap m1]; rfl
      have a6 : w1.cell? ⟨M, 6, none⟩ = some (.int .i64 nu) := by rw [Lib.cell_of_heap m1]; rfl
      clear hw1 hM b1 m1 hka hks
      go_wp2_with fail
      rw [← HW1.out, HM.out]
      refine CL.out.mono ?_
      rintro e w2 ⟨p1, n1, d1, QA, rfl, HA, HCA, H2⟩
      have hb2 := H2.out
      have s2 := hb2.size
      have m2 := (hb2.block M (by omega)).trans M1.out
      have e0 : w2.cell? ⟨M, 0, none⟩ = some (.int .i64 op) := by rw [Lib.cell_of_heap m2]; rfl
      have e1 : w2.cell? ⟨M, 1, none⟩ = some (.slice xp ka xc) := by rw [Lib.cell_of_heap m2]; rfl
      have e2 : w2.cell? ⟨M, 2, none⟩ = some (.slice sp ks sc) := by rw [Lib.cell_of_heap m2]; rfl
      have e3 : w2.cell? ⟨M, 3, none⟩ = some (.string aa) := by rw [Lib.cell_of_heap m2]; rfl
      have e4 : w2.cell? ⟨M, 4, none⟩ = some (.int .i64 cm) := by rw [Lib.cell_of_heap m2]; rfl
      have e5 : w2.cell? ⟨M, 5, none⟩ = some (.string tx) := by rw [Lib.cell_of_heap m2]; rfl
      have e6 : w2.cell? ⟨M, 6, none⟩ = some (.int .i64 nu) := by rw [Lib.cell_of_heap m2]; rfl
      have f2 : w2.frozen? ⟨M, 1, none⟩ = false := Lib.frozen_of_heap m2 1
      obtain ⟨w3, hw3⟩ : ∃ X, X = w2.setCell ⟨M, 1, none⟩ (.slice p1 n1 d1) := ⟨_, rfl⟩
      have m3 : w3.heap[M]? = some (.cells #[.int .i64 op, .slice p1 n1 d1, .slice sp ks sc, .string aa, .int .i64 cm, .string tx, .int .i64 nu] 121 (0, 0)) := by rw [hw3]; exact Go.Joins.block_setCell (i := 1) m2 _
      have s3 : w3.heap.size = w2.heap.size := by rw [hw3]; simp
      have p3 : Ak.Pb M w2 w3 := by rw [hw3]; exact .set _ _ _ _
      have b3 : Below wr.heap.size wr w3 := by
        rw [hw3]
        refine Below.setCell (B1.out.trans (hb2.mono B1.out.size)) ?_ _
        rw [HM.out]
        exact Nat.le_refl _
      have RS3 : Ak.RowS w3 sp sc st := RS.out.below (HB.out.trans (b3.mono HB.out.size))
      have CT := IX2.out w3 sp sc BC.out BD.out RS3
      rw [HKS.out] at CT
      have CT := hide' CT
      have HW3 := hide' hw3
      have HA3 := hide' (HA.out.keepP p3 (by omega))
      have HM3 := hide' m3
      have B3 := hide' b3
      clear a0 a1 a2 a3 a4 a5 a6 hb2 m2 m3 b3 p3 RS3 hw3 CL H2 HA
      go_wp2_with fail
      rw [← HW3.out]
      refine CT.out.mono ?_
      rintro e w4 ⟨p2, n2, d2, QS, rfl, HS, HCS, H4⟩
      have hb4 := H4.out
      have s4 := hb4.size
      have m4 := (hb4.block M (by omega)).trans HM3.out
      have f4 : w4.frozen? ⟨M, 2, none⟩ = false := Lib.frozen_of_heap m4 2
      obtain ⟨w5, hw5⟩ : ∃ X, X = w4.setCell ⟨M, 2, none⟩ (.slice p2 n2 d2) := ⟨_, rfl⟩
      have m5 : w5.heap[M]? = some (.cells #[.int .i64 op, .slice p1 n1 d1, .slice p2 n2 d2, .string aa, .int .i64 cm, .string tx, .int .i64 nu] 121 (0, 0)) := by rw [hw5]; exact Go.Joins.block_setCell (i := 2) m4 _
      have s5 : w5.heap.size = w4.heap.size := by rw [hw5]; simp
      have p5 : Ak.Pb M w4 w5 := by rw [hw5]; exact .set _ _ _ _
      have b5 : Below wr.heap.size wr w5 := by
        rw [hw5]
        refine Below.setCell (B3.out.trans (hb4.mono B3.out.size)) ?_ _
        rw [HM.out]
        exact Nat.le_refl _
      have HA5 := hide' ((HA3.out.below hb4).keepP p5 (by omega))
      have HS5 := hide' (HS.out.keepP p5 (by omega))
      have HW5 := hide' hw5
      have M5 := hide' m5
      have B5 := hide' b5
      have g0 : w4.cell? ⟨M, 0, none⟩ = some (.int .i64 op) := by rw [Lib.cell_of_heap m4]; rfl
      have g1 : w4.cell? ⟨M, 1, none⟩ = some (.slice p1 n1 d1) := by rw [Lib.cell_of_heap m4]; rfl
      have g2 : w4.cell? ⟨M, 2, none⟩ = some (.slice sp ks sc) := by rw [Lib.cell_of_heap m4]; rfl
      have g3 : w4.cell? ⟨M, 3, none⟩ = some (.string aa) := by rw [Lib.cell_of_heap m4]; rfl
      have g4 : w4.cell? ⟨M, 4, none⟩ = some (.int .i64 cm) := by rw [Lib.cell_of_heap m4]; rfl
      have g5 : w4.cell? ⟨M, 5, none⟩ = some (.string tx) := by rw [Lib.cell_of_heap m4]; rfl
      have g6 : w4.cell? ⟨M, 6, none⟩ = some (.int .i64 nu) := by rw [Lib.cell_of_heap m4]; rfl
      obtain ⟨w6, hw6⟩ : ∃ X, X = w5.alloc (.cells #[.int .i64 op, .slice p1 n1 d1, .slice p2 n2 d2, .string aa, .int .i64 cm, .string tx, .int .i64 nu] 121) := ⟨_, rfl⟩
      have b6 : Below w5.heap.size w5 w6 := by rw [hw6]; exact (Below.refl _ _).alloc (Nat.le_refl _) _
      have m6 : w6.heap[w4.heap.size]? = some (.cells #[.int .i64 op, .slice p1 n1 d1, .slice p2 n2 d2, .string aa, .int .i64 cm, .string tx, .int .i64 nu] 121 (0, 0)) := by rw [hw6, ← s5]; exact Ak.heap_new _ _
      obtain ⟨e1, q1, q2, q3⟩ := HA5.out.row
      obtain ⟨e2, q4, q5, q6⟩ := HS5.out.row
      have hye : (Ak.Xv.mk op p1 d1 QA p2 d2 QS aa cm tx nu).enc = [.int .i64 op, .slice p1 n1 d1, .slice p2 n2 d2, .string aa, .int .i64 cm, .string tx, .int .i64 nu] := by simp [Ak.Xv.enc, e1, e2]
      have HR6 : Hid (w6.rangeAt w4.heap.size 0 (Ak.Xv.mk op p1 d1 QA p2 d2 QS aa cm tx nu).enc) := hide' (by
        rw [hye]
        intro t u hu
        rw [Lib.cell_of_heap m6, Nat.zero_add]
        simpa using hu)
      have HX6 := hide' (HX.out.below (b5.trans (b6.mono b5.size)))
      have HOY : Hid (Ak.OkX w6 (Ak.Xv.mk op p1 d1 QA p2 d2 QS aa cm tx nu)) := hide' ((Ak.OkX.of q1 q4).below b6)
      have hWM : W.heap.size ≤ M := by rw [← HM.out]; exact HB.out.size
      have HDY : Hid (∀ b ∈ Ak.fX (Ak.Xv.mk op p1 d1 QA p2 d2 QS aa cm tx nu), W.heap.size ≤ b ∧ (Value.slice pa kq ca).ownBlock ≠ some b) := hide' (by
        have hlo : ∀ b ∈ Ak.fX (Ak.Xv.mk op p1 d1 QA p2 d2 QS aa cm tx nu), M < b := fun b hb => by
          unfold Ak.fX at hb
          rcases List.mem_append.1 hb with hb | hb
          · rcases List.mem_append.1 hb with hb | hb
            · have := q2 b hb; omega
            · obtain ⟨x, hx, hb⟩ := (Ak.fXs_mem _ b).1 hb
              have := q3 x hx b hb; omega
          · rcases List.mem_append.1 hb with hb | hb
            · have := q5 b hb; omega
            · obtain ⟨x, hx, hb⟩ := (Ak.fSs_mem _ b).1 hb
              have := q6 x hx b hb; omega
        refine fun b hb => ⟨by have := hlo b hb; omega, fun e => ?_⟩
        have h1 := hlo b hb
        have h2 := HX.out.lt b e
        rw [HM.out] at h2
        omega)
      have HCY : Hid (Ak.cX (Ak.Xv.mk op p1 d1 QA p2 d2 QS aa cm tx nu) = Ak.cX (Ak.Xv.mk op xp xc ar sp sc st aa cm tx nu)) := hide' (by unfold Ak.cX; rw [HCA.out, HCS.out])
      have HCQ := hide' (Ak.cXs_snoc HC.out Hx.out HCY.out)
      have HLb : Hid (Q.length + 1 ≤ 2097152) := hide' (by have h1 := HKQ.out; have h2 := HQI.out; omega)
      have HB6 : Hid (Below W.heap.size W w6) := hide' (HB.out.trans ((b5.trans (b6.mono b5.size)).mono HB.out.size))
      have HW6 : Hid (W.heap.size ≤ w6.heap.size) := hide' HB6.out.size
      rw [hw5] at hw6
      have HWE := hide' hw6
      clear hb4 m4 m5 b5 p5 hw5 CT H4 HA3 HS b6 m6 q1 q2 q3 q4 q5 q6 hye hw6 e1 e2 hWM
      go_wp2_with (rw [← HWE.out]; refine Ak.wpList_appX rfl (.tmp 20) (.tmp 22) rfl (.slice pa kq ca) Q (Ak.Xv.mk op p1 d1 QA p2 d2 QS aa cm tx nu) w4.heap.size 1 rfl rfl HX6.out.own HR6.out HLb.out ?_; intro v' w' ho hg hv)
      have HX7 := hide' (HX6.out.app HOY.out HDY.out ho hg hv HW6.out)
      have HB7 := hide' (Ak.grown_below HB6.out hg HX6.out.own_lo HW6.out)
      clear ho hg hv
      go_wp2_with fail
      go_roundw
      case rel => exact ⟨i + 1, Q ++ [_], by go_num, by omega, HX7, HCQ, HB7⟩
      case measure => simp [RowKit.intOf]; omega
    · have t1 : ¬ (i : Int) < (n : Int) := by omega
      have hin : l.take i = l := List.take_of_length_le (by rw [HL.out]; omega)
      have HC2 : Hid (Ak.cXs Q = Ak.cXs l) := hide' (by rw [HC.out, hin])
      clear HC hin
      go_wp2_with fail
      go_ret
      exact ⟨_, _, _, rfl, Q, HX, HC2, HB⟩
end Go.Proofs.YtcnagbkdckipnaaGreatDoor
/-
  THE WALK over gimletlaw11.Twin (gen_aktw.py writes this text).
-/
namespace Go.Proofs.YtcnagbkdckipnaaGreatDoor
open Go.RowKit Go.Lib Go.Sort
namespace Ak
theorem LS.monoB {B B' : Nat} {w : World} {v : Value} {l : List Sv} (h : LS B w v l) (hB : B' ≤ B) : LS B' w v l :=
  ⟨h.own, h.ok, fun x hx b hb => ⟨Nat.le_trans hB (h.lo x hx b hb).1, (h.lo x hx b hb).2⟩, fun b hb => Nat.le_trans hB (h.own_lo b hb)⟩
end Ak
set_option maxRecDepth 100000 in
set_option maxHeartbeats 8000000 in
theorem akTwin (l : List Ak.Sv) (ih : ∀ x ∈ l, Ak.TwS x) : Ak.TwpE l := by
  intro W0 p c hn hbs hR
  obtain ⟨n, hln⟩ : ∃ n, l.length = n := ⟨_, rfl⟩
  obtain ⟨W, hW⟩ : ∃ X, X = (W0.alloc (.cells #[.slice p n c] 25)).alloc (.cells #[.slice none 0 0] 25) := ⟨_, rfl⟩
  obtain ⟨R, hRR⟩ : ∃ R, W0.heap.size = R := ⟨_, rfl⟩
  have hbw : Below W0.heap.size W0 W := by rw [hW]; exact ((Below.refl _ _).alloc (Nat.le_refl _) _).alloc (by simp) _
  have sW : W.heap.size = R + 2 := by rw [hW]; simp [hRR]
  have mr : W.heap[R + 1]? = some (.cells #[.slice none 0 0] 25 (0, 0)) := by
    rw [hW, ← hRR, show W0.heap.size + 1 = (W0.alloc (.cells #[.slice p n c] 25)).heap.size by simp]
    exact Ak.heap_new _ _
  obtain ⟨h1, h2, h3⟩ := hR.below hbw
  rw [hln] at h1 h3 hn ⊢
  have HL := hide' hln
  have H3 := hide' h3
  have IH := hide' ih
  have HBS := hide' hbs
  have HNC : Hid (n ≤ 9223372036854775807) := hide' (by omega)
  have HWE := hide' hW
  have HBW := hide' hbw
  have HRR := hide' hRR
  have HMR := hide' mr
  clear hln h1 h3 ih hbs hW hbw hRR mr hR
  have HB0 : Hid (Below W.heap.size W W) := hide' (Below.refl _ _)
  go_enter Tryz.func13, Tryz.ntmps13
  go_wp2_with fail
  rw [← HWE.out, HRR.out]
  go_loopw [3, 9] (fun v u wr => ∃ (i : Nat) (Q : List Ak.Sv), u = .int .i64 i ∧ i ≤ n ∧ Hid (Ak.LS W.heap.size wr v Q) ∧ Hid (Ak.cSs Q = Ak.cSs (l.take i)) ∧ Hid (Below W.heap.size W wr)) (fun _ u _ => n - (RowKit.intOf u).toNat)
  case atStart => exact ⟨0, [], rfl, Nat.zero_le _, hide' (Ak.LS.nil _ _), hide' (by simp), HB0⟩
  case round =>
    obtain ⟨i, Q, rfl, hi, HX, HC, HB⟩ := hrel
    clear HB0
    obtain ⟨pa, ca, rfl, _⟩ := HX.out.own.form
    obtain ⟨kq, hkq⟩ : ∃ k, Q.length = k := ⟨_, rfl⟩
    have HKQ := hide' hkq
    have HQI : Hid (kq = i) := hide' (by have h := Ak.cSs_leneq HC.out; rw [hkq, List.length_take, HL.out] at h; omega)
    rw [hkq] at HX
    simp only [hkq]
    clear hkq
    by_cases hlt : i < n
    · have t1 : (i : Int) < (n : Int) := by omega
      have t0 : (0 : Int) ≤ i := by omega
      obtain ⟨b, o, rfl, hel⟩ := H3.out (by omega)
      obtain ⟨x, hx⟩ : ∃ x, l[i]? = some x := ⟨_, List.getElem?_eq_getElem (by rw [HL.out]; exact hlt)⟩
      obtain ⟨r1, r2⟩ := hel i x hx
      have IX := IH.out x (List.mem_of_getElem? hx)
      have BX := Ak.bSs_mem HBS.out (List.mem_of_getElem? hx)
      obtain ⟨ax, te, nm, xp, xc, wh⟩ := x
      unfold Ak.TwS at IX
      unfold Ak.bS at BX
      obtain ⟨ba, bb⟩ := BX
      have R1 := r2.row
      obtain ⟨ka, hka⟩ : ∃ k, wh.length = k := ⟨_, rfl⟩
      have hce : ∀ {a : Addr} {u : Value}, W.cell? a = some u → wr.cell? a = some u := fun {a u} h => (HB.out.cell (p := a) (block_lt_of_cell h)).trans h
      simp only [Ak.Sv.enc, hka] at r1
      have c0 : wr.cell? ⟨b, o + i * 4, none⟩ = some (.int .i64 ax) := hce (r1 0 _ rfl)
      have c1 : wr.cell? ⟨b, o + i * 4 + 1, none⟩ = some (.int .i64 te) := hce (r1 1 _ rfl)
      have c2 : wr.cell? ⟨b, o + i * 4 + 2, none⟩ = some (.string nm) := hce (r1 2 _ rfl)
      have c3 : wr.cell? ⟨b, o + i * 4 + 3, none⟩ = some (.slice xp ka xc) := hce (r1 3 _ rfl)
      obtain ⟨M, hM⟩ : ∃ M, wr.heap.size = M := ⟨_, rfl⟩
      obtain ⟨w1, hw1⟩ : ∃ X, X = wr.alloc (.cells #[.int .i64 ax, .int .i64 te, .string nm, .slice xp ka xc] 61) := ⟨_, rfl⟩
      have b1 : Below wr.heap.size wr w1 := by rw [hw1]; exact (Below.refl _ _).alloc (Nat.le_refl _) _
      have s1 : w1.heap.size = M + 1 := by rw [hw1]; simp [hM]
      have m1 : w1.heap[M]? = some (.cells #[.int .i64 ax, .int .i64 te, .string nm, .slice xp ka xc] 61 (0, 0)) := by rw [hw1, ← hM]; exact Ak.heap_new _ _
      have CL := IX w1 xp xc ba bb ((R1.below HB.out).below b1)
      rw [hka] at CL
      have CL := hide' CL
      have HW1 := hide' hw1
      have HM := hide' hM
      have HX1 := hide' (HX.out.below b1)
      have B1 := hide' b1
      have M1 := hide' m1
      have HKA := hide' hka
      have Hx := hide' hx
      clear hel r1 r2 R1 IX hce hx bb
      have a0 : w1.cell? ⟨M, 0, none⟩ = some (.int .i64 ax) := by rw [Lib.cell_of_heap m1]; rfl
      have a1 : w1.cell? ⟨M, 1, none⟩ = some (.int .i64 te) := by rw [Lib.cell_of_heap m1]; rfl
      have a2 : w1.cell? ⟨M, 2, none⟩ = some (.string nm) := by rw [Lib.cell_of_heap m1]; rfl
      have a3 : w1.cell? ⟨M, 3, none⟩ = some (.slice xp ka xc) := by rw [Lib.cell_of_heap m1]; rfl
      clear hw1 hM b1 m1 hka
      go_wp2_with fail
      rw [← HW1.out, HM.out]
      refine CL.out.mono ?_
      rintro e w2 ⟨p1, n1, d1, QA, rfl, HA, HCA, H2⟩
      have hb2 := H2.out
      have s2 := hb2.size
      have m2 := (hb2.block M (by omega)).trans M1.out
      have e0 : w2.cell? ⟨M, 0, none⟩ = some (.int .i64 ax) := by rw [Lib.cell_of_heap m2]; rfl
      have e1 : w2.cell? ⟨M, 1, none⟩ = some (.int .i64 te) := by rw [Lib.cell_of_heap m2]; rfl
      have e2 : w2.cell? ⟨M, 2, none⟩ = some (.string nm) := by rw [Lib.cell_of_heap m2]; rfl
      have e3 : w2.cell? ⟨M, 3, none⟩ = some (.slice xp ka xc) := by rw [Lib.cell_of_heap m2]; rfl
      have f2 : w2.frozen? ⟨M, 3, none⟩ = false := Lib.frozen_of_heap m2 3
      obtain ⟨w5, hw5⟩ : ∃ X, X = w2.setCell ⟨M, 3, none⟩ (.slice p1 n1 d1) := ⟨_, rfl⟩
      have m5 : w5.heap[M]? = some (.cells #[.int .i64 ax, .int .i64 te, .string nm, .slice p1 n1 d1] 61 (0, 0)) := by rw [hw5]; exact Go.Joins.block_setCell (i := 3) m2 _
      have s5 : w5.heap.size = w2.heap.size := by rw [hw5]; simp
      have p5 : Ak.Pb M w2 w5 := by rw [hw5]; exact .set _ _ _ _
      have b5 : Below wr.heap.size wr w5 := by
        rw [hw5]
        refine Below.setCell (B1.out.trans (hb2.mono B1.out.size)) ?_ _
        rw [HM.out]
        exact Nat.le_refl _
      have HA5 := hide' (HA.out.keepP p5 (by omega))
      obtain ⟨w6, hw6⟩ : ∃ X, X = w5.alloc (.cells #[.int .i64 ax, .int .i64 te, .string nm, .slice p1 n1 d1] 61) := ⟨_, rfl⟩
      have b6 : Below w5.heap.size w5 w6 := by rw [hw6]; exact (Below.refl _ _).alloc (Nat.le_refl _) _
      have m6 : w6.heap[w2.heap.size]? = some (.cells #[.int .i64 ax, .int .i64 te, .string nm, .slice p1 n1 d1] 61 (0, 0)) := by rw [hw6, ← s5]; exact Ak.heap_new _ _
      obtain ⟨e1, q1, q2, q3⟩ := HA5.out.row
      have hye : (Ak.Sv.mk ax te nm p1 d1 QA).enc = [.int .i64 ax, .int .i64 te, .string nm, .slice p1 n1 d1] := by simp [Ak.Sv.enc, e1]
      have HR6 : Hid (w6.rangeAt w2.heap.size 0 (Ak.Sv.mk ax te nm p1 d1 QA).enc) := hide' (by
        rw [hye]
        intro t u hu
        rw [Lib.cell_of_heap m6, Nat.zero_add]
        simpa using hu)
      have HX6 := hide' (HX.out.below (b5.trans (b6.mono b5.size)))
      have HOY : Hid (Ak.OkS w6 (Ak.Sv.mk ax te nm p1 d1 QA)) := hide' ((Ak.OkS.of q1).below b6)
      have hWM : W.heap.size ≤ M := by rw [← HM.out]; exact HB.out.size
      have HDY : Hid (∀ b ∈ Ak.fS (Ak.Sv.mk ax te nm p1 d1 QA), W.heap.size ≤ b ∧ (Value.slice pa kq ca).ownBlock ≠ some b) := hide' (by
        have hlo : ∀ b ∈ Ak.fS (Ak.Sv.mk ax te nm p1 d1 QA), M < b := fun b hb => by
          unfold Ak.fS at hb
          rcases List.mem_append.1 hb with hb | hb
          · have := q2 b hb; omega
          · obtain ⟨x, hx, hb⟩ := (Ak.fXs_mem _ b).1 hb
            have := q3 x hx b hb; omega
        refine fun b hb => ⟨by have := hlo b hb; omega, fun e => ?_⟩
        have h1 := hlo b hb
        have h2 := HX.out.lt b e
        rw [HM.out] at h2
        omega)
      have HCY : Hid (Ak.cS (Ak.Sv.mk ax te nm p1 d1 QA) = Ak.cS (Ak.Sv.mk ax te nm xp xc wh)) := hide' (by unfold Ak.cS; rw [HCA.out])
      have HCQ := hide' (Ak.cSs_snoc HC.out Hx.out HCY.out)
      have HLb : Hid (Q.length + 1 ≤ 2097152) := hide' (by have h1 := HKQ.out; have h2 := HQI.out; omega)
      have HB6 : Hid (Below W.heap.size W w6) := hide' (HB.out.trans ((b5.trans (b6.mono b5.size)).mono HB.out.size))
      have HW6 : Hid (W.heap.size ≤ w6.heap.size) := hide' HB6.out.size
      rw [hw5] at hw6
      have HWF := hide' hw6
      clear a0 a1 a2 a3 hb2 m2 m5 b5 p5 hw5 CL H2 HA HA5 b6 m6 q1 q2 q3 hye hw6 e1 hWM
      go_wp2_with (rw [← HWF.out]; refine Ak.wpList_appS rfl (.tmp 17) (.tmp 19) rfl (.slice pa kq ca) Q (Ak.Sv.mk ax te nm p1 d1 QA) w2.heap.size 1 rfl rfl HX6.out.own HR6.out HLb.out ?_; intro v' w' ho hg hv)
      have HX7 := hide' (HX6.out.app HOY.out HDY.out ho hg hv HW6.out)
      have HB7 := hide' (Ak.grown_below HB6.out hg HX6.out.own_lo HW6.out)
      clear ho hg hv
      go_wp2_with fail
      go_roundw
      case rel => exact ⟨i + 1, Q ++ [_], by go_num, by omega, HX7, HCQ, HB7⟩
      case measure => simp [RowKit.intOf]; omega
    · have t1 : ¬ (i : Int) < (n : Int) := by omega
      have hin : l.take i = l := List.take_of_length_le (by rw [HL.out]; omega)
      have HC2 : Hid (Ak.cSs Q = Ak.cSs l) := hide' (by rw [HC.out, hin])
      have mz := (HB.out.block (R + 1) (by omega)).trans HMR.out
      have z0 : wr.cell? ⟨R + 1, 0, none⟩ = some (.slice none 0 0) := by rw [Lib.cell_of_heap mz]; rfl
      have zf : wr.frozen? ⟨R + 1, 0, none⟩ = false := Lib.frozen_of_heap mz 0
      have HXZ := hide' ((HX.out.keepP (Ak.Pb.set wr (R + 1) 0 (.slice pa kq ca)) (by omega)).monoB (B' := W0.heap.size) (by have := HRR.out; omega))
      have HBZ : Hid (Below W0.heap.size W0 (wr.setCell ⟨R + 1, 0, none⟩ (.slice pa kq ca))) := hide' (Below.setCell (HBW.out.trans (HB.out.mono HBW.out.size)) (by rw [HRR.out]; exact Nat.le_succ _) _)
      have ms := Go.Joins.block_setCell (i := 0) mz (.slice pa kq ca)
      have zs : (wr.setCell ⟨R + 1, 0, none⟩ (.slice pa kq ca)).cell? ⟨R + 1, 0, none⟩ = some (.slice pa kq ca) := by rw [Lib.cell_of_heap ms]; rfl
      have ZS := hide' zs
      clear HC hin mz ms zs
      go_wp2_with fail
      refine bodyPost_ret (v := .agg #[.slice pa kq ca]) (by have zs := ZS.out; simp [results, Tryz.results13, go_sem, zs]) rfl ?_
      exact ⟨_, _, _, rfl, Q, HXZ, HC2, HBZ⟩
theorem akTws : (∀ x, Ak.TwS x) ∧ ∀ x, Ak.TwX x := by
  have hs : ∀ ax te nm p c wh, (∀ a ∈ wh, Ak.TwX a) → Ak.TwS (.mk ax te nm p c wh) := fun ax te nm p c wh ih => by unfold Ak.TwS; exact akTwins wh ih
  have he : ∀ op p c ar sp sc st aa cm tx nu, (∀ a ∈ ar, Ak.TwX a) → (∀ a ∈ st, Ak.TwS a) → Ak.TwX (.mk op p c ar sp sc st aa cm tx nu) := fun op p c ar sp sc st aa cm tx nu ia is => by unfold Ak.TwX; exact ⟨akTwins ar ia, akTwin st is⟩
  exact ⟨Ak.Sv.ind hs he, Ak.Xv.ind hs he⟩
/-- Twin, whole -/
theorem akTwinP (l : List Ak.Sv) : Ak.TwpE l := akTwin l fun a _ => akTws.1 a
end Go.Proofs.YtcnagbkdckipnaaGreatDoor
