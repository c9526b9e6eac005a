/-
  THE WALK over gimletlaw03.WordsPieces: of any two texts and any number.
-/
import Derived.Test.YtfbjkebinbemdaaDoorWdPiecesMath
namespace Go.Proofs.YtfbjkebinbemdaaDoor
open Go.RowKit Go.Shelf

/-- contracts at a text that is these characters -/
theorem length_tx (L : List Nat) (hL : ∀ r ∈ L, Rn.scal r) (w : World) (h : (Rn.cat L).length ≤ 4611686018427387904) :
    Calls Tryd.prog 10 #[.string (Rn.tx L)] w fun e w' => e = .returned (.int .i64 L.length) ∧ Below w.heap.size w w' := by
  have c := length_any (Rn.lf (Rn.cat L)) (Rn.cat L).length w (Rn.lf_lt _) h
  rw [Wd.R_cat L hL] at c
  exact c
theorem reverse_tx (L : List Nat) (hL : ∀ r ∈ L, Rn.scal r) (w : World) (h : (Rn.cat L).length ≤ 70368744177664) :
    Calls Tryd.prog 16 #[.string (Rn.tx L)] w fun e w' => e = .returned (.string (Rn.tx L.reverse)) ∧ Below w.heap.size w w' := by
  have c := reverse_any (Rn.lf (Rn.cat L)) (Rn.cat L).length w (Rn.lf_lt _) h
  rw [Wd.R_cat L hL] at c
  exact c

set_option maxRecDepth 100000 in
set_option maxHeartbeats 8000000 in
theorem lawPieces_any (l k : List UInt8) (z : Int) (w : World) (hT : Lib.Utf8Tabs 0 1 w) (hn : l.length ≤ 1073741824) (hm : k.length ≤ 1073741824) :
    Calls Tryd.prog 7 #[.string (Rn.arr (Rn.lf l) l.length), .string (Rn.arr (Rn.lf k) k.length), .int .i64 z] w fun e w' => e = .returned (.bool true) ∧ Below w.heap.size w w' := by
  have c0 := wAwake_any w hT
  have T : ∀ w1, Below w.heap.size w w1 → Lib.Utf8Tabs 0 1 w1 := fun w1 hb => tabs_below hT hb (Nat.le_refl _)
  have hf := Rn.lf_lt l
  have hg := Rn.lf_lt k
  have hL := Wd.R_scal (Rn.lf l) l.length 0 hf
  have hM := Wd.R_scal (Rn.lf k) k.length 0 hg
  have hl1 := Wd.R_length (Rn.lf l) l.length 0 hf
  have hl2 := Wd.R_length (Rn.lf k) k.length 0 hg
  have hc1 := Wd.cat_length (Wd.R (Rn.lf l) l.length 0)
  have hc2 := Wd.cat_length (Wd.R (Rn.lf k) k.length 0)
  have hLr : ∀ r ∈ (Wd.R (Rn.lf l) l.length 0).reverse, Rn.scal r := fun r hr => hL r (List.mem_reverse.1 hr)
  have hMr : ∀ r ∈ (Wd.R (Rn.lf k) k.length 0).reverse, Rn.scal r := fun r hr => hM r (List.mem_reverse.1 hr)
  have hc3 := Wd.cat_length (Wd.R (Rn.lf l) l.length 0).reverse
  have hc4 := Wd.cat_length (Wd.R (Rn.lf k) k.length 0).reverse
  rw [List.length_reverse] at hc3 hc4
  have cl := fun w1 => length_any (Rn.lf l) l.length w1 hf (by omega)
  have cw := fun w1 => sub_any (Rn.lf l) l.length 0 (Wd.R (Rn.lf l) l.length 0).length w1 hf (by omega) (by omega) (by omega) (by omega) (by omega)
  rw [Wd.sub_all] at cw
  have cS : ∀ (a b : Int) w1, 0 ≤ a → a ≤ 8589934592 → -1 ≤ b → b ≤ 8589934592 → _ := fun a b w1 h1 h2 h3 h4 => sub_any (Rn.lf l) l.length a b w1 hf (by omega) (by omega) (by omega) (by omega) (by omega)
  have cl2 := fun w1 => length_tx (Wd.R (Rn.lf l) l.length 0) hL w1 (by omega)
  have cv1 : ∀ w1, Below w.heap.size w w1 → _ := fun w1 hb => Tryd.utf8_ValidString (Rn.tx (Wd.R (Rn.lf l) l.length 0)) w1 (by rw [Wd.tx_size]; omega) (T w1 hb)
  rw [Wd.valid_tx _ hL] at cv1
  have cv2 : ∀ w1, Below w.heap.size w w1 → _ := fun w1 hb => Tryd.utf8_ValidString (Rn.arr (Rn.lf l) l.length) w1 (by rw [Rn.arr_size]; omega) (T w1 hb)
  rw [Wd.valid_gb _ _ hf] at cv2
  have hgv := Wd.gb_tx l
  have cr1 := fun w1 => reverse_any (Rn.lf l) l.length w1 hf (by omega)
  have cr2 := fun w1 => reverse_tx (Wd.R (Rn.lf l) l.length 0).reverse hLr w1 (by omega)
  rw [List.reverse_reverse] at cr2
  have crt := fun w1 => reverse_any (Rn.lf k) k.length w1 hg (by omega)
  have cc1 : ∀ w1, Below w.heap.size w w1 → _ := fun w1 hb => compare_any (Rn.lf l) l.length (Rn.lf (Rn.cat (Wd.R (Rn.lf l) l.length 0))) (Rn.cat (Wd.R (Rn.lf l) l.length 0)).length w1 hf (Rn.lf_lt _) (T w1 hb)
  have cu1 : ∀ w1, Below w.heap.size w w1 → _ := fun w1 hb => compareUnits_any (Rn.lf l) l.length (Rn.lf (Rn.cat (Wd.R (Rn.lf l) l.length 0))) (Rn.cat (Wd.R (Rn.lf l) l.length 0)).length w1 hf (Rn.lf_lt _) (T w1 hb)
  rw [Wd.R_cat _ hL, cmp_self] at cc1
  rw [Wd.R_cat _ hL, Wd.cmpU_self] at cu1
  have cf1 := fun w1 => find_any (Rn.lf l) l.length (Rn.lf (Rn.cat (Wd.R (Rn.lf l) l.length 0))) (Rn.cat (Wd.R (Rn.lf l) l.length 0)).length w1 hf (Rn.lf_lt _) (by omega) (by omega)
  rw [Wd.R_cat _ hL] at cf1
  have cf2 := fun w1 => find_any (Rn.lf l) l.length (Rn.lf k) k.length w1 hf hg (by omega) (by omega)
  have cl3 := fun w1 => length_any (Rn.lf k) k.length w1 hg (by omega)
  have ccA : ∀ w1, Below w.heap.size w w1 → _ := fun w1 hb => compare_any (Rn.lf (Rn.cat (Wd.R (Rn.lf k) k.length 0))) (Rn.cat (Wd.R (Rn.lf k) k.length 0)).length (Rn.lf k) k.length w1 (Rn.lf_lt _) hg (T w1 hb)
  rw [Wd.R_cat _ hM, cmp_self] at ccA
  have cfB : ∀ (P : List Nat) w1, (∀ r ∈ P, Rn.scal r) → (Rn.cat P).length ≤ 17592186044416 → _ := fun P w1 hP hb => find_any (Rn.lf (Rn.cat P)) (Rn.cat P).length (Rn.lf k) k.length w1 (Rn.lf_lt _) hg (by omega) (by omega)
  have cb : ∀ w1, Below w.heap.size w w1 → _ := fun w1 hb => wBegins_any (Rn.lf l) l.length (Rn.lf k) k.length w1 hf hg (T w1 hb)
  have ce : ∀ w1, Below w.heap.size w w1 → _ := fun w1 hb => ends_any (Rn.lf l) l.length (Rn.lf k) k.length w1 hf hg (by omega) (by omega) (T w1 hb)
  have cb2 : ∀ w1, Below w.heap.size w w1 → _ := fun w1 hb => wBegins_any (Rn.lf (Rn.cat (Wd.R (Rn.lf l) l.length 0).reverse)) (Rn.cat (Wd.R (Rn.lf l) l.length 0).reverse).length (Rn.lf (Rn.cat (Wd.R (Rn.lf k) k.length 0).reverse)) (Rn.cat (Wd.R (Rn.lf k) k.length 0).reverse).length w1 (Rn.lf_lt _) (Rn.lf_lt _) (T w1 hb)
  rw [Wd.R_cat _ hLr, Wd.R_cat _ hMr] at cb2
  have heb := Wd.ends_begins (Wd.R (Rn.lf l) l.length 0) (Wd.R (Rn.lf k) k.length 0)
  rw [heb] at ce
  change ∀ w1, Below w.heap.size w w1 → Calls Tryd.prog 18 #[.string (Rn.arr (Rn.lf l) l.length), .string (Rn.tx (Wd.R (Rn.lf l) l.length 0))] w1 _ at cc1
  change ∀ w1, Below w.heap.size w w1 → Calls Tryd.prog 20 #[.string (Rn.arr (Rn.lf l) l.length), .string (Rn.tx (Wd.R (Rn.lf l) l.length 0))] w1 _ at cu1
  change ∀ w1, Calls Tryd.prog 22 #[.string (Rn.arr (Rn.lf l) l.length), .string (Rn.tx (Wd.R (Rn.lf l) l.length 0))] w1 _ at cf1
  change ∀ w1, Below w.heap.size w w1 → Calls Tryd.prog 18 #[.string (Rn.tx (Wd.R (Rn.lf k) k.length 0)), .string (Rn.arr (Rn.lf k) k.length)] w1 _ at ccA
  change ∀ (P : List Nat) w1, (∀ r ∈ P, Rn.scal r) → (Rn.cat P).length ≤ 17592186044416 → Calls Tryd.prog 22 #[.string (Rn.tx P), .string (Rn.arr (Rn.lf k) k.length)] w1 _ at cfB
  change ∀ w1, Below w.heap.size w w1 → Calls Tryd.prog 24 #[.string (Rn.tx (Wd.R (Rn.lf l) l.length 0).reverse), .string (Rn.tx (Wd.R (Rn.lf k) k.length 0).reverse)] w1 _ at cb2
  clear hT T heb
  generalize Rn.arr (Rn.lf l) l.length = s at *
  generalize Rn.arr (Rn.lf k) k.length = t at *
  generalize Wd.gb (Rn.lf l) l.length l.length 0 = gv at *
  generalize Wd.R (Rn.lf l) l.length 0 = L at *
  generalize Wd.R (Rn.lf k) k.length 0 = M at *
  have hL0 : (0 : Int) ≤ L.length := by omega
  by_cases hz : z < 0
  · have hzi : z < 0 := hz
    obtain ⟨S1, hS1⟩ : ∃ S1, S1 = Rn.tx (Wd.sub L 0 0) := ⟨_, rfl⟩
    obtain ⟨S2, hS2⟩ : ∃ S2, S2 = Rn.tx (Wd.sub L 0 L.length) := ⟨_, rfl⟩
    have hS : S1 ++ S2 = Rn.tx L := by rw [hS1, hS2, Wd.tx_append, Wd.sub_zero, Wd.sub_all, List.nil_append]
    have hz1 : S1.size ≤ 4294967296 := by rw [hS1, Wd.tx_size]; have h1 := Wd.cat_length (Wd.sub L 0 0); have h2 : (Wd.sub L 0 0).length ≤ L.length := Wd.sub_length L _ _; omega
    have hz2 : S2.size ≤ 4294967296 := by rw [hS2, Wd.tx_size]; have h1 := Wd.cat_length (Wd.sub L 0 L.length); have h2 : (Wd.sub L 0 L.length).length ≤ L.length := Wd.sub_length L _ _; omega
    have cs1 := fun w1 => cS 0 0 w1 (by omega) (by omega) (by omega) (by omega)
    have cs2 := fun w1 => cS 0 L.length w1 (by omega) (by omega) (by omega) (by omega)
    rw [← hS1] at cs1
    rw [← hS2] at cs2
    clear hS1 hS2
    have hLL : ((L.length : Int) == (L.length : Int)) = true := by simp
    have htx : ((Rn.tx L).toList == (Rn.tx L).toList) = true := by simp
    go_enter Tryd.func7, Tryd.ntmps7
    go_wp2_with fail
    refine c0.mono ?_
    rintro e w0 ⟨rfl, hB0⟩
    go_wp2_with fail
    refine (cl w0).mono ?_
    rintro e w1 ⟨rfl, hb1⟩
    have hB1 := hB0.trans (hb1.mono hB0.size)
    go_wp2_with fail
    refine (cw w1).mono ?_
    rintro e w2 ⟨rfl, hb2⟩
    have hB2 := hB1.trans (hb2.mono hB1.size)
    go_wp2_with fail
    refine (cs1 w2).mono ?_
    rintro e w3 ⟨rfl, hb3⟩
    have hB3 := hB2.trans (hb3.mono hB2.size)
    go_wp2_with fail
    refine (cs2 w3).mono ?_
    rintro e w4 ⟨rfl, hb4⟩
    have hB4 := hB3.trans (hb4.mono hB3.size)
    clear hb1 hb2 hb3 hb4 hB0 hB1 hB2 hB3 c0 cl cw cs1 cs2
    go_wp2_with fail
    refine (cl2 w4).mono ?_
    rintro e w5 ⟨rfl, hb5⟩
    have hB5 := hB4.trans (hb5.mono hB4.size)
    go_wp2_with fail
    refine (cv1 w5 hB5).mono ?_
    rintro e w6 ⟨rfl, hb6⟩
    have hB6 := hB5.trans (hb6.mono hB5.size)
    go_wp2_with fail
    refine (cv2 w6 hB6).mono ?_
    rintro e w7 ⟨rfl, hb7⟩
    have hB7 := hB6.trans (hb7.mono hB6.size)
    clear hb5 hb6 hb7 hB4 hB5 hB6 cl2 cv1 cv2 hS
    have hgs : gv = true → ((Rn.tx L).toList == s.toList) = true := by
      intro h
      rw [hgv h]
      simp
    clear hgv
    have cr1' := cr1 w7
    cases gv
    all_goals
      first
        | (have hgt := hgs rfl)
        | skip
      clear hgs
      go_wp2_with fail
      refine cr1'.mono ?_
      rintro e w8 ⟨rfl, hb8⟩
      have hB8 := hB7.trans (hb8.mono hB7.size)
      go_wp2_with fail
      refine (cr2 w8).mono ?_
      rintro e w9 ⟨rfl, hb9⟩
      have hB9 := hB8.trans (hb9.mono hB8.size)
      clear hb8 hb9 hB7 hB8 cr2
      go_wp2_with fail
      refine (cc1 w9 hB9).mono ?_
      rintro e w10 ⟨rfl, hb10⟩
      have hB10 := hB9.trans (hb10.mono hB9.size)
      go_wp2_with fail
      refine (cu1 w10 hB10).mono ?_
      rintro e w11 ⟨rfl, hb11⟩
      have hB11 := hB10.trans (hb11.mono hB10.size)
      go_wp2_with fail
      refine (cf1 w11).mono ?_
      rintro e w12 ⟨⟨z1, rfl, hz1'⟩, hb12⟩
      obtain rfl := hz1'.uniq (Wd.find_self L)
      have hB12 := hB11.trans (hb12.mono hB11.size)
      clear hb10 hb11 hb12 hB9 hB10 hB11 cc1 cu1 cf1 hz1'
      go_wp2_with fail
      refine (cf2 w12).mono ?_
      rintro e w13 ⟨⟨zz, rfl, hzz⟩, hb13⟩
      have hB13 := hB12.trans (hb13.mono hB12.size)
      go_wp2_with fail
      refine (cl3 w13).mono ?_
      rintro e w14 ⟨rfl, hb14⟩
      have hB14 := hB13.trans (hb14.mono hB13.size)
      clear hb13 hb14 hB12 hB13 cf2 cl3
      have hbf := Wd.begins_find hzz
      rw [hbf] at cb
      clear hbf
      have HZ := hide' hzz
      clear hzz
      rcases HZ.out with ⟨h1, -⟩ | ⟨a, h1, a1, a2, a3⟩
      · subst h1
        clear cS ccA cfB HZ
        go_wp2_with fail
        refine (cb w14 hB14).mono ?_
        rintro e w15 ⟨rfl, hb15⟩
        have hB15 := hB14.trans (hb15.mono hB14.size)
        go_wp2_with fail
        refine (ce w15 hB15).mono ?_
        rintro e w16 ⟨⟨b16, rfl, hbb⟩, hb16⟩
        have hB16 := hB15.trans (hb16.mono hB15.size)
        have heq : b16 = decide ((Wd.fu L.reverse M.reverse).2 = -1) := by rw [Bool.eq_iff_iff, hbb]; simp
        rw [← heq] at cb2
        clear hbb heq
        go_wp2_with fail
        refine (cr1 w16).mono ?_
        rintro e w17 ⟨rfl, hb17⟩
        have hB17 := hB16.trans (hb17.mono hB16.size)
        go_wp2_with fail
        refine (crt w17).mono ?_
        rintro e w18 ⟨rfl, hb18⟩
        have hB18 := hB17.trans (hb18.mono hB17.size)
        go_wp2_with fail
        refine (cb2 w18 hB18).mono ?_
        rintro e w19 ⟨rfl, hb19⟩
        have hB19 := hB18.trans (hb19.mono hB18.size)
        go_wp2_with fail
        go_ret
        exact ⟨ret_bool (by simp), hB19⟩
      · subst h1
        have csA := fun w1 => cS a M.length w1 (by omega) (by omega) (by omega) (by omega)
        rw [Wd.sub_stands a1 a2] at csA
        have ha0 : (0 : Int) ≤ (a : Int) := by omega
        have ham : ¬ (L.length : Int) < (a : Int) + (M.length : Int) := by omega
        have ha9 : a ≤ 1073741824 := by omega
        have hm9 : M.length ≤ 1073741824 := by omega
        by_cases hp : 0 < a
        · have hpi : (0 : Int) < (a : Int) := by omega
          have csB := fun w1 => cS 0 ((a : Int) + M.length - 1) w1 (by omega) (by omega) (by omega) (by omega)
          obtain ⟨P, hP⟩ : ∃ P, P = Wd.sub L 0 ((a : Int) + M.length - 1) := ⟨_, rfl⟩
          rw [← hP] at csB
          have hPs : ∀ r ∈ P, Rn.scal r := by rw [hP]; exact Wd.sub_scal hL _ _
          have hPl : P.length ≤ L.length := by rw [hP]; simp [Wd.sub]; omega
          have hPc := Wd.cat_length P
          have cfB' := fun w1 => cfB P w1 hPs (by omega)
          rw [Wd.R_cat P hPs] at cfB'
          have hsoon : ∀ z', Wd.FIs (Wd.lg P) P.length (Wd.lg M) M.length z' → z' = -1 := by
            intro z' hz'
            rw [hP] at hz'
            exact Wd.find_sooner a1 hp a3 hz'
          clear cS cfB hP hPs hPl hPc HZ a1 a2 a3
          have ha1 : ((a : Int) == 0) = false := by simp; omega
          rw [ha1] at cb
          go_wp2_with fail
          refine (csA w14).mono ?_
          rintro e v1 ⟨rfl, hbv1⟩
          have hBv1 := hB14.trans (hbv1.mono hB14.size)
          go_wp2_with fail
          refine (ccA v1 hBv1).mono ?_
          rintro e v2 ⟨rfl, hbv2⟩
          have hBv2 := hBv1.trans (hbv2.mono hBv1.size)
          go_wp2_with fail
          refine (csB v2).mono ?_
          rintro e v3 ⟨rfl, hbv3⟩
          have hBv3 := hBv2.trans (hbv3.mono hBv2.size)
          go_wp2_with fail
          refine (cfB' v3).mono ?_
          rintro e v4 ⟨⟨z4, rfl, hz4⟩, hbv4⟩
          obtain rfl := hsoon z4 hz4
          have hBv4 := hBv3.trans (hbv4.mono hBv3.size)
          clear hz4 hsoon csA ccA csB cfB' hbv1 hbv2 hbv3 hbv4 hBv1 hBv2 hBv3 hB14
          go_wp2_with fail
          refine (cb v4 hBv4).mono ?_
          rintro e w15 ⟨rfl, hb15⟩
          have hB15 := hBv4.trans (hb15.mono hBv4.size)
          go_wp2_with fail
          refine (ce w15 hB15).mono ?_
          rintro e w16 ⟨⟨b16, rfl, hbb⟩, hb16⟩
          have hB16 := hB15.trans (hb16.mono hB15.size)
          have heq : b16 = decide ((Wd.fu L.reverse M.reverse).2 = -1) := by rw [Bool.eq_iff_iff, hbb]; simp
          rw [← heq] at cb2
          clear hbb heq
          go_wp2_with fail
          refine (cr1 w16).mono ?_
          rintro e w17 ⟨rfl, hb17⟩
          have hB17 := hB16.trans (hb17.mono hB16.size)
          go_wp2_with fail
          refine (crt w17).mono ?_
          rintro e w18 ⟨rfl, hb18⟩
          have hB18 := hB17.trans (hb18.mono hB17.size)
          go_wp2_with fail
          refine (cb2 w18 hB18).mono ?_
          rintro e w19 ⟨rfl, hb19⟩
          have hB19 := hB18.trans (hb19.mono hB18.size)
          go_wp2_with fail
          go_ret
          exact ⟨ret_bool (by simp), hB19⟩
        · obtain rfl : a = 0 := by omega
          clear cS cfB HZ a1 a2 a3 hp
          simp only [Int.natCast_zero, Int.zero_add] at csA cb ham ⊢
          rw [show ((0 : Int) == 0) = true from rfl] at cb
          go_wp2_with fail
          refine (csA w14).mono ?_
          rintro e v1 ⟨rfl, hbv1⟩
          have hBv1 := hB14.trans (hbv1.mono hB14.size)
          go_wp2_with fail
          refine (ccA v1 hBv1).mono ?_
          rintro e v2 ⟨rfl, hbv2⟩
          have hBv2 := hBv1.trans (hbv2.mono hBv1.size)
          clear csA ccA hbv1 hbv2 hBv1 hB14
          go_wp2_with fail
          refine (cb v2 hBv2).mono ?_
          rintro e w15 ⟨rfl, hb15⟩
          have hB15 := hBv2.trans (hb15.mono hBv2.size)
          go_wp2_with fail
          refine (ce w15 hB15).mono ?_
          rintro e w16 ⟨⟨b16, rfl, hbb⟩, hb16⟩
          have hB16 := hB15.trans (hb16.mono hB15.size)
          have heq : b16 = decide ((Wd.fu L.reverse M.reverse).2 = -1) := by rw [Bool.eq_iff_iff, hbb]; simp
          rw [← heq] at cb2
          clear hbb heq
          go_wp2_with fail
          refine (cr1 w16).mono ?_
          rintro e w17 ⟨rfl, hb17⟩
          have hB17 := hB16.trans (hb17.mono hB16.size)
          go_wp2_with fail
          refine (crt w17).mono ?_
          rintro e w18 ⟨rfl, hb18⟩
          have hB18 := hB17.trans (hb18.mono hB17.size)
          go_wp2_with fail
          refine (cb2 w18 hB18).mono ?_
          rintro e w19 ⟨rfl, hb19⟩
          have hB19 := hB18.trans (hb19.mono hB18.size)
          go_wp2_with fail
          go_ret
          exact ⟨ret_bool (by simp), hB19⟩
  · by_cases hz2 : (L.length : Int) < z
    · have hzi : ¬ z < 0 := hz
      obtain ⟨S1, hS1⟩ : ∃ S1, S1 = Rn.tx (Wd.sub L 0 0) := ⟨_, rfl⟩
      obtain ⟨S2, hS2⟩ : ∃ S2, S2 = Rn.tx (Wd.sub L 0 L.length) := ⟨_, rfl⟩
      have hS : S1 ++ S2 = Rn.tx L := by rw [hS1, hS2, Wd.tx_append, Wd.sub_zero, Wd.sub_all, List.nil_append]
      have hz1 : S1.size ≤ 4294967296 := by rw [hS1, Wd.tx_size]; have h1 := Wd.cat_length (Wd.sub L 0 0); have h2 : (Wd.sub L 0 0).length ≤ L.length := Wd.sub_length L _ _; omega
      have hz2 : S2.size ≤ 4294967296 := by rw [hS2, Wd.tx_size]; have h1 := Wd.cat_length (Wd.sub L 0 L.length); have h2 : (Wd.sub L 0 L.length).length ≤ L.length := Wd.sub_length L _ _; omega
      have cs1 := fun w1 => cS 0 0 w1 (by omega) (by omega) (by omega) (by omega)
      have cs2 := fun w1 => cS 0 L.length w1 (by omega) (by omega) (by omega) (by omega)
      rw [← hS1] at cs1
      rw [← hS2] at cs2
      clear hS1 hS2
      have hLL : ((L.length : Int) == (L.length : Int)) = true := by simp
      have htx : ((Rn.tx L).toList == (Rn.tx L).toList) = true := by simp
      go_enter Tryd.func7, Tryd.ntmps7
      go_wp2_with fail
      refine c0.mono ?_
      rintro e w0 ⟨rfl, hB0⟩
      go_wp2_with fail
      refine (cl w0).mono ?_
      rintro e w1 ⟨rfl, hb1⟩
      have hB1 := hB0.trans (hb1.mono hB0.size)
      go_wp2_with fail
      refine (cw w1).mono ?_
      rintro e w2 ⟨rfl, hb2⟩
      have hB2 := hB1.trans (hb2.mono hB1.size)
      go_wp2_with fail
      refine (cs1 w2).mono ?_
      rintro e w3 ⟨rfl, hb3⟩
      have hB3 := hB2.trans (hb3.mono hB2.size)
      go_wp2_with fail
      refine (cs2 w3).mono ?_
      rintro e w4 ⟨rfl, hb4⟩
      have hB4 := hB3.trans (hb4.mono hB3.size)
      clear hb1 hb2 hb3 hb4 hB0 hB1 hB2 hB3 c0 cl cw cs1 cs2
      go_wp2_with fail
      refine (cl2 w4).mono ?_
      rintro e w5 ⟨rfl, hb5⟩
      have hB5 := hB4.trans (hb5.mono hB4.size)
      go_wp2_with fail
      refine (cv1 w5 hB5).mono ?_
      rintro e w6 ⟨rfl, hb6⟩
      have hB6 := hB5.trans (hb6.mono hB5.size)
      go_wp2_with fail
      refine (cv2 w6 hB6).mono ?_
      rintro e w7 ⟨rfl, hb7⟩
      have hB7 := hB6.trans (hb7.mono hB6.size)
      clear hb5 hb6 hb7 hB4 hB5 hB6 cl2 cv1 cv2 hS
      have hgs : gv = true → ((Rn.tx L).toList == s.toList) = true := by
        intro h
        rw [hgv h]
        simp
      clear hgv
      have cr1' := cr1 w7
      cases gv
      all_goals
        first
          | (have hgt := hgs rfl)
          | skip
        clear hgs
        go_wp2_with fail
        refine cr1'.mono ?_
        rintro e w8 ⟨rfl, hb8⟩
        have hB8 := hB7.trans (hb8.mono hB7.size)
        go_wp2_with fail
        refine (cr2 w8).mono ?_
        rintro e w9 ⟨rfl, hb9⟩
        have hB9 := hB8.trans (hb9.mono hB8.size)
        clear hb8 hb9 hB7 hB8 cr2
        go_wp2_with fail
        refine (cc1 w9 hB9).mono ?_
        rintro e w10 ⟨rfl, hb10⟩
        have hB10 := hB9.trans (hb10.mono hB9.size)
        go_wp2_with fail
        refine (cu1 w10 hB10).mono ?_
        rintro e w11 ⟨rfl, hb11⟩
        have hB11 := hB10.trans (hb11.mono hB10.size)
        go_wp2_with fail
        refine (cf1 w11).mono ?_
        rintro e w12 ⟨⟨z1, rfl, hz1'⟩, hb12⟩
        obtain rfl := hz1'.uniq (Wd.find_self L)
        have hB12 := hB11.trans (hb12.mono hB11.size)
        clear hb10 hb11 hb12 hB9 hB10 hB11 cc1 cu1 cf1 hz1'
        go_wp2_with fail
        refine (cf2 w12).mono ?_
        rintro e w13 ⟨⟨zz, rfl, hzz⟩, hb13⟩
        have hB13 := hB12.trans (hb13.mono hB12.size)
        go_wp2_with fail
        refine (cl3 w13).mono ?_
        rintro e w14 ⟨rfl, hb14⟩
        have hB14 := hB13.trans (hb14.mono hB13.size)
        clear hb13 hb14 hB12 hB13 cf2 cl3
        have hbf := Wd.begins_find hzz
        rw [hbf] at cb
        clear hbf
        have HZ := hide' hzz
        clear hzz
        rcases HZ.out with ⟨h1, -⟩ | ⟨a, h1, a1, a2, a3⟩
        · subst h1
          clear cS ccA cfB HZ
          go_wp2_with fail
          refine (cb w14 hB14).mono ?_
          rintro e w15 ⟨rfl, hb15⟩
          have hB15 := hB14.trans (hb15.mono hB14.size)
          go_wp2_with fail
          refine (ce w15 hB15).mono ?_
          rintro e w16 ⟨⟨b16, rfl, hbb⟩, hb16⟩
          have hB16 := hB15.trans (hb16.mono hB15.size)
          have heq : b16 = decide ((Wd.fu L.reverse M.reverse).2 = -1) := by rw [Bool.eq_iff_iff, hbb]; simp
          rw [← heq] at cb2
          clear hbb heq
          go_wp2_with fail
          refine (cr1 w16).mono ?_
          rintro e w17 ⟨rfl, hb17⟩
          have hB17 := hB16.trans (hb17.mono hB16.size)
          go_wp2_with fail
          refine (crt w17).mono ?_
          rintro e w18 ⟨rfl, hb18⟩
          have hB18 := hB17.trans (hb18.mono hB17.size)
          go_wp2_with fail
          refine (cb2 w18 hB18).mono ?_
          rintro e w19 ⟨rfl, hb19⟩
          have hB19 := hB18.trans (hb19.mono hB18.size)
          go_wp2_with fail
          go_ret
          exact ⟨ret_bool (by simp), hB19⟩
        · subst h1
          have csA := fun w1 => cS a M.length w1 (by omega) (by omega) (by omega) (by omega)
          rw [Wd.sub_stands a1 a2] at csA
          have ha0 : (0 : Int) ≤ (a : Int) := by omega
          have ham : ¬ (L.length : Int) < (a : Int) + (M.length : Int) := by omega
          have ha9 : a ≤ 1073741824 := by omega
          have hm9 : M.length ≤ 1073741824 := by omega
          by_cases hp : 0 < a
          · have hpi : (0 : Int) < (a : Int) := by omega
            have csB := fun w1 => cS 0 ((a : Int) + M.length - 1) w1 (by omega) (by omega) (by omega) (by omega)
            obtain ⟨P, hP⟩ : ∃ P, P = Wd.sub L 0 ((a : Int) + M.length - 1) := ⟨_, rfl⟩
            rw [← hP] at csB
            have hPs : ∀ r ∈ P, Rn.scal r := by rw [hP]; exact Wd.sub_scal hL _ _
            have hPl : P.length ≤ L.length := by rw [hP]; simp [Wd.sub]; omega
            have hPc := Wd.cat_length P
            have cfB' := fun w1 => cfB P w1 hPs (by omega)
            rw [Wd.R_cat P hPs] at cfB'
            have hsoon : ∀ z', Wd.FIs (Wd.lg P) P.length (Wd.lg M) M.length z' → z' = -1 := by
              intro z' hz'
              rw [hP] at hz'
              exact Wd.find_sooner a1 hp a3 hz'
            clear cS cfB hP hPs hPl hPc HZ a1 a2 a3
            have ha1 : ((a : Int) == 0) = false := by simp; omega
            rw [ha1] at cb
            go_wp2_with fail
            refine (csA w14).mono ?_
            rintro e v1 ⟨rfl, hbv1⟩
            have hBv1 := hB14.trans (hbv1.mono hB14.size)
            go_wp2_with fail
            refine (ccA v1 hBv1).mono ?_
            rintro e v2 ⟨rfl, hbv2⟩
            have hBv2 := hBv1.trans (hbv2.mono hBv1.size)
            go_wp2_with fail
            refine (csB v2).mono ?_
            rintro e v3 ⟨rfl, hbv3⟩
            have hBv3 := hBv2.trans (hbv3.mono hBv2.size)
            go_wp2_with fail
            refine (cfB' v3).mono ?_
            rintro e v4 ⟨⟨z4, rfl, hz4⟩, hbv4⟩
            obtain rfl := hsoon z4 hz4
            have hBv4 := hBv3.trans (hbv4.mono hBv3.size)
            clear hz4 hsoon csA ccA csB cfB' hbv1 hbv2 hbv3 hbv4 hBv1 hBv2 hBv3 hB14
            go_wp2_with fail
            refine (cb v4 hBv4).mono ?_
            rintro e w15 ⟨rfl, hb15⟩
            have hB15 := hBv4.trans (hb15.mono hBv4.size)
            go_wp2_with fail
            refine (ce w15 hB15).mono ?_
            rintro e w16 ⟨⟨b16, rfl, hbb⟩, hb16⟩
            have hB16 := hB15.trans (hb16.mono hB15.size)
            have heq : b16 = decide ((Wd.fu L.reverse M.reverse).2 = -1) := by rw [Bool.eq_iff_iff, hbb]; simp
            rw [← heq] at cb2
            clear hbb heq
            go_wp2_with fail
            refine (cr1 w16).mono ?_
            rintro e w17 ⟨rfl, hb17⟩
            have hB17 := hB16.trans (hb17.mono hB16.size)
            go_wp2_with fail
            refine (crt w17).mono ?_
            rintro e w18 ⟨rfl, hb18⟩
            have hB18 := hB17.trans (hb18.mono hB17.size)
            go_wp2_with fail
            refine (cb2 w18 hB18).mono ?_
            rintro e w19 ⟨rfl, hb19⟩
            have hB19 := hB18.trans (hb19.mono hB18.size)
            go_wp2_with fail
            go_ret
            exact ⟨ret_bool (by simp), hB19⟩
          · obtain rfl : a = 0 := by omega
            clear cS cfB HZ a1 a2 a3 hp
            simp only [Int.natCast_zero, Int.zero_add] at csA cb ham ⊢
            rw [show ((0 : Int) == 0) = true from rfl] at cb
            go_wp2_with fail
            refine (csA w14).mono ?_
            rintro e v1 ⟨rfl, hbv1⟩
            have hBv1 := hB14.trans (hbv1.mono hB14.size)
            go_wp2_with fail
            refine (ccA v1 hBv1).mono ?_
            rintro e v2 ⟨rfl, hbv2⟩
            have hBv2 := hBv1.trans (hbv2.mono hBv1.size)
            clear csA ccA hbv1 hbv2 hBv1 hB14
            go_wp2_with fail
            refine (cb v2 hBv2).mono ?_
            rintro e w15 ⟨rfl, hb15⟩
            have hB15 := hBv2.trans (hb15.mono hBv2.size)
            go_wp2_with fail
            refine (ce w15 hB15).mono ?_
            rintro e w16 ⟨⟨b16, rfl, hbb⟩, hb16⟩
            have hB16 := hB15.trans (hb16.mono hB15.size)
            have heq : b16 = decide ((Wd.fu L.reverse M.reverse).2 = -1) := by rw [Bool.eq_iff_iff, hbb]; simp
            rw [← heq] at cb2
            clear hbb heq
            go_wp2_with fail
            refine (cr1 w16).mono ?_
            rintro e w17 ⟨rfl, hb17⟩
            have hB17 := hB16.trans (hb17.mono hB16.size)
            go_wp2_with fail
            refine (crt w17).mono ?_
            rintro e w18 ⟨rfl, hb18⟩
            have hB18 := hB17.trans (hb18.mono hB17.size)
            go_wp2_with fail
            refine (cb2 w18 hB18).mono ?_
            rintro e w19 ⟨rfl, hb19⟩
            have hB19 := hB18.trans (hb19.mono hB18.size)
            go_wp2_with fail
            go_ret
            exact ⟨ret_bool (by simp), hB19⟩
    · obtain ⟨kk, rfl⟩ : ∃ kk : Nat, z = kk := ⟨z.toNat, by omega⟩
      have hzi : ¬ (kk : Int) < 0 := hz
      have hzj : ¬ (L.length : Int) < (kk : Int) := hz2
      obtain ⟨S1, hS1⟩ : ∃ S1, S1 = Rn.tx (Wd.sub L 0 kk) := ⟨_, rfl⟩
      obtain ⟨S2, hS2⟩ : ∃ S2, S2 = Rn.tx (Wd.sub L kk L.length) := ⟨_, rfl⟩
      have hS : S1 ++ S2 = Rn.tx L := by rw [hS1, hS2, Wd.tx_append, Wd.sub_parts L kk]
      have hz1 : S1.size ≤ 4294967296 := by rw [hS1, Wd.tx_size]; have h1 := Wd.cat_length (Wd.sub L 0 kk); have h2 : (Wd.sub L 0 kk).length ≤ L.length := Wd.sub_length L _ _; omega
      have hz2 : S2.size ≤ 4294967296 := by rw [hS2, Wd.tx_size]; have h1 := Wd.cat_length (Wd.sub L kk L.length); have h2 : (Wd.sub L kk L.length).length ≤ L.length := Wd.sub_length L _ _; omega
      have cs1 := fun w1 => cS 0 kk w1 (by omega) (by omega) (by omega) (by omega)
      have cs2 := fun w1 => cS kk L.length w1 (by omega) (by omega) (by omega) (by omega)
      rw [← hS1] at cs1
      rw [← hS2] at cs2
      clear hS1 hS2
      have hLL : ((L.length : Int) == (L.length : Int)) = true := by simp
      have htx : ((Rn.tx L).toList == (Rn.tx L).toList) = true := by simp
      go_enter Tryd.func7, Tryd.ntmps7
      go_wp2_with fail
      refine c0.mono ?_
      rintro e w0 ⟨rfl, hB0⟩
      go_wp2_with fail
      refine (cl w0).mono ?_
      rintro e w1 ⟨rfl, hb1⟩
      have hB1 := hB0.trans (hb1.mono hB0.size)
      go_wp2_with fail
      refine (cw w1).mono ?_
      rintro e w2 ⟨rfl, hb2⟩
      have hB2 := hB1.trans (hb2.mono hB1.size)
      go_wp2_with fail
      refine (cs1 w2).mono ?_
      rintro e w3 ⟨rfl, hb3⟩
      have hB3 := hB2.trans (hb3.mono hB2.size)
      go_wp2_with fail
      refine (cs2 w3).mono ?_
      rintro e w4 ⟨rfl, hb4⟩
      have hB4 := hB3.trans (hb4.mono hB3.size)
      clear hb1 hb2 hb3 hb4 hB0 hB1 hB2 hB3 c0 cl cw cs1 cs2
      go_wp2_with fail
      refine (cl2 w4).mono ?_
      rintro e w5 ⟨rfl, hb5⟩
      have hB5 := hB4.trans (hb5.mono hB4.size)
      go_wp2_with fail
      refine (cv1 w5 hB5).mono ?_
      rintro e w6 ⟨rfl, hb6⟩
      have hB6 := hB5.trans (hb6.mono hB5.size)
      go_wp2_with fail
      refine (cv2 w6 hB6).mono ?_
      rintro e w7 ⟨rfl, hb7⟩
      have hB7 := hB6.trans (hb7.mono hB6.size)
      clear hb5 hb6 hb7 hB4 hB5 hB6 cl2 cv1 cv2 hS
      have hgs : gv = true → ((Rn.tx L).toList == s.toList) = true := by
        intro h
        rw [hgv h]
        simp
      clear hgv
      have cr1' := cr1 w7
      cases gv
      all_goals
        first
          | (have hgt := hgs rfl)
          | skip
        clear hgs
        go_wp2_with fail
        refine cr1'.mono ?_
        rintro e w8 ⟨rfl, hb8⟩
        have hB8 := hB7.trans (hb8.mono hB7.size)
        go_wp2_with fail
        refine (cr2 w8).mono ?_
        rintro e w9 ⟨rfl, hb9⟩
        have hB9 := hB8.trans (hb9.mono hB8.size)
        clear hb8 hb9 hB7 hB8 cr2
        go_wp2_with fail
        refine (cc1 w9 hB9).mono ?_
        rintro e w10 ⟨rfl, hb10⟩
        have hB10 := hB9.trans (hb10.mono hB9.size)
        go_wp2_with fail
        refine (cu1 w10 hB10).mono ?_
        rintro e w11 ⟨rfl, hb11⟩
        have hB11 := hB10.trans (hb11.mono hB10.size)
        go_wp2_with fail
        refine (cf1 w11).mono ?_
        rintro e w12 ⟨⟨z1, rfl, hz1'⟩, hb12⟩
        obtain rfl := hz1'.uniq (Wd.find_self L)
        have hB12 := hB11.trans (hb12.mono hB11.size)
        clear hb10 hb11 hb12 hB9 hB10 hB11 cc1 cu1 cf1 hz1'
        go_wp2_with fail
        refine (cf2 w12).mono ?_
        rintro e w13 ⟨⟨zz, rfl, hzz⟩, hb13⟩
        have hB13 := hB12.trans (hb13.mono hB12.size)
        go_wp2_with fail
        refine (cl3 w13).mono ?_
        rintro e w14 ⟨rfl, hb14⟩
        have hB14 := hB13.trans (hb14.mono hB13.size)
        clear hb13 hb14 hB12 hB13 cf2 cl3
        have hbf := Wd.begins_find hzz
        rw [hbf] at cb
        clear hbf
        have HZ := hide' hzz
        clear hzz
        rcases HZ.out with ⟨h1, -⟩ | ⟨a, h1, a1, a2, a3⟩
        · subst h1
          clear cS ccA cfB HZ
          go_wp2_with fail
          refine (cb w14 hB14).mono ?_
          rintro e w15 ⟨rfl, hb15⟩
          have hB15 := hB14.trans (hb15.mono hB14.size)
          go_wp2_with fail
          refine (ce w15 hB15).mono ?_
          rintro e w16 ⟨⟨b16, rfl, hbb⟩, hb16⟩
          have hB16 := hB15.trans (hb16.mono hB15.size)
          have heq : b16 = decide ((Wd.fu L.reverse M.reverse).2 = -1) := by rw [Bool.eq_iff_iff, hbb]; simp
          rw [← heq] at cb2
          clear hbb heq
          go_wp2_with fail
          refine (cr1 w16).mono ?_
          rintro e w17 ⟨rfl, hb17⟩
          have hB17 := hB16.trans (hb17.mono hB16.size)
          go_wp2_with fail
          refine (crt w17).mono ?_
          rintro e w18 ⟨rfl, hb18⟩
          have hB18 := hB17.trans (hb18.mono hB17.size)
          go_wp2_with fail
          refine (cb2 w18 hB18).mono ?_
          rintro e w19 ⟨rfl, hb19⟩
          have hB19 := hB18.trans (hb19.mono hB18.size)
          go_wp2_with fail
          go_ret
          exact ⟨ret_bool (by simp), hB19⟩
        · subst h1
          have csA := fun w1 => cS a M.length w1 (by omega) (by omega) (by omega) (by omega)
          rw [Wd.sub_stands a1 a2] at csA
          have ha0 : (0 : Int) ≤ (a : Int) := by omega
          have ham : ¬ (L.length : Int) < (a : Int) + (M.length : Int) := by omega
          have ha9 : a ≤ 1073741824 := by omega
          have hm9 : M.length ≤ 1073741824 := by omega
          by_cases hp : 0 < a
          · have hpi : (0 : Int) < (a : Int) := by omega
            have csB := fun w1 => cS 0 ((a : Int) + M.length - 1) w1 (by omega) (by omega) (by omega) (by omega)
            obtain ⟨P, hP⟩ : ∃ P, P = Wd.sub L 0 ((a : Int) + M.length - 1) := ⟨_, rfl⟩
            rw [← hP] at csB
            have hPs : ∀ r ∈ P, Rn.scal r := by rw [hP]; exact Wd.sub_scal hL _ _
            have hPl : P.length ≤ L.length := by rw [hP]; simp [Wd.sub]; omega
            have hPc := Wd.cat_length P
            have cfB' := fun w1 => cfB P w1 hPs (by omega)
            rw [Wd.R_cat P hPs] at cfB'
            have hsoon : ∀ z', Wd.FIs (Wd.lg P) P.length (Wd.lg M) M.length z' → z' = -1 := by
              intro z' hz'
              rw [hP] at hz'
              exact Wd.find_sooner a1 hp a3 hz'
            clear cS cfB hP hPs hPl hPc HZ a1 a2 a3
            have ha1 : ((a : Int) == 0) = false := by simp; omega
            rw [ha1] at cb
            go_wp2_with fail
            refine (csA w14).mono ?_
            rintro e v1 ⟨rfl, hbv1⟩
            have hBv1 := hB14.trans (hbv1.mono hB14.size)
            go_wp2_with fail
            refine (ccA v1 hBv1).mono ?_
            rintro e v2 ⟨rfl, hbv2⟩
            have hBv2 := hBv1.trans (hbv2.mono hBv1.size)
            go_wp2_with fail
            refine (csB v2).mono ?_
            rintro e v3 ⟨rfl, hbv3⟩
            have hBv3 := hBv2.trans (hbv3.mono hBv2.size)
            go_wp2_with fail
            refine (cfB' v3).mono ?_
            rintro e v4 ⟨⟨z4, rfl, hz4⟩, hbv4⟩
            obtain rfl := hsoon z4 hz4
            have hBv4 := hBv3.trans (hbv4.mono hBv3.size)
            clear hz4 hsoon csA ccA csB cfB' hbv1 hbv2 hbv3 hbv4 hBv1 hBv2 hBv3 hB14
            go_wp2_with fail
            refine (cb v4 hBv4).mono ?_
            rintro e w15 ⟨rfl, hb15⟩
            have hB15 := hBv4.trans (hb15.mono hBv4.size)
            go_wp2_with fail
            refine (ce w15 hB15).mono ?_
            rintro e w16 ⟨⟨b16, rfl, hbb⟩, hb16⟩
            have hB16 := hB15.trans (hb16.mono hB15.size)
            have heq : b16 = decide ((Wd.fu L.reverse M.reverse).2 = -1) := by rw [Bool.eq_iff_iff, hbb]; simp
            rw [← heq] at cb2
            clear hbb heq
            go_wp2_with fail
            refine (cr1 w16).mono ?_
            rintro e w17 ⟨rfl, hb17⟩
            have hB17 := hB16.trans (hb17.mono hB16.size)
            go_wp2_with fail
            refine (crt w17).mono ?_
            rintro e w18 ⟨rfl, hb18⟩
            have hB18 := hB17.trans (hb18.mono hB17.size)
            go_wp2_with fail
            refine (cb2 w18 hB18).mono ?_
            rintro e w19 ⟨rfl, hb19⟩
            have hB19 := hB18.trans (hb19.mono hB18.size)
            go_wp2_with fail
            go_ret
            exact ⟨ret_bool (by simp), hB19⟩
          · obtain rfl : a = 0 := by omega
            clear cS cfB HZ a1 a2 a3 hp
            simp only [Int.natCast_zero, Int.zero_add] at csA cb ham ⊢
            rw [show ((0 : Int) == 0) = true from rfl] at cb
            go_wp2_with fail
            refine (csA w14).mono ?_
            rintro e v1 ⟨rfl, hbv1⟩
            have hBv1 := hB14.trans (hbv1.mono hB14.size)
            go_wp2_with fail
            refine (ccA v1 hBv1).mono ?_
            rintro e v2 ⟨rfl, hbv2⟩
            have hBv2 := hBv1.trans (hbv2.mono hBv1.size)
            clear csA ccA hbv1 hbv2 hBv1 hB14
            go_wp2_with fail
            refine (cb v2 hBv2).mono ?_
            rintro e w15 ⟨rfl, hb15⟩
            have hB15 := hBv2.trans (hb15.mono hBv2.size)
            go_wp2_with fail
            refine (ce w15 hB15).mono ?_
            rintro e w16 ⟨⟨b16, rfl, hbb⟩, hb16⟩
            have hB16 := hB15.trans (hb16.mono hB15.size)
            have heq : b16 = decide ((Wd.fu L.reverse M.reverse).2 = -1) := by rw [Bool.eq_iff_iff, hbb]; simp
            rw [← heq] at cb2
            clear hbb heq
            go_wp2_with fail
            refine (cr1 w16).mono ?_
            rintro e w17 ⟨rfl, hb17⟩
            have hB17 := hB16.trans (hb17.mono hB16.size)
            go_wp2_with fail
            refine (crt w17).mono ?_
            rintro e w18 ⟨rfl, hb18⟩
            have hB18 := hB17.trans (hb18.mono hB17.size)
            go_wp2_with fail
            refine (cb2 w18 hB18).mono ?_
            rintro e w19 ⟨rfl, hb19⟩
            have hB19 := hB18.trans (hb19.mono hB18.size)
            go_wp2_with fail
            go_ret
            exact ⟨ret_bool (by simp), hB19⟩
end Go.Proofs.YtfbjkebinbemdaaDoor
