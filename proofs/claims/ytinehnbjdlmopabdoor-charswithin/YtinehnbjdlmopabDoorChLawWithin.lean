/-
  THE WALK over gimletlaw02.CharsWithin: at every rune.
-/
import Derived.Test.YtinehnbjdlmopabDoorChFix
import Derived.Test.YtinehnbjdlmopabDoorChValid
import Derived.Test.YtinehnbjdlmopabDoorRnJoin
import Derived.WideShapes
namespace Go.Proofs.YtinehnbjdlmopabDoor
open Go.RowKit Go.Lib Go.WideShapes

namespace Ch
/-- these characters against two classes -/
def clsL (d : Int) : Int → List Nat → Bool
  | _, [] => true
  | c, r :: L => isT tab c r && clsL d d L
theorem all_cat (d : Int) (l : List UInt8) : ∀ (L : List Nat), (∀ r ∈ L, Rn.scal r) → ∀ (A : List UInt8) (fuel : Nat) (c : Int), l = A ++ Rn.cat L → (Rn.cat L).length ≤ fuel →
    allFrom (Rn.lf l) l.length d fuel A.length c = clsL d c L ∧ V (Rn.lf l) l.length A.length = true
  | [], _, A, fuel, c, hl, _ => by
    have : l.length = A.length := by rw [hl]; simp [Rn.cat]
    exact ⟨allFrom_end _ _ _ _ _ _ (by omega), V_end _ _ _ (by omega)⟩
  | r :: L, hL, A, fuel, c, hl, hfu => by
    have hp := Rn.el_pos r
    rw [Rn.cat_cons] at hl hfu
    rw [List.length_append, Rn.enc_length] at hfu
    obtain ⟨m, rfl⟩ : ∃ m, fuel = m + 1 := ⟨fuel - 1, by omega⟩
    obtain ⟨hlen, h1, h2, h3⟩ := Rn.at_enc l A r L (hL r (by simp)) hl
    have ih := all_cat d l L (fun q hq => hL q (by simp [hq])) (A ++ encodeRune r) m d (by rw [hl]; simp) (by omega)
    rw [List.length_append, Rn.enc_length] at ih
    constructor
    · rw [allFrom_step _ _ _ _ _ _ (by omega), h3]
      simp only [clsL]
      rw [ih.1]
    · rw [V_step _ _ _ (Rn.lf_lt l) (by omega)]
      rw [if_neg]
      · rw [h3]; exact ih.2
      · rw [dec_wrong (Rn.off (Rn.lf l) A.length) (l.length - A.length) (fun _ => Rn.lf_lt l _) (by omega), h1]
        simp
theorem texts_tx (d c : Int) (L : List Nat) (hL : ∀ r ∈ L, Rn.scal r) : allFrom (Rn.lf (Rn.cat L)) (Rn.cat L).length d (Rn.cat L).length 0 c = clsL d c L ∧ valid (Rn.lf (Rn.cat L)) (Rn.cat L).length = true := by
  have h := all_cat d (Rn.cat L) L hL [] _ c rfl (Nat.le_refl _)
  exact ⟨h.1, by rw [← V_zero]; exact h.2⟩

/-- ranges in one another, ranges apart -/
def inB (a b : List (Nat × Nat)) : Bool := a.all fun p => b.any fun q => decide (q.1 ≤ p.1 ∧ p.2 ≤ q.2)
def apartB (a b : List (Nat × Nat)) : Bool := a.all fun p => b.all fun q => decide (p.2 < q.1 ∨ q.2 < p.1)
theorem isR_iff (l : List (Nat × Nat)) (r : Int) : isR l r = true ↔ ∃ p ∈ l, (p.1 : Int) ≤ r ∧ r ≤ (p.2 : Int) := by
  induction l with
  | nil => simp [isR]
  | cons x t ih =>
    unfold isR
    split
    · next h => simp [h]
    · next h =>
      rw [ih]
      simp [h]
theorem in_of {a b : List (Nat × Nat)} (h : inB a b = true) (r : Int) (hr : isR a r = true) : isR b r = true := by
  rw [isR_iff] at hr ⊢
  obtain ⟨p, hp, h1, h2⟩ := hr
  have := List.all_eq_true.1 h p hp
  obtain ⟨q, hq, hh⟩ := List.any_eq_true.1 this
  rw [decide_eq_true_eq] at hh
  exact ⟨q, hq, by omega, by omega⟩
theorem apart_of {a b : List (Nat × Nat)} (h : apartB a b = true) (r : Int) (hr : isR a r = true) : isR b r = false := by
  cases hb : isR b r
  · rfl
  · rw [isR_iff] at hr hb
    obtain ⟨p, hp, h1, h2⟩ := hr
    obtain ⟨q, hq, h3, h4⟩ := hb
    have := List.all_eq_true.1 (List.all_eq_true.1 h p hp) q hq
    rw [decide_eq_true_eq] at this
    omega
theorem is_rg (c r : Int) : isT tab c r = isR (rg c) r := isT_eq tab c r
theorem w23 (r : Int) (h : isT tab 2 r = true) : isT tab 3 r = true := by rw [is_rg] at h ⊢; exact in_of (by decide +kernel) r h
theorem w30 (r : Int) (h : isT tab 3 r = true) : isT tab 0 r = true := by rw [is_rg] at h ⊢; exact in_of (by decide +kernel) r h
theorem w45 (r : Int) (h : isT tab 4 r = true) : isT tab 5 r = true := by rw [is_rg] at h ⊢; exact in_of (by decide +kernel) r h
theorem w53 (r : Int) (h : isT tab 5 r = true) : isT tab 3 r = true := by rw [is_rg] at h ⊢; exact in_of (by decide +kernel) r h
theorem w10 (r : Int) (h : isT tab 1 r = true) : isT tab 0 r = true := by rw [is_rg] at h ⊢; exact in_of (by decide +kernel) r h
theorem w42 (r : Int) (h : isT tab 4 r = true) : isT tab 2 r = false := by rw [is_rg] at h ⊢; exact apart_of (by decide +kernel) r h
theorem w13 (r : Int) (h : isT tab 1 r = true) : isT tab 3 r = false := by rw [is_rg] at h ⊢; exact apart_of (by decide +kernel) r h
/-- an allowed character is a character -/
theorem allowed_scal (r : Int) (h : isT tab 0 r = true) : 0 ≤ r ∧ r ≤ 1114111 ∧ (r < 55296 ∨ 57343 < r) := by
  have h1 : isR [(55296, 57343)] r = false := by rw [is_rg] at h; exact apart_of (by decide +kernel) r h
  have h2 : isR [(0, 1114111)] r = true := by rw [is_rg] at h; exact in_of (by decide +kernel) r h
  simp only [isR] at h1 h2
  split at h1
  · cases h1
  · split at h2
    · omega
    · cases h2
theorem six_bool : ∀ b0 b1 b2 b3 b4 b5 : Bool, (b2 = true → b3 = true) → (b3 = true → b0 = true) → (b4 = true → b5 = true) → (b5 = true → b3 = true) → (b1 = true → b0 = true) → (b4 = true → b2 = false) → (b1 = true → b3 = false) →
    (b0 = false ∧ b1 = false ∧ b2 = false ∧ b3 = false ∧ b4 = false ∧ b5 = false) ∨
    (b0 = true ∧ b1 = true ∧ b2 = false ∧ b3 = false ∧ b4 = false ∧ b5 = false) ∨
    (b0 = true ∧ b1 = false ∧ b2 = false ∧ b3 = false ∧ b4 = false ∧ b5 = false) ∨
    (b0 = true ∧ b1 = false ∧ b2 = true ∧ b3 = true ∧ b4 = false ∧ b5 = false) ∨
    (b0 = true ∧ b1 = false ∧ b2 = true ∧ b3 = true ∧ b4 = false ∧ b5 = true) ∨
    (b0 = true ∧ b1 = false ∧ b2 = false ∧ b3 = true ∧ b4 = false ∧ b5 = false) ∨
    (b0 = true ∧ b1 = false ∧ b2 = false ∧ b3 = true ∧ b4 = false ∧ b5 = true) ∨
    (b0 = true ∧ b1 = false ∧ b2 = false ∧ b3 = true ∧ b4 = true ∧ b5 = true) := by
  intro b0 b1 b2 b3 b4 b5
  cases b0 <;> cases b1 <;> cases b2 <;> cases b3 <;> cases b4 <;> cases b5 <;> simp
/-- what the six classes can say of a rune -/
theorem six (r : Int) : (isT tab 0 r = false ∧ isT tab 1 r = false ∧ isT tab 2 r = false ∧ isT tab 3 r = false ∧ isT tab 4 r = false ∧ isT tab 5 r = false) ∨
    (isT tab 0 r = true ∧ isT tab 1 r = true ∧ isT tab 2 r = false ∧ isT tab 3 r = false ∧ isT tab 4 r = false ∧ isT tab 5 r = false) ∨
    (isT tab 0 r = true ∧ isT tab 1 r = false ∧ isT tab 2 r = false ∧ isT tab 3 r = false ∧ isT tab 4 r = false ∧ isT tab 5 r = false) ∨
    (isT tab 0 r = true ∧ isT tab 1 r = false ∧ isT tab 2 r = true ∧ isT tab 3 r = true ∧ isT tab 4 r = false ∧ isT tab 5 r = false) ∨
    (isT tab 0 r = true ∧ isT tab 1 r = false ∧ isT tab 2 r = true ∧ isT tab 3 r = true ∧ isT tab 4 r = false ∧ isT tab 5 r = true) ∨
    (isT tab 0 r = true ∧ isT tab 1 r = false ∧ isT tab 2 r = false ∧ isT tab 3 r = true ∧ isT tab 4 r = false ∧ isT tab 5 r = false) ∨
    (isT tab 0 r = true ∧ isT tab 1 r = false ∧ isT tab 2 r = false ∧ isT tab 3 r = true ∧ isT tab 4 r = false ∧ isT tab 5 r = true) ∨
    (isT tab 0 r = true ∧ isT tab 1 r = false ∧ isT tab 2 r = false ∧ isT tab 3 r = true ∧ isT tab 4 r = true ∧ isT tab 5 r = true) := by
  exact six_bool _ _ _ _ _ _ (w23 r) (w30 r) (w45 r) (w53 r) (w10 r) (w42 r) (w13 r)
end Ch
namespace Ch
theorem cat1 (x : Nat) : Rn.cat [x] = encodeRune x := by simp [Rn.cat]
theorem cat2 (x : Nat) : Rn.cat [97, x] = 97 :: encodeRune x := by
  rw [Rn.cat_cons, cat1]
  rw [show encodeRune ((97 : Nat) : Int) = [97] from by decide +kernel]
  rfl
end Ch

/-- an allowed character's text, and with an a ahead of it -/
theorem within_calls (r : Int) (w : World) (hS : Spans w) (hT : Lib.Utf8Tabs 1 2 w) (h : Ch.isT Ch.tab 0 r = true) :
    (runesBytes [r]).size ≤ 4 ∧
    (∀ w1, Below w.heap.size w w1 → Calls Tryd.prog 7 #[.string (runesBytes [r])] w1 fun e w' => e = .returned (.bool true) ∧ Below w1.heap.size w1 w') ∧
    (∀ w1, Below w.heap.size w w1 → Calls Tryd.prog 6 #[.string (runesBytes [r])] w1 fun e w' => e = .returned (.bool (Ch.isT Ch.tab 2 r)) ∧ Below w1.heap.size w1 w') ∧
    (∀ w1, Below w.heap.size w w1 → Calls Tryd.prog 6 #[.string (⟨#[97]⟩ ++ runesBytes [r])] w1 fun e w' => e = .returned (.bool (Ch.isT Ch.tab 3 r)) ∧ Below w1.heap.size w1 w') := by
  obtain ⟨h0, h1, h2⟩ := Ch.allowed_scal r h
  obtain ⟨x, rfl⟩ : ∃ x : Nat, r = x := ⟨r.toNat, by omega⟩
  have hsc : Rn.scal x := by unfold Rn.scal; omega
  have s1 : ∀ q ∈ [x], Rn.scal q := by simpa using hsc
  have s2 : ∀ q ∈ [97, x], Rn.scal q := by
    intro q hq
    simp at hq
    rcases hq with rfl | rfl
    · unfold Rn.scal; omega
    · exact hsc
  have hj : runesBytes [(x : Int)] = Rn.tx [x] := Rn.runesBytes_tx [x] s1
  have hp := Rn.el_pos x
  have l1 : (Rn.cat [x]).length = Rn.el x := by rw [Ch.cat1, Rn.enc_length]
  have l2 : (Rn.cat [97, x]).length = Rn.el x + 1 := by rw [Ch.cat2, List.length_cons, Rn.enc_length]
  have hj2 : (⟨#[97]⟩ : ByteArray) ++ runesBytes [(x : Int)] = Rn.tx [97, x] := by
    rw [hj]
    unfold Rn.tx
    rw [Rn.arr_lf, Rn.arr_lf, Ch.cat1, Ch.cat2]
    apply bytes_inj
    simp
  have t1 := Ch.texts_tx 0 0 [x] s1
  have t2 := Ch.texts_tx 3 2 [x] s1
  have t3 := Ch.texts_tx 3 2 [97, x] s2
  have e97 : Ch.isT Ch.tab 2 97 = true := by decide +kernel
  refine ⟨by rw [hj]; unfold Rn.tx; rw [Rn.arr_size]; omega, fun w1 hb => ?_, fun w1 hb => ?_, fun w1 hb => ?_⟩
  · have c := texts_any (Rn.lf (Rn.cat [x])) (Rn.cat [x]).length w1 (Rn.lf_lt _) (by omega) (hS.below hb (Nat.le_refl _)) (tabs_below hT hb (Nat.le_refl _))
    rw [t1.1, t1.2] at c
    simp only [Ch.clsL, h, Bool.and_self] at c
    rw [hj]
    exact c
  · have c := name_any (Rn.lf (Rn.cat [x])) (Rn.cat [x]).length w1 (Rn.lf_lt _) (by omega) (hS.below hb (Nat.le_refl _)) (tabs_below hT hb (Nat.le_refl _))
    rw [t2.1, t2.2, decide_eq_true (by omega)] at c
    simp only [Ch.clsL, Bool.and_self, Bool.and_true] at c
    rw [hj]
    exact c
  · have c := name_any (Rn.lf (Rn.cat [97, x])) (Rn.cat [97, x]).length w1 (Rn.lf_lt _) (by omega) (hS.below hb (Nat.le_refl _)) (tabs_below hT hb (Nat.le_refl _))
    rw [t3.1, t3.2, decide_eq_true (by omega)] at c
    have e : Ch.clsL 3 2 [97, x] = Ch.isT Ch.tab 3 x := by
      show (Ch.isT Ch.tab 2 97 && (Ch.isT Ch.tab 3 x && true)) = _
      rw [e97]
      simp
    rw [e] at c
    simp only [Bool.and_self, Bool.and_true] at c
    rw [hj2]
    exact c

set_option maxRecDepth 100000 in
set_option maxHeartbeats 4000000 in
theorem lawWithin_any (r : Int) (w : World) (hr0 : -2147483648 ≤ r) (hr1 : r ≤ 2147483647) (hS : Spans w) (hT : Lib.Utf8Tabs 1 2 w) :
    Calls Tryd.prog 4 #[.int .i32 r] w fun e w' => e = .returned (.bool true) ∧ Below w.heap.size w w' := by
  have cF := fixed_any w hS hT
  have cI : ∀ (c : Int) w1, Below w.heap.size w w1 → _ := fun c w1 hb => is_any c r w1 (hS.below hb (Nat.le_refl _))
  have c0 := cI 0
  have c1 := cI 1
  have c2 := cI 2
  have c3 := cI 3
  have c4 := cI 4
  have c5 := cI 5
  have h6 := Ch.six r
  have hal := Ch.allowed_scal r
  have hcs := within_calls r w hS hT
  clear hS hT cI
  generalize Ch.isT Ch.tab 0 r = b0 at *
  generalize Ch.isT Ch.tab 1 r = b1 at *
  generalize Ch.isT Ch.tab 2 r = b2 at *
  generalize Ch.isT Ch.tab 3 r = b3 at *
  generalize Ch.isT Ch.tab 4 r = b4 at *
  generalize Ch.isT Ch.tab 5 r = b5 at *
  rcases h6 with ⟨rfl, rfl, rfl, rfl, rfl, rfl⟩ | h6
  · clear hal hcs
    have hr : r < 0 ∨ 1114111 < r ∨ (0 ≤ r ∧ r < 55296) ∨ (55296 ≤ r ∧ r ≤ 57343) ∨ (57343 < r ∧ r ≤ 1114111) := by omega
    rcases hr with hr | hr | ⟨hr, hq⟩ | ⟨hr, hq⟩ | ⟨hr, hq⟩
    · skip
      go_enter Tryd.func4, Tryd.ntmps4
      go_wp2_with fail
      refine cF.mono ?_
      rintro e w1 ⟨rfl, hB1⟩
      go_wp2_with fail
      refine (c2 w1 hB1).mono ?_
      rintro e w2 ⟨rfl, hb2⟩
      have hB2 := hB1.trans (hb2.mono hB1.size)
      go_wp2_with fail
      refine (c3 w2 hB2).mono ?_
      rintro e w3 ⟨rfl, hb3⟩
      have hB3 := hB2.trans (hb3.mono hB2.size)
      go_wp2_with fail
      refine (c0 w3 hB3).mono ?_
      rintro e w4 ⟨rfl, hb4⟩
      have hB4 := hB3.trans (hb4.mono hB3.size)
      go_wp2_with fail
      refine (c4 w4 hB4).mono ?_
      rintro e w5 ⟨rfl, hb5⟩
      have hB5 := hB4.trans (hb5.mono hB4.size)
      go_wp2_with fail
      refine (c5 w5 hB5).mono ?_
      rintro e w6 ⟨rfl, hb6⟩
      have hB6 := hB5.trans (hb6.mono hB5.size)
      go_wp2_with fail
      refine (c1 w6 hB6).mono ?_
      rintro e w7 ⟨rfl, hb7⟩
      have hB7 := hB6.trans (hb7.mono hB6.size)
      go_wp2_with fail
      refine (join_any [r] w7.heap.size 0 1 _ (fun j hj => by
        have : j = 0 := by simpa using hj
        subst this
        simp)).mono ?_
      rintro e w8 ⟨rfl, rfl⟩
      go_wp2_with fail
      go_ret
      exact ⟨rfl, hB7.alloc hB7.size _⟩
    · skip
      have g1 : ¬ r < 0 := by omega
      go_enter Tryd.func4, Tryd.ntmps4
      go_wp2_with fail
      refine cF.mono ?_
      rintro e w1 ⟨rfl, hB1⟩
      go_wp2_with fail
      refine (c2 w1 hB1).mono ?_
      rintro e w2 ⟨rfl, hb2⟩
      have hB2 := hB1.trans (hb2.mono hB1.size)
      go_wp2_with fail
      refine (c3 w2 hB2).mono ?_
      rintro e w3 ⟨rfl, hb3⟩
      have hB3 := hB2.trans (hb3.mono hB2.size)
      go_wp2_with fail
      refine (c0 w3 hB3).mono ?_
      rintro e w4 ⟨rfl, hb4⟩
      have hB4 := hB3.trans (hb4.mono hB3.size)
      go_wp2_with fail
      refine (c4 w4 hB4).mono ?_
      rintro e w5 ⟨rfl, hb5⟩
      have hB5 := hB4.trans (hb5.mono hB4.size)
      go_wp2_with fail
      refine (c5 w5 hB5).mono ?_
      rintro e w6 ⟨rfl, hb6⟩
      have hB6 := hB5.trans (hb6.mono hB5.size)
      go_wp2_with fail
      refine (c1 w6 hB6).mono ?_
      rintro e w7 ⟨rfl, hb7⟩
      have hB7 := hB6.trans (hb7.mono hB6.size)
      go_wp2_with fail
      refine (join_any [r] w7.heap.size 0 1 _ (fun j hj => by
        have : j = 0 := by simpa using hj
        subst this
        simp)).mono ?_
      rintro e w8 ⟨rfl, rfl⟩
      go_wp2_with fail
      go_ret
      exact ⟨rfl, hB7.alloc hB7.size _⟩
    · skip
      have g1 : ¬ r < 0 := by omega
      have g2 : ¬ 1114111 < r := by omega
      have g3 : ¬ 55296 ≤ r := by omega
      go_enter Tryd.func4, Tryd.ntmps4
      go_wp2_with fail
      refine cF.mono ?_
      rintro e w1 ⟨rfl, hB1⟩
      go_wp2_with fail
      refine (c2 w1 hB1).mono ?_
      rintro e w2 ⟨rfl, hb2⟩
      have hB2 := hB1.trans (hb2.mono hB1.size)
      go_wp2_with fail
      refine (c3 w2 hB2).mono ?_
      rintro e w3 ⟨rfl, hb3⟩
      have hB3 := hB2.trans (hb3.mono hB2.size)
      go_wp2_with fail
      refine (c0 w3 hB3).mono ?_
      rintro e w4 ⟨rfl, hb4⟩
      have hB4 := hB3.trans (hb4.mono hB3.size)
      go_wp2_with fail
      refine (c4 w4 hB4).mono ?_
      rintro e w5 ⟨rfl, hb5⟩
      have hB5 := hB4.trans (hb5.mono hB4.size)
      go_wp2_with fail
      refine (c5 w5 hB5).mono ?_
      rintro e w6 ⟨rfl, hb6⟩
      have hB6 := hB5.trans (hb6.mono hB5.size)
      go_wp2_with fail
      refine (c1 w6 hB6).mono ?_
      rintro e w7 ⟨rfl, hb7⟩
      have hB7 := hB6.trans (hb7.mono hB6.size)
      go_wp2_with fail
      refine (join_any [r] w7.heap.size 0 1 _ (fun j hj => by
        have : j = 0 := by simpa using hj
        subst this
        simp)).mono ?_
      rintro e w8 ⟨rfl, rfl⟩
      go_wp2_with fail
      go_ret
      exact ⟨rfl, hB7.alloc hB7.size _⟩
    · skip
      have g1 : ¬ r < 0 := by omega
      have g2 : ¬ 1114111 < r := by omega
      go_enter Tryd.func4, Tryd.ntmps4
      go_wp2_with fail
      refine cF.mono ?_
      rintro e w1 ⟨rfl, hB1⟩
      go_wp2_with fail
      refine (c2 w1 hB1).mono ?_
      rintro e w2 ⟨rfl, hb2⟩
      have hB2 := hB1.trans (hb2.mono hB1.size)
      go_wp2_with fail
      refine (c3 w2 hB2).mono ?_
      rintro e w3 ⟨rfl, hb3⟩
      have hB3 := hB2.trans (hb3.mono hB2.size)
      go_wp2_with fail
      refine (c0 w3 hB3).mono ?_
      rintro e w4 ⟨rfl, hb4⟩
      have hB4 := hB3.trans (hb4.mono hB3.size)
      go_wp2_with fail
      refine (c4 w4 hB4).mono ?_
      rintro e w5 ⟨rfl, hb5⟩
      have hB5 := hB4.trans (hb5.mono hB4.size)
      go_wp2_with fail
      refine (c5 w5 hB5).mono ?_
      rintro e w6 ⟨rfl, hb6⟩
      have hB6 := hB5.trans (hb6.mono hB5.size)
      go_wp2_with fail
      refine (c1 w6 hB6).mono ?_
      rintro e w7 ⟨rfl, hb7⟩
      have hB7 := hB6.trans (hb7.mono hB6.size)
      go_wp2_with fail
      refine (join_any [r] w7.heap.size 0 1 _ (fun j hj => by
        have : j = 0 := by simpa using hj
        subst this
        simp)).mono ?_
      rintro e w8 ⟨rfl, rfl⟩
      go_wp2_with fail
      go_ret
      exact ⟨rfl, hB7.alloc hB7.size _⟩
    · skip
      have g1 : ¬ r < 0 := by omega
      have g2 : ¬ 1114111 < r := by omega
      have g3 : ¬ r ≤ 57343 := by omega
      have g4 : 55296 ≤ r := by omega
      go_enter Tryd.func4, Tryd.ntmps4
      go_wp2_with fail
      refine cF.mono ?_
      rintro e w1 ⟨rfl, hB1⟩
      go_wp2_with fail
      refine (c2 w1 hB1).mono ?_
      rintro e w2 ⟨rfl, hb2⟩
      have hB2 := hB1.trans (hb2.mono hB1.size)
      go_wp2_with fail
      refine (c3 w2 hB2).mono ?_
      rintro e w3 ⟨rfl, hb3⟩
      have hB3 := hB2.trans (hb3.mono hB2.size)
      go_wp2_with fail
      refine (c0 w3 hB3).mono ?_
      rintro e w4 ⟨rfl, hb4⟩
      have hB4 := hB3.trans (hb4.mono hB3.size)
      go_wp2_with fail
      refine (c4 w4 hB4).mono ?_
      rintro e w5 ⟨rfl, hb5⟩
      have hB5 := hB4.trans (hb5.mono hB4.size)
      go_wp2_with fail
      refine (c5 w5 hB5).mono ?_
      rintro e w6 ⟨rfl, hb6⟩
      have hB6 := hB5.trans (hb6.mono hB5.size)
      go_wp2_with fail
      refine (c1 w6 hB6).mono ?_
      rintro e w7 ⟨rfl, hb7⟩
      have hB7 := hB6.trans (hb7.mono hB6.size)
      go_wp2_with fail
      refine (join_any [r] w7.heap.size 0 1 _ (fun j hj => by
        have : j = 0 := by simpa using hj
        subst this
        simp)).mono ?_
      rintro e w8 ⟨rfl, rfl⟩
      go_wp2_with fail
      go_ret
      exact ⟨rfl, hB7.alloc hB7.size _⟩
  · obtain ⟨hb, -⟩ : b0 = true ∧ True := by
      rcases h6 with h | h | h | h | h | h | h <;> exact ⟨h.1, trivial⟩
    obtain ⟨h0, h1, h2⟩ := hal hb
    obtain ⟨hs4, d1, d2, d3⟩ := hcs hb
    have g1 : ¬ r < 0 := by omega
    have g2 : ¬ 1114111 < r := by omega
    have hr : r < 55296 ∨ (57343 < r ∧ 55296 ≤ r) := by omega
    have cJ : ∀ W : World, _ := fun W => join_any [r] W.heap.size 0 1 (W.alloc (.cells #[.int .i32 r] 21)) (fun j hj => by
      have : j = 0 := by simpa using hj
      subst this
      simp)
    clear hal hcs hb
    generalize runesBytes [r] = S at *
    have hs5 : ¬ (9223372036854775807 : Int) < 1 + (S.size : Int) := by omega
    have hs6 : ¬ (9223372036854775807 : Nat) < 1 + S.size := by omega
    rcases hr with hr | ⟨hr, hr'⟩
    · have g3 : ¬ 55296 ≤ r := by omega
      rcases h6 with ⟨rfl, rfl, rfl, rfl, rfl, rfl⟩ | ⟨rfl, rfl, rfl, rfl, rfl, rfl⟩ | ⟨rfl, rfl, rfl, rfl, rfl, rfl⟩ | ⟨rfl, rfl, rfl, rfl, rfl, rfl⟩ | ⟨rfl, rfl, rfl, rfl, rfl, rfl⟩ | ⟨rfl, rfl, rfl, rfl, rfl, rfl⟩ | ⟨rfl, rfl, rfl, rfl, rfl, rfl⟩
      · skip
        go_enter Tryd.func4, Tryd.ntmps4
        go_wp2_with fail
        refine cF.mono ?_
        rintro e w1 ⟨rfl, hB1⟩
        go_wp2_with fail
        refine (c2 w1 hB1).mono ?_
        rintro e w2 ⟨rfl, hb2⟩
        have hB2 := hB1.trans (hb2.mono hB1.size)
        go_wp2_with fail
        refine (c3 w2 hB2).mono ?_
        rintro e w3 ⟨rfl, hb3⟩
        have hB3 := hB2.trans (hb3.mono hB2.size)
        go_wp2_with fail
        refine (c0 w3 hB3).mono ?_
        rintro e w4 ⟨rfl, hb4⟩
        have hB4 := hB3.trans (hb4.mono hB3.size)
        go_wp2_with fail
        refine (c4 w4 hB4).mono ?_
        rintro e w5 ⟨rfl, hb5⟩
        have hB5 := hB4.trans (hb5.mono hB4.size)
        go_wp2_with fail
        refine (c5 w5 hB5).mono ?_
        rintro e w6 ⟨rfl, hb6⟩
        have hB6 := hB5.trans (hb6.mono hB5.size)
        go_wp2_with fail
        refine (c1 w6 hB6).mono ?_
        rintro e w7 ⟨rfl, hb7⟩
        have hB7 := hB6.trans (hb7.mono hB6.size)
        go_wp2_with fail
        refine (cJ w7).mono ?_
        rintro e w8 ⟨rfl, rfl⟩
        have hB8 := hB7.alloc hB7.size (.cells #[.int .i32 r] 21)
        go_wp2_with fail
        refine (d1 _ hB8).mono ?_
        rintro e w9 ⟨rfl, hb9⟩
        have hB9 := hB8.trans (hb9.mono hB8.size)
        go_wp2_with fail
        refine (d2 _ hB9).mono ?_
        rintro e v1 ⟨rfl, hv1⟩
        have hV1 := hB9.trans (hv1.mono hB9.size)
        go_wp2_with fail
        refine (d3 _ hV1).mono ?_
        rintro e v2 ⟨rfl, hv2⟩
        have hV2 := hV1.trans (hv2.mono hV1.size)
        go_wp2_with fail
        go_ret
        exact ⟨rfl, hV2⟩
      · skip
        go_enter Tryd.func4, Tryd.ntmps4
        go_wp2_with fail
        refine cF.mono ?_
        rintro e w1 ⟨rfl, hB1⟩
        go_wp2_with fail
        refine (c2 w1 hB1).mono ?_
        rintro e w2 ⟨rfl, hb2⟩
        have hB2 := hB1.trans (hb2.mono hB1.size)
        go_wp2_with fail
        refine (c3 w2 hB2).mono ?_
        rintro e w3 ⟨rfl, hb3⟩
        have hB3 := hB2.trans (hb3.mono hB2.size)
        go_wp2_with fail
        refine (c0 w3 hB3).mono ?_
        rintro e w4 ⟨rfl, hb4⟩
        have hB4 := hB3.trans (hb4.mono hB3.size)
        go_wp2_with fail
        refine (c4 w4 hB4).mono ?_
        rintro e w5 ⟨rfl, hb5⟩
        have hB5 := hB4.trans (hb5.mono hB4.size)
        go_wp2_with fail
        refine (c5 w5 hB5).mono ?_
        rintro e w6 ⟨rfl, hb6⟩
        have hB6 := hB5.trans (hb6.mono hB5.size)
        go_wp2_with fail
        refine (c1 w6 hB6).mono ?_
        rintro e w7 ⟨rfl, hb7⟩
        have hB7 := hB6.trans (hb7.mono hB6.size)
        go_wp2_with fail
        refine (cJ w7).mono ?_
        rintro e w8 ⟨rfl, rfl⟩
        have hB8 := hB7.alloc hB7.size (.cells #[.int .i32 r] 21)
        go_wp2_with fail
        refine (d1 _ hB8).mono ?_
        rintro e w9 ⟨rfl, hb9⟩
        have hB9 := hB8.trans (hb9.mono hB8.size)
        go_wp2_with fail
        refine (d2 _ hB9).mono ?_
        rintro e v1 ⟨rfl, hv1⟩
        have hV1 := hB9.trans (hv1.mono hB9.size)
        go_wp2_with fail
        refine (d3 _ hV1).mono ?_
        rintro e v2 ⟨rfl, hv2⟩
        have hV2 := hV1.trans (hv2.mono hV1.size)
        go_wp2_with fail
        go_ret
        exact ⟨rfl, hV2⟩
      · skip
        go_enter Tryd.func4, Tryd.ntmps4
        go_wp2_with fail
        refine cF.mono ?_
        rintro e w1 ⟨rfl, hB1⟩
        go_wp2_with fail
        refine (c2 w1 hB1).mono ?_
        rintro e w2 ⟨rfl, hb2⟩
        have hB2 := hB1.trans (hb2.mono hB1.size)
        go_wp2_with fail
        refine (c3 w2 hB2).mono ?_
        rintro e w3 ⟨rfl, hb3⟩
        have hB3 := hB2.trans (hb3.mono hB2.size)
        go_wp2_with fail
        refine (c0 w3 hB3).mono ?_
        rintro e w4 ⟨rfl, hb4⟩
        have hB4 := hB3.trans (hb4.mono hB3.size)
        go_wp2_with fail
        refine (c4 w4 hB4).mono ?_
        rintro e w5 ⟨rfl, hb5⟩
        have hB5 := hB4.trans (hb5.mono hB4.size)
        go_wp2_with fail
        refine (c5 w5 hB5).mono ?_
        rintro e w6 ⟨rfl, hb6⟩
        have hB6 := hB5.trans (hb6.mono hB5.size)
        go_wp2_with fail
        refine (c1 w6 hB6).mono ?_
        rintro e w7 ⟨rfl, hb7⟩
        have hB7 := hB6.trans (hb7.mono hB6.size)
        go_wp2_with fail
        refine (cJ w7).mono ?_
        rintro e w8 ⟨rfl, rfl⟩
        have hB8 := hB7.alloc hB7.size (.cells #[.int .i32 r] 21)
        go_wp2_with fail
        refine (d1 _ hB8).mono ?_
        rintro e w9 ⟨rfl, hb9⟩
        have hB9 := hB8.trans (hb9.mono hB8.size)
        go_wp2_with fail
        refine (d2 _ hB9).mono ?_
        rintro e v1 ⟨rfl, hv1⟩
        have hV1 := hB9.trans (hv1.mono hB9.size)
        go_wp2_with fail
        refine (d3 _ hV1).mono ?_
        rintro e v2 ⟨rfl, hv2⟩
        have hV2 := hV1.trans (hv2.mono hV1.size)
        go_wp2_with fail
        go_ret
        exact ⟨rfl, hV2⟩
      · skip
        go_enter Tryd.func4, Tryd.ntmps4
        go_wp2_with fail
        refine cF.mono ?_
        rintro e w1 ⟨rfl, hB1⟩
        go_wp2_with fail
        refine (c2 w1 hB1).mono ?_
        rintro e w2 ⟨rfl, hb2⟩
        have hB2 := hB1.trans (hb2.mono hB1.size)
        go_wp2_with fail
        refine (c3 w2 hB2).mono ?_
        rintro e w3 ⟨rfl, hb3⟩
        have hB3 := hB2.trans (hb3.mono hB2.size)
        go_wp2_with fail
        refine (c0 w3 hB3).mono ?_
        rintro e w4 ⟨rfl, hb4⟩
        have hB4 := hB3.trans (hb4.mono hB3.size)
        go_wp2_with fail
        refine (c4 w4 hB4).mono ?_
        rintro e w5 ⟨rfl, hb5⟩
        have hB5 := hB4.trans (hb5.mono hB4.size)
        go_wp2_with fail
        refine (c5 w5 hB5).mono ?_
        rintro e w6 ⟨rfl, hb6⟩
        have hB6 := hB5.trans (hb6.mono hB5.size)
        go_wp2_with fail
        refine (c1 w6 hB6).mono ?_
        rintro e w7 ⟨rfl, hb7⟩
        have hB7 := hB6.trans (hb7.mono hB6.size)
        go_wp2_with fail
        refine (cJ w7).mono ?_
        rintro e w8 ⟨rfl, rfl⟩
        have hB8 := hB7.alloc hB7.size (.cells #[.int .i32 r] 21)
        go_wp2_with fail
        refine (d1 _ hB8).mono ?_
        rintro e w9 ⟨rfl, hb9⟩
        have hB9 := hB8.trans (hb9.mono hB8.size)
        go_wp2_with fail
        refine (d2 _ hB9).mono ?_
        rintro e v1 ⟨rfl, hv1⟩
        have hV1 := hB9.trans (hv1.mono hB9.size)
        go_wp2_with fail
        refine (d3 _ hV1).mono ?_
        rintro e v2 ⟨rfl, hv2⟩
        have hV2 := hV1.trans (hv2.mono hV1.size)
        go_wp2_with fail
        go_ret
        exact ⟨rfl, hV2⟩
      · skip
        go_enter Tryd.func4, Tryd.ntmps4
        go_wp2_with fail
        refine cF.mono ?_
        rintro e w1 ⟨rfl, hB1⟩
        go_wp2_with fail
        refine (c2 w1 hB1).mono ?_
        rintro e w2 ⟨rfl, hb2⟩
        have hB2 := hB1.trans (hb2.mono hB1.size)
        go_wp2_with fail
        refine (c3 w2 hB2).mono ?_
        rintro e w3 ⟨rfl, hb3⟩
        have hB3 := hB2.trans (hb3.mono hB2.size)
        go_wp2_with fail
        refine (c0 w3 hB3).mono ?_
        rintro e w4 ⟨rfl, hb4⟩
        have hB4 := hB3.trans (hb4.mono hB3.size)
        go_wp2_with fail
        refine (c4 w4 hB4).mono ?_
        rintro e w5 ⟨rfl, hb5⟩
        have hB5 := hB4.trans (hb5.mono hB4.size)
        go_wp2_with fail
        refine (c5 w5 hB5).mono ?_
        rintro e w6 ⟨rfl, hb6⟩
        have hB6 := hB5.trans (hb6.mono hB5.size)
        go_wp2_with fail
        refine (c1 w6 hB6).mono ?_
        rintro e w7 ⟨rfl, hb7⟩
        have hB7 := hB6.trans (hb7.mono hB6.size)
        go_wp2_with fail
        refine (cJ w7).mono ?_
        rintro e w8 ⟨rfl, rfl⟩
        have hB8 := hB7.alloc hB7.size (.cells #[.int .i32 r] 21)
        go_wp2_with fail
        refine (d1 _ hB8).mono ?_
        rintro e w9 ⟨rfl, hb9⟩
        have hB9 := hB8.trans (hb9.mono hB8.size)
        go_wp2_with fail
        refine (d2 _ hB9).mono ?_
        rintro e v1 ⟨rfl, hv1⟩
        have hV1 := hB9.trans (hv1.mono hB9.size)
        go_wp2_with fail
        refine (d3 _ hV1).mono ?_
        rintro e v2 ⟨rfl, hv2⟩
        have hV2 := hV1.trans (hv2.mono hV1.size)
        go_wp2_with fail
        go_ret
        exact ⟨rfl, hV2⟩
      · skip
        go_enter Tryd.func4, Tryd.ntmps4
        go_wp2_with fail
        refine cF.mono ?_
        rintro e w1 ⟨rfl, hB1⟩
        go_wp2_with fail
        refine (c2 w1 hB1).mono ?_
        rintro e w2 ⟨rfl, hb2⟩
        have hB2 := hB1.trans (hb2.mono hB1.size)
        go_wp2_with fail
        refine (c3 w2 hB2).mono ?_
        rintro e w3 ⟨rfl, hb3⟩
        have hB3 := hB2.trans (hb3.mono hB2.size)
        go_wp2_with fail
        refine (c0 w3 hB3).mono ?_
        rintro e w4 ⟨rfl, hb4⟩
        have hB4 := hB3.trans (hb4.mono hB3.size)
        go_wp2_with fail
        refine (c4 w4 hB4).mono ?_
        rintro e w5 ⟨rfl, hb5⟩
        have hB5 := hB4.trans (hb5.mono hB4.size)
        go_wp2_with fail
        refine (c5 w5 hB5).mono ?_
        rintro e w6 ⟨rfl, hb6⟩
        have hB6 := hB5.trans (hb6.mono hB5.size)
        go_wp2_with fail
        refine (c1 w6 hB6).mono ?_
        rintro e w7 ⟨rfl, hb7⟩
        have hB7 := hB6.trans (hb7.mono hB6.size)
        go_wp2_with fail
        refine (cJ w7).mono ?_
        rintro e w8 ⟨rfl, rfl⟩
        have hB8 := hB7.alloc hB7.size (.cells #[.int .i32 r] 21)
        go_wp2_with fail
        refine (d1 _ hB8).mono ?_
        rintro e w9 ⟨rfl, hb9⟩
        have hB9 := hB8.trans (hb9.mono hB8.size)
        go_wp2_with fail
        refine (d2 _ hB9).mono ?_
        rintro e v1 ⟨rfl, hv1⟩
        have hV1 := hB9.trans (hv1.mono hB9.size)
        go_wp2_with fail
        refine (d3 _ hV1).mono ?_
        rintro e v2 ⟨rfl, hv2⟩
        have hV2 := hV1.trans (hv2.mono hV1.size)
        go_wp2_with fail
        go_ret
        exact ⟨rfl, hV2⟩
      · skip
        go_enter Tryd.func4, Tryd.ntmps4
        go_wp2_with fail
        refine cF.mono ?_
        rintro e w1 ⟨rfl, hB1⟩
        go_wp2_with fail
        refine (c2 w1 hB1).mono ?_
        rintro e w2 ⟨rfl, hb2⟩
        have hB2 := hB1.trans (hb2.mono hB1.size)
        go_wp2_with fail
        refine (c3 w2 hB2).mono ?_
        rintro e w3 ⟨rfl, hb3⟩
        have hB3 := hB2.trans (hb3.mono hB2.size)
        go_wp2_with fail
        refine (c0 w3 hB3).mono ?_
        rintro e w4 ⟨rfl, hb4⟩
        have hB4 := hB3.trans (hb4.mono hB3.size)
        go_wp2_with fail
        refine (c4 w4 hB4).mono ?_
        rintro e w5 ⟨rfl, hb5⟩
        have hB5 := hB4.trans (hb5.mono hB4.size)
        go_wp2_with fail
        refine (c5 w5 hB5).mono ?_
        rintro e w6 ⟨rfl, hb6⟩
        have hB6 := hB5.trans (hb6.mono hB5.size)
        go_wp2_with fail
        refine (c1 w6 hB6).mono ?_
        rintro e w7 ⟨rfl, hb7⟩
        have hB7 := hB6.trans (hb7.mono hB6.size)
        go_wp2_with fail
        refine (cJ w7).mono ?_
        rintro e w8 ⟨rfl, rfl⟩
        have hB8 := hB7.alloc hB7.size (.cells #[.int .i32 r] 21)
        go_wp2_with fail
        refine (d1 _ hB8).mono ?_
        rintro e w9 ⟨rfl, hb9⟩
        have hB9 := hB8.trans (hb9.mono hB8.size)
        go_wp2_with fail
        refine (d2 _ hB9).mono ?_
        rintro e v1 ⟨rfl, hv1⟩
        have hV1 := hB9.trans (hv1.mono hB9.size)
        go_wp2_with fail
        refine (d3 _ hV1).mono ?_
        rintro e v2 ⟨rfl, hv2⟩
        have hV2 := hV1.trans (hv2.mono hV1.size)
        go_wp2_with fail
        go_ret
        exact ⟨rfl, hV2⟩
    · have g3 : ¬ r ≤ 57343 := by omega
      rcases h6 with ⟨rfl, rfl, rfl, rfl, rfl, rfl⟩ | ⟨rfl, rfl, rfl, rfl, rfl, rfl⟩ | ⟨rfl, rfl, rfl, rfl, rfl, rfl⟩ | ⟨rfl, rfl, rfl, rfl, rfl, rfl⟩ | ⟨rfl, rfl, rfl, rfl, rfl, rfl⟩ | ⟨rfl, rfl, rfl, rfl, rfl, rfl⟩ | ⟨rfl, rfl, rfl, rfl, rfl, rfl⟩
      · skip
        go_enter Tryd.func4, Tryd.ntmps4
        go_wp2_with fail
        refine cF.mono ?_
        rintro e w1 ⟨rfl, hB1⟩
        go_wp2_with fail
        refine (c2 w1 hB1).mono ?_
        rintro e w2 ⟨rfl, hb2⟩
        have hB2 := hB1.trans (hb2.mono hB1.size)
        go_wp2_with fail
        refine (c3 w2 hB2).mono ?_
        rintro e w3 ⟨rfl, hb3⟩
        have hB3 := hB2.trans (hb3.mono hB2.size)
        go_wp2_with fail
        refine (c0 w3 hB3).mono ?_
        rintro e w4 ⟨rfl, hb4⟩
        have hB4 := hB3.trans (hb4.mono hB3.size)
        go_wp2_with fail
        refine (c4 w4 hB4).mono ?_
        rintro e w5 ⟨rfl, hb5⟩
        have hB5 := hB4.trans (hb5.mono hB4.size)
        go_wp2_with fail
        refine (c5 w5 hB5).mono ?_
        rintro e w6 ⟨rfl, hb6⟩
        have hB6 := hB5.trans (hb6.mono hB5.size)
        go_wp2_with fail
        refine (c1 w6 hB6).mono ?_
        rintro e w7 ⟨rfl, hb7⟩
        have hB7 := hB6.trans (hb7.mono hB6.size)
        go_wp2_with fail
        refine (cJ w7).mono ?_
        rintro e w8 ⟨rfl, rfl⟩
        have hB8 := hB7.alloc hB7.size (.cells #[.int .i32 r] 21)
        go_wp2_with fail
        refine (d1 _ hB8).mono ?_
        rintro e w9 ⟨rfl, hb9⟩
        have hB9 := hB8.trans (hb9.mono hB8.size)
        go_wp2_with fail
        refine (d2 _ hB9).mono ?_
        rintro e v1 ⟨rfl, hv1⟩
        have hV1 := hB9.trans (hv1.mono hB9.size)
        go_wp2_with fail
        refine (d3 _ hV1).mono ?_
        rintro e v2 ⟨rfl, hv2⟩
        have hV2 := hV1.trans (hv2.mono hV1.size)
        go_wp2_with fail
        go_ret
        exact ⟨rfl, hV2⟩
      · skip
        go_enter Tryd.func4, Tryd.ntmps4
        go_wp2_with fail
        refine cF.mono ?_
        rintro e w1 ⟨rfl, hB1⟩
        go_wp2_with fail
        refine (c2 w1 hB1).mono ?_
        rintro e w2 ⟨rfl, hb2⟩
        have hB2 := hB1.trans (hb2.mono hB1.size)
        go_wp2_with fail
        refine (c3 w2 hB2).mono ?_
        rintro e w3 ⟨rfl, hb3⟩
        have hB3 := hB2.trans (hb3.mono hB2.size)
        go_wp2_with fail
        refine (c0 w3 hB3).mono ?_
        rintro e w4 ⟨rfl, hb4⟩
        have hB4 := hB3.trans (hb4.mono hB3.size)
        go_wp2_with fail
        refine (c4 w4 hB4).mono ?_
        rintro e w5 ⟨rfl, hb5⟩
        have hB5 := hB4.trans (hb5.mono hB4.size)
        go_wp2_with fail
        refine (c5 w5 hB5).mono ?_
        rintro e w6 ⟨rfl, hb6⟩
        have hB6 := hB5.trans (hb6.mono hB5.size)
        go_wp2_with fail
        refine (c1 w6 hB6).mono ?_
        rintro e w7 ⟨rfl, hb7⟩
        have hB7 := hB6.trans (hb7.mono hB6.size)
        go_wp2_with fail
        refine (cJ w7).mono ?_
        rintro e w8 ⟨rfl, rfl⟩
        have hB8 := hB7.alloc hB7.size (.cells #[.int .i32 r] 21)
        go_wp2_with fail
        refine (d1 _ hB8).mono ?_
        rintro e w9 ⟨rfl, hb9⟩
        have hB9 := hB8.trans (hb9.mono hB8.size)
        go_wp2_with fail
        refine (d2 _ hB9).mono ?_
        rintro e v1 ⟨rfl, hv1⟩
        have hV1 := hB9.trans (hv1.mono hB9.size)
        go_wp2_with fail
        refine (d3 _ hV1).mono ?_
        rintro e v2 ⟨rfl, hv2⟩
        have hV2 := hV1.trans (hv2.mono hV1.size)
        go_wp2_with fail
        go_ret
        exact ⟨rfl, hV2⟩
      · skip
        go_enter Tryd.func4, Tryd.ntmps4
        go_wp2_with fail
        refine cF.mono ?_
        rintro e w1 ⟨rfl, hB1⟩
        go_wp2_with fail
        refine (c2 w1 hB1).mono ?_
        rintro e w2 ⟨rfl, hb2⟩
        have hB2 := hB1.trans (hb2.mono hB1.size)
        go_wp2_with fail
        refine (c3 w2 hB2).mono ?_
        rintro e w3 ⟨rfl, hb3⟩
        have hB3 := hB2.trans (hb3.mono hB2.size)
        go_wp2_with fail
        refine (c0 w3 hB3).mono ?_
        rintro e w4 ⟨rfl, hb4⟩
        have hB4 := hB3.trans (hb4.mono hB3.size)
        go_wp2_with fail
        refine (c4 w4 hB4).mono ?_
        rintro e w5 ⟨rfl, hb5⟩
        have hB5 := hB4.trans (hb5.mono hB4.size)
        go_wp2_with fail
        refine (c5 w5 hB5).mono ?_
        rintro e w6 ⟨rfl, hb6⟩
        have hB6 := hB5.trans (hb6.mono hB5.size)
        go_wp2_with fail
        refine (c1 w6 hB6).mono ?_
        rintro e w7 ⟨rfl, hb7⟩
        have hB7 := hB6.trans (hb7.mono hB6.size)
        go_wp2_with fail
        refine (cJ w7).mono ?_
        rintro e w8 ⟨rfl, rfl⟩
        have hB8 := hB7.alloc hB7.size (.cells #[.int .i32 r] 21)
        go_wp2_with fail
        refine (d1 _ hB8).mono ?_
        rintro e w9 ⟨rfl, hb9⟩
        have hB9 := hB8.trans (hb9.mono hB8.size)
        go_wp2_with fail
        refine (d2 _ hB9).mono ?_
        rintro e v1 ⟨rfl, hv1⟩
        have hV1 := hB9.trans (hv1.mono hB9.size)
        go_wp2_with fail
        refine (d3 _ hV1).mono ?_
        rintro e v2 ⟨rfl, hv2⟩
        have hV2 := hV1.trans (hv2.mono hV1.size)
        go_wp2_with fail
        go_ret
        exact ⟨rfl, hV2⟩
      · skip
        go_enter Tryd.func4, Tryd.ntmps4
        go_wp2_with fail
        refine cF.mono ?_
        rintro e w1 ⟨rfl, hB1⟩
        go_wp2_with fail
        refine (c2 w1 hB1).mono ?_
        rintro e w2 ⟨rfl, hb2⟩
        have hB2 := hB1.trans (hb2.mono hB1.size)
        go_wp2_with fail
        refine (c3 w2 hB2).mono ?_
        rintro e w3 ⟨rfl, hb3⟩
        have hB3 := hB2.trans (hb3.mono hB2.size)
        go_wp2_with fail
        refine (c0 w3 hB3).mono ?_
        rintro e w4 ⟨rfl, hb4⟩
        have hB4 := hB3.trans (hb4.mono hB3.size)
        go_wp2_with fail
        refine (c4 w4 hB4).mono ?_
        rintro e w5 ⟨rfl, hb5⟩
        have hB5 := hB4.trans (hb5.mono hB4.size)
        go_wp2_with fail
        refine (c5 w5 hB5).mono ?_
        rintro e w6 ⟨rfl, hb6⟩
        have hB6 := hB5.trans (hb6.mono hB5.size)
        go_wp2_with fail
        refine (c1 w6 hB6).mono ?_
        rintro e w7 ⟨rfl, hb7⟩
        have hB7 := hB6.trans (hb7.mono hB6.size)
        go_wp2_with fail
        refine (cJ w7).mono ?_
        rintro e w8 ⟨rfl, rfl⟩
        have hB8 := hB7.alloc hB7.size (.cells #[.int .i32 r] 21)
        go_wp2_with fail
        refine (d1 _ hB8).mono ?_
        rintro e w9 ⟨rfl, hb9⟩
        have hB9 := hB8.trans (hb9.mono hB8.size)
        go_wp2_with fail
        refine (d2 _ hB9).mono ?_
        rintro e v1 ⟨rfl, hv1⟩
        have hV1 := hB9.trans (hv1.mono hB9.size)
        go_wp2_with fail
        refine (d3 _ hV1).mono ?_
        rintro e v2 ⟨rfl, hv2⟩
        have hV2 := hV1.trans (hv2.mono hV1.size)
        go_wp2_with fail
        go_ret
        exact ⟨rfl, hV2⟩
      · skip
        go_enter Tryd.func4, Tryd.ntmps4
        go_wp2_with fail
        refine cF.mono ?_
        rintro e w1 ⟨rfl, hB1⟩
        go_wp2_with fail
        refine (c2 w1 hB1).mono ?_
        rintro e w2 ⟨rfl, hb2⟩
        have hB2 := hB1.trans (hb2.mono hB1.size)
        go_wp2_with fail
        refine (c3 w2 hB2).mono ?_
        rintro e w3 ⟨rfl, hb3⟩
        have hB3 := hB2.trans (hb3.mono hB2.size)
        go_wp2_with fail
        refine (c0 w3 hB3).mono ?_
        rintro e w4 ⟨rfl, hb4⟩
        have hB4 := hB3.trans (hb4.mono hB3.size)
        go_wp2_with fail
        refine (c4 w4 hB4).mono ?_
        rintro e w5 ⟨rfl, hb5⟩
        have hB5 := hB4.trans (hb5.mono hB4.size)
        go_wp2_with fail
        refine (c5 w5 hB5).mono ?_
        rintro e w6 ⟨rfl, hb6⟩
        have hB6 := hB5.trans (hb6.mono hB5.size)
        go_wp2_with fail
        refine (c1 w6 hB6).mono ?_
        rintro e w7 ⟨rfl, hb7⟩
        have hB7 := hB6.trans (hb7.mono hB6.size)
        go_wp2_with fail
        refine (cJ w7).mono ?_
        rintro e w8 ⟨rfl, rfl⟩
        have hB8 := hB7.alloc hB7.size (.cells #[.int .i32 r] 21)
        go_wp2_with fail
        refine (d1 _ hB8).mono ?_
        rintro e w9 ⟨rfl, hb9⟩
        have hB9 := hB8.trans (hb9.mono hB8.size)
        go_wp2_with fail
        refine (d2 _ hB9).mono ?_
        rintro e v1 ⟨rfl, hv1⟩
        have hV1 := hB9.trans (hv1.mono hB9.size)
        go_wp2_with fail
        refine (d3 _ hV1).mono ?_
        rintro e v2 ⟨rfl, hv2⟩
        have hV2 := hV1.trans (hv2.mono hV1.size)
        go_wp2_with fail
        go_ret
        exact ⟨rfl, hV2⟩
      · skip
        go_enter Tryd.func4, Tryd.ntmps4
        go_wp2_with fail
        refine cF.mono ?_
        rintro e w1 ⟨rfl, hB1⟩
        go_wp2_with fail
        refine (c2 w1 hB1).mono ?_
        rintro e w2 ⟨rfl, hb2⟩
        have hB2 := hB1.trans (hb2.mono hB1.size)
        go_wp2_with fail
        refine (c3 w2 hB2).mono ?_
        rintro e w3 ⟨rfl, hb3⟩
        have hB3 := hB2.trans (hb3.mono hB2.size)
        go_wp2_with fail
        refine (c0 w3 hB3).mono ?_
        rintro e w4 ⟨rfl, hb4⟩
        have hB4 := hB3.trans (hb4.mono hB3.size)
        go_wp2_with fail
        refine (c4 w4 hB4).mono ?_
        rintro e w5 ⟨rfl, hb5⟩
        have hB5 := hB4.trans (hb5.mono hB4.size)
        go_wp2_with fail
        refine (c5 w5 hB5).mono ?_
        rintro e w6 ⟨rfl, hb6⟩
        have hB6 := hB5.trans (hb6.mono hB5.size)
        go_wp2_with fail
        refine (c1 w6 hB6).mono ?_
        rintro e w7 ⟨rfl, hb7⟩
        have hB7 := hB6.trans (hb7.mono hB6.size)
        go_wp2_with fail
        refine (cJ w7).mono ?_
        rintro e w8 ⟨rfl, rfl⟩
        have hB8 := hB7.alloc hB7.size (.cells #[.int .i32 r] 21)
        go_wp2_with fail
        refine (d1 _ hB8).mono ?_
        rintro e w9 ⟨rfl, hb9⟩
        have hB9 := hB8.trans (hb9.mono hB8.size)
        go_wp2_with fail
        refine (d2 _ hB9).mono ?_
        rintro e v1 ⟨rfl, hv1⟩
        have hV1 := hB9.trans (hv1.mono hB9.size)
        go_wp2_with fail
        refine (d3 _ hV1).mono ?_
        rintro e v2 ⟨rfl, hv2⟩
        have hV2 := hV1.trans (hv2.mono hV1.size)
        go_wp2_with fail
        go_ret
        exact ⟨rfl, hV2⟩
      · skip
        go_enter Tryd.func4, Tryd.ntmps4
        go_wp2_with fail
        refine cF.mono ?_
        rintro e w1 ⟨rfl, hB1⟩
        go_wp2_with fail
        refine (c2 w1 hB1).mono ?_
        rintro e w2 ⟨rfl, hb2⟩
        have hB2 := hB1.trans (hb2.mono hB1.size)
        go_wp2_with fail
        refine (c3 w2 hB2).mono ?_
        rintro e w3 ⟨rfl, hb3⟩
        have hB3 := hB2.trans (hb3.mono hB2.size)
        go_wp2_with fail
        refine (c0 w3 hB3).mono ?_
        rintro e w4 ⟨rfl, hb4⟩
        have hB4 := hB3.trans (hb4.mono hB3.size)
        go_wp2_with fail
        refine (c4 w4 hB4).mono ?_
        rintro e w5 ⟨rfl, hb5⟩
        have hB5 := hB4.trans (hb5.mono hB4.size)
        go_wp2_with fail
        refine (c5 w5 hB5).mono ?_
        rintro e w6 ⟨rfl, hb6⟩
        have hB6 := hB5.trans (hb6.mono hB5.size)
        go_wp2_with fail
        refine (c1 w6 hB6).mono ?_
        rintro e w7 ⟨rfl, hb7⟩
        have hB7 := hB6.trans (hb7.mono hB6.size)
        go_wp2_with fail
        refine (cJ w7).mono ?_
        rintro e w8 ⟨rfl, rfl⟩
        have hB8 := hB7.alloc hB7.size (.cells #[.int .i32 r] 21)
        go_wp2_with fail
        refine (d1 _ hB8).mono ?_
        rintro e w9 ⟨rfl, hb9⟩
        have hB9 := hB8.trans (hb9.mono hB8.size)
        go_wp2_with fail
        refine (d2 _ hB9).mono ?_
        rintro e v1 ⟨rfl, hv1⟩
        have hV1 := hB9.trans (hv1.mono hB9.size)
        go_wp2_with fail
        refine (d3 _ hV1).mono ?_
        rintro e v2 ⟨rfl, hv2⟩
        have hV2 := hV1.trans (hv2.mono hV1.size)
        go_wp2_with fail
        go_ret
        exact ⟨rfl, hV2⟩
end Go.Proofs.YtinehnbjdlmopabDoor
