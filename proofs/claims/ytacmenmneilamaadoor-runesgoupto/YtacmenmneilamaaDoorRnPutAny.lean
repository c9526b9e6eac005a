/-
  WALKS over runes.Put and the document's Put, of any bytes and any rune.
-/
import Derived.Test.YtacmenmneilamaaDoorRnRefMp
import Derived.Laws.CopyOwn
import Derived.Laws.MakeOwn
namespace Go.Proofs.YtacmenmneilamaaDoor
open Go.RowKit Go.Lib

/-- bytes, and a rune's behind them -/
def pt (f : Nat → Nat) (n : Nat) (r : Int) : Nat → Nat := fun j => if j < n then f j else Rn.eb r (j - n)
theorem xs_pt (f : Nat → Nat) (n : Nat) (r : Int) : xs f n ++ byteCells (encodeRune r) = xs (pt f n r) (n + Rn.el r) := by
  apply List.ext_getElem?
  intro j
  rcases Nat.lt_or_ge j n with h | h
  · rw [List.getElem?_append_left (by rw [xs_length]; exact h), xs_at _ _ _ h, xs_at _ _ _ (by omega)]
    simp [pt, h]
  · rw [List.getElem?_append_right (by rw [xs_length]; omega), xs_length]
    rcases Nat.lt_or_ge j (n + Rn.el r) with h2 | h2
    · have hj : j - n < (encodeRune r).length := by rw [Rn.enc_length]; omega
      rw [xs_at _ _ _ h2]
      unfold byteCells
      rw [List.getElem?_map, List.getElem?_eq_getElem hj]
      have e := Rn.enc_get r (j - n)
      unfold Rn.lf at e
      rw [List.getElem?_eq_getElem hj] at e
      simp only [Option.map_some, Option.some.injEq, pt, if_neg (show ¬ j < n by omega)]
      rw [← e]
      rfl
    · rw [List.getElem?_eq_none (by rw [byteCells_length, Rn.enc_length]; omega), List.getElem?_eq_none (by rw [xs_length]; omega)]
theorem xs_news {W : World} {g o n : Nat} {f : Nat → Nat} (h : Bytes W g o n f) : ∀ j u, (xs f n)[j]? = some u → W.cell? (Addr.add ⟨g, o, none⟩ j) = some u := by
  intro j u hu
  obtain ⟨hj, rfl⟩ := xs_get _ _ _ _ hu
  rw [show (Addr.add ⟨g, o, none⟩ j) = ⟨g, o + j, none⟩ by simp [Addr.add]]
  exact h j hj

set_option maxRecDepth 100000 in
set_option maxHeartbeats 1000000 in
theorem put_any (f : Nat → Nat) (n g cap : Nat) (r : Int) (w : World) (hr0 : -2147483648 ≤ r) (hr1 : r ≤ 2147483647) (hbig : n ≤ 1099511627776) (hp : Bytes w g 0 n f) :
    Calls Tryd.prog 25 #[.slice (some ⟨g, 0, none⟩) n cap, .int .i32 r] w fun e w' =>
      ∃ v, e = .returned v ∧ w'.ownsRow w.heap.size 5 1 v (n + Rn.el r) (xs (pt f n r) (n + Rn.el r)) ∧ Below w.heap.size w w' := by
  obtain ⟨i0, hi, hz0, hz1, hz2⟩ := info_parts infoByte'
  have hmk := run_make (P := Tryd.prog) w 22 5 i0 (.int .u8 0) Tryd.underlying22 hi hz0 .i64 .i64 n ((n : Int) + 4) (by omega) (by omega) (by rw [hz2]; omega) (by omega)
  rw [hz1, show (n : Int).toNat = n by omega, show ((n : Int) + 4).toNat = n + 4 by omega] at hmk
  obtain ⟨cur, hcur⟩ : ∃ cur, madeCells (Value.int .u8 0).cells ((n + 4) * 1) = cur := ⟨_, rfl⟩
  have hsz : cur.size = n + 4 := by rw [← hcur, size_madeCells]; omega
  rw [hcur] at hmk
  clear hcur
  have hn1 : (w.alloc (.cells cur 5)).heap[w.heap.size]? = some (.cells cur 5 (0, 0)) := World.alloc_heap_new w _
  have hp1 : Bytes (w.alloc (.cells cur 5)) g 0 n f := hp.below (below_alloc1 w _) (Nat.le_refl _)
  have hcp := run_copy_row (P := Tryd.prog) (w.alloc (.cells cur 5)) 22 22 3 5 w.heap.size 0 n (n + 4) ⟨g, 0, none⟩ n cap cur 5 (xs f n) Tryd.underlying22 (by rw [hi]; simp [hz1]) hn1 (by rw [xs_length]; simp) (xs_news hp1) (by rw [xs_length]; omega) (one_cell f n)
  obtain ⟨cur2, hcur2⟩ : ∃ cur2, (cur.toList.take 0 ++ xs f n ++ cur.toList.drop (0 + (xs f n).length)).toArray = cur2 := ⟨_, rfl⟩
  have hc2 : cur2.size = n + 4 ∧ cur2.toList.take n = xs f n := by
    subst hcur2
    simp only [xs_length, List.take_zero, List.nil_append, Nat.zero_add]
    refine ⟨by simp [xs_length]; omega, ?_⟩
    rw [List.take_append_of_le_length (by rw [xs_length]; exact Nat.le_refl _), List.take_of_length_le (by rw [xs_length]; exact Nat.le_refl _)]
  rw [hcur2, xs_length] at hcp
  clear hcur2
  have hb1 := below_setRow (below_alloc1 w (.cells cur 5)) (Nat.le_refl _) cur2
  have hn2 : ((w.alloc (.cells cur 5)).setRow w.heap.size cur2).heap[w.heap.size]? = some (.cells cur2 5 (0, 0)) := setRow_heap _ _ _ _ _ _ hn1
  have hz : ((w.alloc (.cells cur 5)).setRow w.heap.size cur2).heap.size = w.heap.size + 1 := by simp [World.setRow]
  generalize (w.alloc (.cells cur 5)).setRow w.heap.size cur2 = W2 at *
  generalize w.alloc (.cells cur 5) = W1 at *
  have hown : W2.ownsRow w.heap.size 5 1 (.slice (some ⟨w.heap.size, 0, none⟩) n (n + 4)) n (xs f n) :=
    ⟨by rw [xs_length]; omega, .inr ⟨w.heap.size, n + 4, cur2, rfl, Nat.le_refl _, hn2, by omega, by unfold maxLen; omega, by omega, by rw [Nat.mul_one]; exact hc2.2⟩⟩
  clear hn1 hp1 hn2 hc2 hsz
  go_enter Tryd.func25, Tryd.ntmps25
  go_wp2_with fail
  refine (Tryd.utf8_AppendRune_plain w.heap.size _ n (xs f n) r hr0 hr1 _ hown (by omega) (by omega)).mono ?_
  rintro e w1 ⟨v, rfl, hown1, o, hgrow⟩
  have hlen : n + (Lib.runeCells r).length = n + Rn.el r := by simp [Lib.runeCells, Rn.el]
  rw [hlen, ← byteCells_encodeRune, xs_pt] at hown1
  have hB : Below w.heap.size w w1 := (hb1.alloc (by omega) o).grown hgrow (by simp; omega) (fun k hk => by simp [Value.ownBlock] at hk; omega)
  clear hown hgrow
  go_wp2_with fail
  go_ret
  exact ⟨v, rfl, hown1, hB⟩

-- the document's Put (made by gen_refput.py)

theorem owns_le {w : World} {B B' : Nat} {e : TypeId} {k : Nat} {v : Value} {n : Nat} {ys : List Value} (h : w.ownsRow B e k v n ys) (hb : B' ≤ B) : w.ownsRow B' e k v n ys :=
  ⟨h.1, h.2.elim .inl (fun ⟨g, cap, cur, hv, hg, r⟩ => .inr ⟨g, cap, cur, hv, Nat.le_trans hb hg, r⟩)⟩
theorem bad_same (r : Int) (h : r < 0 ∨ 1114111 < r ∨ (55296 ≤ r ∧ r ≤ 57343)) : Rn.el r = Rn.el (65533 : Nat) ∧ Rn.eb r = Rn.eb (65533 : Nat) := by
  have e : encodeRuneZ r = encodeRuneZ ((65533 : Nat) : Int) := by
    rw [encodeRuneZ_bad (by omega)]
    decide
  exact ⟨by unfold Rn.el; rw [e], by unfold Rn.eb; rw [e]⟩
theorem pt_same {f : Nat → Nat} {n : Nat} {r s : Int} (h : Rn.eb r = Rn.eb s) : pt f n r = pt f n s := by unfold pt; rw [h]
set_option maxRecDepth 100000 in
set_option maxHeartbeats 2000000 in
theorem refPut_ok_nil (f : Nat → Nat) (r : Nat) (w : World) (hr : Rn.scal r) :
    Calls Tryd.prog 26 #[.slice none 0 0, .int .i64 r] w fun e w' => ∃ v, e = .returned v ∧ w'.ownsRow w.heap.size 5 1 v (0 + Rn.el r) (xs (pt f 0 r) (0 + Rn.el r)) ∧ Below w.heap.size w w' := by
  obtain ⟨i0, hi, hz0, hz1, hz2⟩ := info_parts infoByte'
  have hel := Rn.el_pos (r : Nat)
  have hne : ((Rn.el (r : Nat) : Int) == 0) = false := by simp; omega
  go_enter Tryd.func26, Tryd.ntmps26
  go_wp2_with fail
  refine (refForm_some r w hr).mono ?_
  rintro e w1 ⟨rfl, hby, hb1⟩
  have hbs1 := hb1.size
  have hgl : w.heap.size < w1.heap.size := block_lt_of_cell (hby 0 (by omega))
  have hby2 := hby.below (below_alloc1 w1 (.cells #[] 5)) (Nat.le_refl _)
  have tok1 : True := trivial
  go_wp2_with (first
    | (at_builtin; have _t := tok1; refine wpList_append_own_none rfl _ _ 22 rfl w1.heap.size 5 i0 1 Tryd.underlying22 hi _ 0 [] rfl (owns_empty w1) rfl ?_; clear tok1)
    | (at_builtin; refine wpList_append_own _ rfl _ _ 22 rfl w1.heap.size 5 i0 (.int .u8 0) 1 1 Tryd.underlying22 hi hz0 hz1 hz2 rfl (by decide) _ 0 [] rfl (owns_empty w1) ⟨w.heap.size, 0, none⟩ (Rn.el (r : Nat)) (Rn.el (r : Nat)) (byteCells (encodeRune (r : Nat))) rfl (by rw [byteCells_length, Rn.enc_length]; omega) ?c1 ?c2 ?c3 ?c4 ?c5 ?_))
  case c1 => exact news_enc r hby2
  case c2 => exact byteCells_one' _
  case c3 => unfold maxLen; omega
  case c4 => omega
  case c5 => simp
  intro v2 w2 hown2 hgrow _
  have hB : Below w.heap.size w w2 := (hb1.alloc hbs1 _).grown hgrow (by simp; omega) (fun k hk => by simp [Value.ownBlock] at hk; omega)
  have e1 := xs_pt f 0 (r : Nat)
  rw [show xs f 0 = [] from rfl, List.nil_append, Nat.zero_add] at e1
  replace hown2 : w2.ownsRow w1.heap.size 5 1 v2 (Rn.el (r : Nat)) (byteCells (encodeRune (r : Nat))) := hown2
  rw [e1] at hown2
  have hown3 := owns_le (B' := w.heap.size) hown2 hbs1
  clear hown2 hgrow e1
  go_wp2_with fail
  go_ret
  exact ⟨v2, rfl, by rw [Nat.zero_add]; exact hown3, hB⟩

set_option maxRecDepth 100000 in
set_option maxHeartbeats 2000000 in
theorem refPut_ok_some (f : Nat → Nat) (n cap : Nat) (ad : Addr) (r : Nat) (w : World) (hr : Rn.scal r) (hbig : n ≤ 1099511627776) (hc : ∀ j u, (xs f n)[j]? = some u → w.cell? (ad.add j) = some u) :
    Calls Tryd.prog 26 #[.slice (some ad) n cap, .int .i64 r] w fun e w' => ∃ v, e = .returned v ∧ w'.ownsRow w.heap.size 5 1 v (n + Rn.el r) (xs (pt f n r) (n + Rn.el r)) ∧ Below w.heap.size w w' := by
  obtain ⟨i0, hi, hz0, hz1, hz2⟩ := info_parts infoByte'
  have hel := Rn.el_pos (r : Nat)
  have hne : ((Rn.el (r : Nat) : Int) == 0) = false := by simp; omega
  go_enter Tryd.func26, Tryd.ntmps26
  go_wp2_with fail
  refine (refForm_some r w hr).mono ?_
  rintro e w1 ⟨rfl, hby, hb1⟩
  have hbs1 := hb1.size
  have hgl : w.heap.size < w1.heap.size := block_lt_of_cell (hby 0 (by omega))
  have hcA : ∀ j u, (xs f n)[j]? = some u → (w1.alloc (.cells #[] 5)).cell? (ad.add j) = some u := fun j u hu => by
    have c := hc j u hu
    have c1 := (hb1.cell (p := ad.add j) (block_lt_of_cell c)).trans c
    exact ((below_alloc1 w1 (.cells #[] 5)).cell (p := ad.add j) (block_lt_of_cell c1)).trans c1
  clear hc
  go_wp2_with (at_builtin; refine wpList_append_own _ rfl _ _ 22 rfl w1.heap.size 5 i0 (.int .u8 0) 1 1 Tryd.underlying22 hi hz0 hz1 hz2 rfl (by decide) _ 0 [] rfl (owns_empty w1) ad n cap (xs f n) rfl (by rw [xs_length]; omega) ?c1 ?c2 ?c3 ?c4 ?c5 ?_)
  case c1 => exact hcA
  case c2 => exact one_cell f n
  case c3 => unfold maxLen; omega
  case c4 => omega
  case c5 => simp
  intro v2 w2 hown2 hgrow _
  have hb2 : Below w1.heap.size w1 w2 := (below_alloc1 w1 _).grown hgrow (by simp) (fun k hk => by simp [Value.ownBlock] at hk; omega)
  have hby2 := hby.below hb2 (Nat.le_refl _)
  have hbs2 := hb2.size
  clear hgrow hcA
  go_wp2_with (at_builtin; refine wpList_append_own _ rfl _ _ 22 rfl w1.heap.size 5 i0 (.int .u8 0) 1 1 Tryd.underlying22 hi hz0 hz1 hz2 rfl (by decide) _ n (xs f n) rfl hown2 ⟨w.heap.size, 0, none⟩ (Rn.el (r : Nat)) (Rn.el (r : Nat)) (byteCells (encodeRune (r : Nat))) rfl (by rw [byteCells_length, Rn.enc_length]; omega) ?d1 ?d2 ?d3 ?d4 ?d5 ?_)
  case d1 => exact news_enc r hby2
  case d2 => exact byteCells_one' _
  case d3 => unfold maxLen; omega
  case d4 => omega
  case d5 => omega
  intro v3 w3 hown3 hgrow3 _
  have hB : Below w.heap.size w w3 := (hb1.trans (hb2.mono hbs1)).grown hgrow3 (by omega) (fun k hk => by have := (hown2.lt k hk).1; omega)
  replace hown3 : w3.ownsRow w1.heap.size 5 1 v3 (n + Rn.el (r : Nat)) (xs f n ++ byteCells (encodeRune (r : Nat))) := hown3
  rw [xs_pt] at hown3
  have hown3 := owns_le (B' := w.heap.size) hown3 hbs1
  clear hown2 hgrow3
  go_wp2_with fail
  go_ret
  exact ⟨v3, rfl, hown3, hB⟩

set_option maxRecDepth 100000 in
set_option maxHeartbeats 2000000 in
theorem refPut_no_nil (f : Nat → Nat) (r : Int) (w : World) (hr : r < 0 ∨ 1114111 < r ∨ (55296 ≤ r ∧ r ≤ 57343)) :
    Calls Tryd.prog 26 #[.slice none 0 0, .int .i64 r] w fun e w' => ∃ v, e = .returned v ∧ w'.ownsRow w.heap.size 5 1 v (0 + Rn.el r) (xs (pt f 0 r) (0 + Rn.el r)) ∧ Below w.heap.size w w' := by
  obtain ⟨i0, hi, hz0, hz1, hz2⟩ := info_parts infoByte'
  have hel := Rn.el_pos (65533 : Nat)
  obtain ⟨ee, eb⟩ := bad_same r hr
  have EE := hide' ee
  have EB := hide' eb
  clear ee eb
  go_enter Tryd.func26, Tryd.ntmps26
  go_wp2_with fail
  refine (refForm_none r w hr).mono ?_
  rintro e w0 ⟨rfl, rfl⟩
  go_wp2_with fail
  refine (refForm_some 65533 _ ⟨by decide, by decide⟩).mono ?_
  rintro e w1 ⟨rfl, hby, hb1⟩
  have hbs1 := hb1.size
  have hgl : w0.heap.size < w1.heap.size := block_lt_of_cell (hby 0 (by omega))
  have hby2 := hby.below (below_alloc1 w1 (.cells #[] 5)) (Nat.le_refl _)
  have tok1 : True := trivial
  go_wp2_with (first
    | (at_builtin; have _t := tok1; refine wpList_append_own_none rfl _ _ 22 rfl w1.heap.size 5 i0 1 Tryd.underlying22 hi _ 0 [] rfl (owns_empty w1) rfl ?_; clear tok1)
    | (at_builtin; refine wpList_append_own _ rfl _ _ 22 rfl w1.heap.size 5 i0 (.int .u8 0) 1 1 Tryd.underlying22 hi hz0 hz1 hz2 rfl (by decide) _ 0 [] rfl (owns_empty w1) ⟨w0.heap.size, 0, none⟩ (Rn.el (65533 : Nat)) (Rn.el (65533 : Nat)) (byteCells (encodeRune (65533 : Nat))) rfl (by rw [byteCells_length, Rn.enc_length]; omega) ?c1 ?c2 ?c3 ?c4 ?c5 ?_))
  case c1 => exact news_enc 65533 hby2
  case c2 => exact byteCells_one' _
  case c3 => unfold maxLen; omega
  case c4 => omega
  case c5 => simp
  intro v2 w2 hown2 hgrow _
  have hB : Below w0.heap.size w0 w2 := (hb1.alloc hbs1 _).grown hgrow (by simp; omega) (fun k hk => by simp [Value.ownBlock] at hk; omega)
  have e1 := xs_pt f 0 (65533 : Nat)
  rw [show xs f 0 = [] from rfl, List.nil_append, Nat.zero_add] at e1
  replace hown2 : w2.ownsRow w1.heap.size 5 1 v2 (Rn.el (65533 : Nat)) (byteCells (encodeRune (65533 : Nat))) := hown2
  rw [e1] at hown2
  have hown3 := owns_le (B' := w0.heap.size) hown2 hbs1
  clear hown2 hgrow e1
  go_wp2_with fail
  go_ret
  exact ⟨v2, rfl, by rw [Nat.zero_add, EE.out, pt_same EB.out]; exact hown3, hB⟩

set_option maxRecDepth 100000 in
set_option maxHeartbeats 2000000 in
theorem refPut_no_some (f : Nat → Nat) (n cap : Nat) (ad : Addr) (r : Int) (w : World) (hr : r < 0 ∨ 1114111 < r ∨ (55296 ≤ r ∧ r ≤ 57343)) (hbig : n ≤ 1099511627776) (hc : ∀ j u, (xs f n)[j]? = some u → w.cell? (ad.add j) = some u) :
    Calls Tryd.prog 26 #[.slice (some ad) n cap, .int .i64 r] w fun e w' => ∃ v, e = .returned v ∧ w'.ownsRow w.heap.size 5 1 v (n + Rn.el r) (xs (pt f n r) (n + Rn.el r)) ∧ Below w.heap.size w w' := by
  obtain ⟨i0, hi, hz0, hz1, hz2⟩ := info_parts infoByte'
  have hel := Rn.el_pos (65533 : Nat)
  obtain ⟨ee, eb⟩ := bad_same r hr
  have EE := hide' ee
  have EB := hide' eb
  clear ee eb
  go_enter Tryd.func26, Tryd.ntmps26
  go_wp2_with fail
  refine (refForm_none r w hr).mono ?_
  rintro e w0 ⟨rfl, rfl⟩
  go_wp2_with fail
  refine (refForm_some 65533 _ ⟨by decide, by decide⟩).mono ?_
  rintro e w1 ⟨rfl, hby, hb1⟩
  have hbs1 := hb1.size
  have hgl : w0.heap.size < w1.heap.size := block_lt_of_cell (hby 0 (by omega))
  have hcA : ∀ j u, (xs f n)[j]? = some u → (w1.alloc (.cells #[] 5)).cell? (ad.add j) = some u := fun j u hu => by
    have c := hc j u hu
    have c1 := (hb1.cell (p := ad.add j) (block_lt_of_cell c)).trans c
    exact ((below_alloc1 w1 (.cells #[] 5)).cell (p := ad.add j) (block_lt_of_cell c1)).trans c1
  clear hc
  go_wp2_with (at_builtin; refine wpList_append_own _ rfl _ _ 22 rfl w1.heap.size 5 i0 (.int .u8 0) 1 1 Tryd.underlying22 hi hz0 hz1 hz2 rfl (by decide) _ 0 [] rfl (owns_empty w1) ad n cap (xs f n) rfl (by rw [xs_length]; omega) ?c1 ?c2 ?c3 ?c4 ?c5 ?_)
  case c1 => exact hcA
  case c2 => exact one_cell f n
  case c3 => unfold maxLen; omega
  case c4 => omega
  case c5 => simp
  intro v2 w2 hown2 hgrow _
  have hb2 : Below w1.heap.size w1 w2 := (below_alloc1 w1 _).grown hgrow (by simp) (fun k hk => by simp [Value.ownBlock] at hk; omega)
  have hby2 := hby.below hb2 (Nat.le_refl _)
  have hbs2 := hb2.size
  clear hgrow hcA
  go_wp2_with (at_builtin; refine wpList_append_own _ rfl _ _ 22 rfl w1.heap.size 5 i0 (.int .u8 0) 1 1 Tryd.underlying22 hi hz0 hz1 hz2 rfl (by decide) _ n (xs f n) rfl hown2 ⟨w0.heap.size, 0, none⟩ (Rn.el (65533 : Nat)) (Rn.el (65533 : Nat)) (byteCells (encodeRune (65533 : Nat))) rfl (by rw [byteCells_length, Rn.enc_length]; omega) ?d1 ?d2 ?d3 ?d4 ?d5 ?_)
  case d1 => exact news_enc 65533 hby2
  case d2 => exact byteCells_one' _
  case d3 => unfold maxLen; omega
  case d4 => omega
  case d5 => omega
  intro v3 w3 hown3 hgrow3 _
  have hB : Below w0.heap.size w0 w3 := (hb1.trans (hb2.mono hbs1)).grown hgrow3 (by omega) (fun k hk => by have := (hown2.lt k hk).1; omega)
  replace hown3 : w3.ownsRow w1.heap.size 5 1 v3 (n + Rn.el (65533 : Nat)) (xs f n ++ byteCells (encodeRune (65533 : Nat))) := hown3
  rw [xs_pt] at hown3
  have hown3 := owns_le (B' := w0.heap.size) hown3 hbs1
  clear hown2 hgrow3
  go_wp2_with fail
  go_ret
  exact ⟨v3, rfl, by rw [EE.out, pt_same EB.out]; exact hown3, hB⟩

theorem refPut_any (f : Nat → Nat) (n : Nat) (v : Value) (r : Int) (w : World) (hbig : n ≤ 1099511627776) (h : ArgB w f n v) :
    Calls Tryd.prog 26 #[v, .int .i64 r] w fun e w' => ∃ v, e = .returned v ∧ w'.ownsRow w.heap.size 5 1 v (n + Rn.el r) (xs (pt f n r) (n + Rn.el r)) ∧ Below w.heap.size w w' := by
  by_cases hr : r < 0 ∨ 1114111 < r ∨ (55296 ≤ r ∧ r ≤ 57343)
  · cases h with
    | nil h0 => subst h0; exact refPut_no_nil f r w hr
    | some ad cap h1 h2 hc hp => exact refPut_no_some f n cap ad r w hr hbig hc
  · obtain ⟨k, rfl⟩ : ∃ k : Nat, r = k := ⟨r.toNat, by omega⟩
    have hs : Rn.scal k := by unfold Rn.scal; omega
    cases h with
    | nil h0 => subst h0; exact refPut_ok_nil f k w hs
    | some ad cap h1 h2 hc hp => exact refPut_ok_some f n cap ad k w hs hbig hc
end Go.Proofs.YtacmenmneilamaaDoor
