/-
  WALKS over gimletlaw01.laid, same, kept and place.
-/
import Derived.Test.YtacmenmneilamaaDoorRnLawTakes
namespace Go.Proofs.YtacmenmneilamaaDoor
open Go.RowKit Go.Lib

/-- a slice of bytes that came in, as the walks want it -/
inductive ArgB (w : World) (f : Nat → Nat) (n : Nat) : Value → Prop
  | nil (hn : n = 0) : ArgB w f n (.slice none 0 0)
  | some (ad : Addr) (cap : Nat) (h1 : n ≤ cap) (h2 : cap ≤ maxLen) (hc : ∀ j u, (xs f n)[j]? = .some u → w.cell? (ad.add j) = .some u) (hp : 0 < n → ∃ b o, ad = ⟨b, o, none⟩ ∧ Bytes w b o n f) : ArgB w f n (.slice (.some ad) n cap)
theorem ArgB.below {w w' : World} {f : Nat → Nat} {n : Nat} {v : Value} (h : ArgB w f n v) {B : Nat} (hb : Below B w w') (hB : w.heap.size ≤ B) : ArgB w' f n v := by
  cases h with
  | nil hn => exact .nil hn
  | some ad cap h1 h2 hc hp =>
    refine .some ad cap h1 h2 (fun j u hu => ?_) (fun h0 => ?_)
    · have := hc j u hu
      exact (hb.cell (p := ad.add j) (Nat.lt_of_lt_of_le (block_lt_of_cell this) hB)).trans this
    · obtain ⟨b, o, e, hby⟩ := hp h0
      exact ⟨b, o, e, hby.below hb hB⟩

/-- the bytes, and three marks behind them -/
def mk (f : Nat → Nat) (n : Nat) : Nat → Nat := fun j => if j < n then f j else if j = n then 71 else if j = n + 1 then 72 else 73
theorem mk_lt {f : Nat → Nat} (hf : ∀ j, f j < 256) (n : Nat) : ∀ j, mk f n j < 256 := by
  intro j
  unfold mk
  have := hf j
  repeat' split
  all_goals omega
theorem xs_mk (f : Nat → Nat) (n : Nat) : xs f n ++ [.int .u8 71, .int .u8 72, .int .u8 73] = xs (mk f n) (n + 3) := by
  apply List.ext_getElem?
  intro j
  by_cases h : j < n
  · rw [List.getElem?_append_left (by rw [xs_length]; exact h), xs_at _ _ _ h, xs_at _ _ _ (by omega)]
    simp [mk, h]
  · rw [List.getElem?_append_right (by rw [xs_length]; omega), xs_length]
    by_cases h3 : j < n + 3
    · rw [xs_at _ _ _ h3]
      have : j = n ∨ j = n + 1 ∨ j = n + 2 := by omega
      rcases this with rfl | rfl | rfl
      · simp [mk]
      · simp [mk, show ¬ n + 1 < n by omega]
      · simp [mk, show ¬ n + 2 < n by omega]
    · rw [List.getElem?_eq_none (by simp; omega), List.getElem?_eq_none (by rw [xs_length]; omega)]
theorem three_news (W : World) : ∀ j u, ([.int .u8 71, .int .u8 72, .int .u8 73] : List Value)[j]? = some u → (W.alloc (.cells #[.int .u8 71, .int .u8 72, .int .u8 73] 5)).cell? (Addr.add ⟨W.heap.size, 0, none⟩ j) = some u := by
  intro j u hj
  match j, hj with
  | 0, hj => simp at hj; subst hj; simp [Addr.add]
  | 1, hj => simp at hj; subst hj; simp [Addr.add]
  | 2, hj => simp at hj; subst hj; simp [Addr.add]
  | (j + 3), hj => simp at hj
theorem three_cell : ∀ u ∈ ([.int .u8 71, .int .u8 72, .int .u8 73] : List Value), u.oneCell' = true := by
  intro u hu
  simp at hu
  rcases hu with rfl | rfl | rfl <;> rfl

/-- what laid hands back -/
def LaidEnd (f : Nat → Nat) (n : Nat) (w : World) (e : Ending) (w' : World) : Prop :=
  ∃ g cap, e = .returned (.slice (some ⟨g, 0, none⟩) n cap) ∧ n + 3 ≤ cap ∧ cap ≤ maxLen ∧ Bytes w' g 0 (n + 3) (mk f n) ∧ w.heap.size ≤ g ∧ Below w.heap.size w w'

set_option maxRecDepth 100000 in
set_option maxHeartbeats 2000000 in
theorem laid_none (f : Nat → Nat) (w : World) :
    Calls Tryd.prog 10 #[.slice none 0 0] w fun e w' => LaidEnd f 0 w e w' := by
  obtain ⟨i0, hi, hz0, hz1, hz2⟩ := info_parts infoByte'
  have tok1 : True := trivial
  go_enter Tryd.func10, Tryd.ntmps10
  go_wp2_with (first
    | (at_builtin; have _t := tok1; refine wpList_append_own_none rfl _ _ 22 rfl w.heap.size 5 i0 1 Tryd.underlying22 hi _ 0 [] rfl (owns_empty w) rfl ?_; clear tok1)
    | (at_builtin; refine wpList_append_own _ rfl _ _ 22 rfl w.heap.size 5 i0 (.int .u8 0) 1 1 Tryd.underlying22 hi hz0 hz1 hz2 rfl (by decide) _ 0 [] rfl ((owns_empty w).alloc _) ⟨w.heap.size + 1, 0, none⟩ 3 3 [.int .u8 71, .int .u8 72, .int .u8 73] rfl rfl ?c1 ?c2 ?c3 ?c4 ?c5 ?_))
  case c1 => have := three_news (w.alloc (.cells #[] 5)); rw [World.size_alloc] at this; exact this
  case c2 => exact three_cell
  case c3 => decide
  case c4 => decide
  case c5 => simp; omega
  intro v2 w2 hown2 hgrow _
  rw [show ([.int .u8 71, .int .u8 72, .int .u8 73] : List Value) = xs (mk f 0) (0 + 3) from xs_mk f 0] at hown2
  have hB : Below w.heap.size w w2 := ((((Below.refl w.heap.size w).alloc (Nat.le_refl _) _).alloc (by simp) _)).grown hgrow (by simp; omega) (fun k hk => by simp [Value.ownBlock] at hk; omega)
  obtain ⟨g, cap, cur, rfl, hg, hgg, hc1, hc2, _, _⟩ : ∃ g cap cur, v2 = .slice (some ⟨g, 0, none⟩) (0 + 3) cap ∧ w.heap.size ≤ g ∧ w2.heap[g]? = some (.cells cur 5 (0, 0)) ∧ 0 + 3 ≤ cap ∧ cap ≤ maxLen ∧ cur.size = cap * 1 ∧ cur.toList.take ((0 + 3) * 1) = xs (mk f 0) (0 + 3) := by
    rcases hown2.2 with ⟨_, h⟩ | h
    · omega
    · exact h
  have hby := bytes_of_owns hown2
  have hm' : cap ≤ 9223372036854775807 := by unfold maxLen at hc2; omega
  have HO := hide' hown2
  clear hown2 hgrow
  go_wp2
  go_ret
  exact ⟨g, cap, rfl, hc1, hc2, hby, hg, hB⟩

set_option maxRecDepth 100000 in
set_option maxHeartbeats 2000000 in
theorem laid_some (f : Nat → Nat) (n capb : Nat) (ad : Addr) (w : World) (hn : n ≤ 70368744177664) (hc : ∀ j u, (xs f n)[j]? = some u → w.cell? (ad.add j) = some u) :
    Calls Tryd.prog 10 #[.slice (some ad) n capb] w fun e w' => LaidEnd f n w e w' := by
  obtain ⟨i0, hi, hz0, hz1, hz2⟩ := info_parts infoByte'
  have tok1 : True := trivial
  have hnews : ∀ j u, (xs f n)[j]? = some u → (w.alloc (.cells #[] 5)).cell? (ad.add j) = some u := fun j u hu =>
    (((Below.refl w.heap.size w).alloc (Nat.le_refl _) _).cell (p := ad.add j) (block_lt_of_cell (hc j u hu))).trans (hc j u hu)
  go_enter Tryd.func10, Tryd.ntmps10
  go_wp2_with (at_builtin; have _t := tok1; refine wpList_append_own _ rfl _ _ 22 rfl w.heap.size 5 i0 (.int .u8 0) 1 1 Tryd.underlying22 hi hz0 hz1 hz2 rfl (by decide) _ 0 [] rfl (owns_empty w) ad n capb (xs f n) rfl ?b0 hnews (one_cell f n) ?b1 ?b2 ?b3 ?_; clear tok1)
  case b0 => first | exact xs_length f n | (rw [xs_length]; omega)
  case b1 => unfold maxLen; omega
  case b2 => omega
  case b3 => simp
  intro v1 w1 hown1 hgrow1 hnn1
  have hB1 : Below w.heap.size w w1 := ((Below.refl w.heap.size w).alloc (Nat.le_refl _) _).grown hgrow1 (by simp) (fun k hk => by simp [Value.ownBlock] at hk; omega)
  obtain ⟨g1, cap1, rfl⟩ : ∃ g1 cap1, v1 = .slice (some ⟨g1, 0, none⟩) n cap1 := by
    have hown1' : w1.ownsRow w.heap.size 5 1 v1 n (xs f n) := by simpa using hown1
    rcases hown1'.2 with ⟨h, _⟩ | ⟨g, cap, cur, hv, _⟩
    · exfalso; revert hnn1; rw [h]; simp
    · exact ⟨g, cap, hv⟩
  have hown1' : w1.ownsRow w.heap.size 5 1 (.slice (some ⟨g1, 0, none⟩) n cap1) n (xs f n) := by simpa using hown1
  have hs1 := hB1.size
  clear hown1 hnn1 hnews hc
  go_wp2_with (at_builtin; refine wpList_append_own _ rfl _ _ 22 rfl w.heap.size 5 i0 (.int .u8 0) 1 1 Tryd.underlying22 hi hz0 hz1 hz2 rfl (by decide) _ n (xs f n) rfl (hown1'.alloc _) ⟨w1.heap.size, 0, none⟩ 3 3 [.int .u8 71, .int .u8 72, .int .u8 73] rfl rfl ?c1 ?c2 ?c3 ?c4 ?c5 ?_)
  case c1 => exact three_news w1
  case c2 => exact three_cell
  case c3 => unfold maxLen; omega
  case c4 => omega
  case c5 => simp; omega
  intro v2 w2 hown2 hgrow _
  rw [xs_mk] at hown2
  have hB : Below w.heap.size w w2 := (hB1.alloc (by omega) _).grown hgrow (by simp; omega) (fun k hk => (hown1'.lt k hk).1)
  obtain ⟨g, cap, cur, rfl, hg, hgg, hc1, hc2, _, _⟩ : ∃ g cap cur, v2 = .slice (some ⟨g, 0, none⟩) (n + 3) cap ∧ w.heap.size ≤ g ∧ w2.heap[g]? = some (.cells cur 5 (0, 0)) ∧ n + 3 ≤ cap ∧ cap ≤ maxLen ∧ cur.size = cap * 1 ∧ cur.toList.take ((n + 3) * 1) = xs (mk f n) (n + 3) := by
    rcases hown2.2 with ⟨_, h⟩ | h
    · omega
    · exact h
  have hby := bytes_of_owns hown2
  have hm' : cap ≤ 9223372036854775807 := by unfold maxLen at hc2; omega
  have HO := hide' hown2
  clear hown2 hgrow
  go_wp2
  go_ret
  exact ⟨g, cap, rfl, hc1, hc2, hby, hg, hB⟩

theorem laid_any (f : Nat → Nat) (n : Nat) (v : Value) (w : World) (hn : n ≤ 70368744177664) (h : ArgB w f n v) :
    Calls Tryd.prog 10 #[v] w fun e w' => LaidEnd f n w e w' := by
  cases h with
  | nil h0 => subst h0; exact laid_none f w
  | some ad cap h1 h2 hc hp => exact laid_some f n cap ad w hn hc
end Go.Proofs.YtacmenmneilamaaDoor
