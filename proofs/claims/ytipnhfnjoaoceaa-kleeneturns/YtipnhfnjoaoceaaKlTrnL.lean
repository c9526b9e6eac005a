/-
  What the walk over KleeneTurns keeps to (gen_trn.py).
-/
import Derived.Test.YtipnhfnjoaoceaaKlTrn
import Derived.BigGuard
namespace Go.Proofs.Ytipnhfnjoaoceaa
open Go.RowKit Go.Lib Go.Sort
namespace Kl
/-- how a slot is put -/
theorem pts : (∀ (l : List Oper) (i : Nat) (h : i < l.toArray.size), l.toArray[i] = l[i]'(by simpa using h)) ∧ (∀ (l : List Value) (i : Nat) (h : i < l.toArray.size), l.toArray[i] = l[i]'(by simpa using h)) ∧
    (∀ (a : Oper) (l : List Oper) (h : 0 < (a :: l).length), (a :: l)[0]'h = a) ∧ (∀ (a : Value) (l : List Value) (h : 0 < (a :: l).length), (a :: l)[0]'h = a) ∧
    (∀ (a : Oper) (l : List Oper) (i : Nat) (h : i + 1 < (a :: l).length), (a :: l)[i + 1]'h = l[i]'(by simpa using h)) ∧ (∀ (a : Value) (l : List Value) (i : Nat) (h : i + 1 < (a :: l).length), (a :: l)[i + 1]'h = l[i]'(by simpa using h)) ∧
    (∀ (a : Act) (i : Nat) (v : Value), a.put (some i) v = { a with tmps := a.tmps.setIfInBounds i v }) ∧ (∀ (a : Act) (v : Value), a.put none v = a) ∧
    (∀ (l : List Value) (i : Nat) (v : Value), l.toArray.setIfInBounds i v = (l.set i v).toArray) ∧ (∀ (a : Value) (l : List Value) (v : Value), (a :: l).set 0 v = v :: l) ∧ (∀ (a : Value) (l : List Value) (i : Nat) (v : Value), (a :: l).set (i + 1) v = a :: l.set i v) :=
  ⟨fun _ _ _ => rfl, fun _ _ _ => rfl, fun _ _ _ => rfl, fun _ _ _ => rfl, fun _ _ _ _ => rfl, fun _ _ _ _ => rfl, fun _ _ _ => rfl, fun _ _ => rfl, fun l i v => by simp, fun _ _ _ => rfl, fun _ _ _ _ => rfl⟩
/-- a new box -/
def BoxZ (w : World) (T : Nat) : Prop := (w.cell? ⟨T, 0, none⟩ = some (.int .i64 0) ∧ w.cell? ⟨T, 1, none⟩ = some (.int .i64 0) ∧ w.cell? ⟨T, 2, none⟩ = some (.int .i64 0) ∧ w.cell? ⟨T, 3, none⟩ = some (.slice none 0 0)) ∧ (∀ o, w.frozen? ⟨T, o, none⟩ = false)
theorem BoxZ.lt {w : World} {T : Nat} (h : BoxZ w T) : T < w.heap.size := block_lt_of_cell h.1.1
theorem BoxZ.below {w w' : World} {T : Nat} (h : BoxZ w T) (hb : Below w.heap.size w w') : BoxZ w' T := by
  have hl := h.lt
  have e : ∀ o, w'.cell? ⟨T, o, none⟩ = w.cell? ⟨T, o, none⟩ := fun o => hb.cell (p := ⟨T, o, none⟩) hl
  refine ⟨by rw [e, e, e, e]; exact h.1, fun o => (hb.frozen (p := ⟨T, o, none⟩) hl).trans (h.2 o)⟩
theorem BoxZ.new (w : World) (t : TypeId) : BoxZ (w.alloc (.cells #[.int .i64 0, .int .i64 0, .int .i64 0, .slice none 0 0] t)) w.heap.size := ⟨by refine ⟨?_, ?_, ?_, ?_⟩ <;> simp, fun o => by simp⟩
theorem range_new (w : World) (l : List Value) (t : TypeId) : (w.alloc (.cells l.toArray t)).rangeAt w.heap.size 0 l := fun j u hj => by rw [Nat.zero_add, World.cell?_alloc_new]; simpa using hj
theorem enc_of {y : Fv} {a b c d : Value} (h : y.enc.toArray = #[a, b, c, d]) : y.enc = [a, b, c, d] := List.toArray_inj (by rw [h])
theorem box_done {w0 w : World} {T : Nat} {y : Fv} {F : Fm} {a b c d : Value} (hc : ct y = F) (he : y.enc = [a, b, c, d]) (hz : BoxZ w T) (hy : Ok w y) (hT : T ∉ fp y) (hl : w0.heap.size ≤ T) (hb : Below w0.heap.size w0 w) :
    BoxF ((((w.setCell ⟨T, 0, none⟩ a).setCell ⟨T, 1, none⟩ b).setCell ⟨T, 2, none⟩ c).setCell ⟨T, 3, none⟩ d) T F ∧ Below w0.heap.size w0 ((((w.setCell ⟨T, 0, none⟩ a).setCell ⟨T, 1, none⟩ b).setCell ⟨T, 2, none⟩ c).setCell ⟨T, 3, none⟩ d) := by
  subst hc
  refine ⟨box_put he ⟨_, _, _, _, hz.1⟩ hy hT, ?_⟩
  refine Below.setCell (Below.setCell (Below.setCell (Below.setCell hb ?_ _) ?_ _) ?_ _) ?_ _
  all_goals exact hl
theorem store_box {w : World} {T : Nat} (a b c d : Value) (hz : BoxZ w T) : ((((w.setCell ⟨T, 0, none⟩ a).setCell ⟨T, 1, none⟩ b).setCell ⟨T, 2, none⟩ c).setCell ⟨T, 3, none⟩ d).rangeAt T 0 [a, b, c, d] ∧
    (∀ T', T' ≠ T → BoxZ w T' → BoxZ ((((w.setCell ⟨T, 0, none⟩ a).setCell ⟨T, 1, none⟩ b).setCell ⟨T, 2, none⟩ c).setCell ⟨T, 3, none⟩ d) T') ∧
    (∀ T' l, T' ≠ T → w.rangeAt T' 0 l → ((((w.setCell ⟨T, 0, none⟩ a).setCell ⟨T, 1, none⟩ b).setCell ⟨T, 2, none⟩ c).setCell ⟨T, 3, none⟩ d).rangeAt T' 0 l) ∧
    (∀ B (w0 : World), B ≤ T → Below B w0 w → Below B w0 ((((w.setCell ⟨T, 0, none⟩ a).setCell ⟨T, 1, none⟩ b).setCell ⟨T, 2, none⟩ c).setCell ⟨T, 3, none⟩ d)) := by
  have hh : ∀ k, k ≠ T → ((((w.setCell ⟨T, 0, none⟩ a).setCell ⟨T, 1, none⟩ b).setCell ⟨T, 2, none⟩ c).setCell ⟨T, 3, none⟩ d).heap[k]? = w.heap[k]? := fun k hk => by
    rw [Below.heap_setCell _ ⟨T, 3, none⟩ _ _ hk, Below.heap_setCell _ ⟨T, 2, none⟩ _ _ hk, Below.heap_setCell _ ⟨T, 1, none⟩ _ _ hk, Below.heap_setCell _ ⟨T, 0, none⟩ _ _ hk]
  refine ⟨?_, fun T' hne h => ?_, fun T' l hne h i v hi => ?_, fun B w0 hB hb => ?_⟩
  · intro j u hj
    have hjl := (List.getElem?_eq_some_iff.1 hj).1
    have hs : ∀ j, j < [a, b, c, d].length → (w.cell? ⟨T, 0 + j, none⟩).isSome = true := fun j hj => by
      match j, hj with
      | 0, _ => rw [Nat.add_zero, hz.1.1]; rfl
      | 1, _ => rw [Nat.zero_add, hz.1.2.1]; rfl
      | 2, _ => rw [Nat.zero_add, hz.1.2.2.1]; rfl
      | 3, _ => rw [Nat.zero_add, hz.1.2.2.2]; rfl
    have := World.cell?_setCells_in T [a, b, c, d] 0 w hs j hjl
    rw [(List.getElem?_eq_some_iff.1 hj).2] at this
    exact this
  · have e : ∀ o, ((((w.setCell ⟨T, 0, none⟩ a).setCell ⟨T, 1, none⟩ b).setCell ⟨T, 2, none⟩ c).setCell ⟨T, 3, none⟩ d).cell? ⟨T', o, none⟩ = w.cell? ⟨T', o, none⟩ := fun o => World.cell?_of_block (a := ⟨T', o, none⟩) (hh T' hne)
    exact ⟨by rw [e, e, e, e]; exact h.1, fun o => (World.frozen?_of_block (a := ⟨T', o, none⟩) (hh T' hne)).trans (h.2 o)⟩
  · exact (World.cell?_of_block (a := ⟨T', 0 + i, none⟩) (hh T' hne)).trans (h i v hi)
  · refine Below.setCell (Below.setCell (Below.setCell (Below.setCell hb ?_ _) ?_ _) ?_ _) ?_ _
    all_goals exact hB
theorem range_lt {w : World} {T : Nat} {a : Value} {l : List Value} (h : w.rangeAt T 0 (a :: l)) : T < w.heap.size := block_lt_of_cell (h 0 a rfl)
theorem ct_two {F1 F2 : Fm} {y1 y2 : Fv} {o v n : Int} {p : Option Addr} {c : Nat} (h1 : ct y1 = F1) (h2 : ct y2 = F2) : ct (.mk o v n p c [y1, y2]) = .mk o v n [F1, F2] := by rw [ct, cts_map, List.map_cons, List.map_cons, List.map_nil, h1, h2]
theorem ct_three {F1 F2 F3 : Fm} {y1 y2 y3 : Fv} {o v n : Int} {p : Option Addr} {c : Nat} (h1 : ct y1 = F1) (h2 : ct y2 = F2) (h3 : ct y3 = F3) : ct (.mk o v n p c [y1, y2, y3]) = .mk o v n [F1, F2, F3] := by rw [ct, cts_map, List.map_cons, List.map_cons, List.map_cons, List.map_nil, h1, h2, h3]
theorem not_row {T b c : Nat} {op v n : Int} {l : List Fv} (h1 : T ≠ b) (h2 : ∀ x ∈ l, T ∉ fp x) : T ∉ fp (.mk op v n (some ⟨b, 0, none⟩) c l) := fun hb => by
  rw [fp] at hb
  rcases List.mem_append.1 hb with h | h
  · obtain ⟨_, a, e, rfl⟩ := pb_of h
    cases e
    exact h1 rfl
  · obtain ⟨x, hx, hb⟩ := (fps_mem l T).1 h
    exact h2 x hx hb
/-- three formulas in a new row -/
theorem row3 {W Wn : World} {b : Nat} {t : TypeId} {y1 y2 y3 : Fv} {F1 F2 F3 : Fm} {a1 a2 a3 a4 b1 b2 b3 b4 c1 c2 c3 c4 : Value} (op : Int) (h : W.alloc (.cells #[a1, a2, a3, a4, b1, b2, b3, b4, c1, c2, c3, c4] t) = Wn) (hb : W.heap.size = b)
    (e1 : y1.enc = [a1, a2, a3, a4]) (e2 : y2.enc = [b1, b2, b3, b4]) (e3 : y3.enc = [c1, c2, c3, c4]) (o1 : Ok W y1) (o2 : Ok W y2) (o3 : Ok W y3) (f1 : ct y1 = F1) (f2 : ct y2 = F2) (f3 : ct y3 = F3) :
    ∃ F : Fv, F.enc = [.int .i64 op, .int .i64 0, .int .i64 0, .slice (some ⟨b, 0, none⟩) 3 3] ∧ Ok Wn F ∧ ct F = .mk op 0 0 [F1, F2, F3] ∧ (∀ T, T ≠ b → T ∉ fp y1 → T ∉ fp y2 → T ∉ fp y3 → T ∉ fp F) ∧ Below W.heap.size W Wn := by
  subst h hb
  have hab : Below W.heap.size W (W.alloc (.cells #[a1, a2, a3, a4, b1, b2, b3, b4, c1, c2, c3, c4] t)) := (Below.refl _ _).alloc (Nat.le_refl _) _
  refine ⟨.mk op 0 0 (some ⟨W.heap.size, 0, none⟩) 3 [y1, y2, y3], rfl, ok_three ?_ (o1.below hab) (o2.below hab) (o3.below hab) _ _ _, ct_three f1 f2 f3, fun T h0 h1 h2 h3 => not_row h0 fun x hx => ?_, hab⟩
  · rw [e1, e2, e3]
    exact range_new W [a1, a2, a3, a4, b1, b2, b3, b4, c1, c2, c3, c4] t
  · simp at hx
    rcases hx with rfl | rfl | rfl <;> assumption
theorem row2 {W Wn : World} {b : Nat} {t : TypeId} {y1 y2 : Fv} {F1 F2 : Fm} {a1 a2 a3 a4 b1 b2 b3 b4 : Value} (op : Int) (h : W.alloc (.cells #[a1, a2, a3, a4, b1, b2, b3, b4] t) = Wn) (hb : W.heap.size = b)
    (e1 : y1.enc = [a1, a2, a3, a4]) (e2 : y2.enc = [b1, b2, b3, b4]) (o1 : Ok W y1) (o2 : Ok W y2) (f1 : ct y1 = F1) (f2 : ct y2 = F2) :
    ∃ F : Fv, F.enc = [.int .i64 op, .int .i64 0, .int .i64 0, .slice (some ⟨b, 0, none⟩) 2 2] ∧ Ok Wn F ∧ ct F = .mk op 0 0 [F1, F2] ∧ (∀ T, T ≠ b → T ∉ fp y1 → T ∉ fp y2 → T ∉ fp F) ∧ Below W.heap.size W Wn := by
  subst h hb
  have hab : Below W.heap.size W (W.alloc (.cells #[a1, a2, a3, a4, b1, b2, b3, b4] t)) := (Below.refl _ _).alloc (Nat.le_refl _) _
  refine ⟨.mk op 0 0 (some ⟨W.heap.size, 0, none⟩) 2 [y1, y2], rfl, ok_two ?_ (o1.below hab) (o2.below hab) _ _ _, ct_two f1 f2, fun T h0 h1 h2 => not_row h0 fun x hx => ?_, hab⟩
  · rw [e1, e2]
    exact range_new W [a1, a2, a3, a4, b1, b2, b3, b4] t
  · simp at hx
    rcases hx with rfl | rfl <;> assumption
/-- an operation taken first -/
theorem tk {P : Program} {ops : Array Oper} {Q : Exit → Act → World → Prop} {S : World → Prop} (i : Nat) (v : Value) {oi : Oper} {fuel : Nat} {listed : Array Bool} {a : Act} {w : World} (hi : ops[i]? = some oi)
    (hc : (Region.noSelect ops && Region.free .any ops listed i && (Region.ready .any ops listed).contains i) = true) (hQ : ∀ c a w, Q (.panic c) (a.put oi.dst v) w → Q (.panic c) a w) (hS : S w) (hy : YieldsIf P ops S oi v a)
    (h : wpAnyH P .any ops Q S fuel (listed.setIfInBounds i true) (a.put oi.dst v) w) : wpAnyH P .any ops Q S (fuel + 1) listed a w := by
  rw [Bool.and_eq_true, Bool.and_eq_true] at hc
  exact wpAnyH_take hi hc.1.1 hc.1.2 hc.2 hQ hy hS h
theorem not_fp {w : World} {y : Fv} (h : Ok w y) {T : Nat} (hT : w.heap.size ≤ T) : T ∉ fp y := fun hb => by have := h.lt y T hb; omega
/-- a box, opened -/
theorem BoxF.opn {w : World} {T : Nat} {F : Fm} (h : BoxF w T F) : ∃ (y : Fv) (yo yv yn : Int) (yp : Option Addr) (ky yc : Nat), Hid (y.enc.toArray = #[.int .i64 yo, .int .i64 yv, .int .i64 yn, .slice yp ky yc]) ∧ Hid (ct y = F) ∧ Hid (Ok w y) ∧ Hid (∀ w', Below w.heap.size w w' → w'.cell? ⟨T, 0, none⟩ = some (.int .i64 yo) ∧ w'.cell? ⟨T, 1, none⟩ = some (.int .i64 yv) ∧ w'.cell? ⟨T, 2, none⟩ = some (.int .i64 yn) ∧ w'.cell? ⟨T, 3, none⟩ = some (.slice yp ky yc)) := by
  obtain ⟨y, h1, h2, h3⟩ := h
  obtain ⟨yo, yv, yn, yp, yc, yl⟩ := y
  refine ⟨.mk yo yv yn yp yc yl, yo, yv, yn, yp, yl.length, yc, rfl, h1, h3, fun w' hb => ?_⟩
  obtain ⟨c0, c1, c2, c3⟩ := cells4 (range_bel h2 hb)
  exact ⟨c0, by simpa using c1, by simpa using c2, by simpa using c3⟩
theorem isF_mk {o v n : Int} {l : List Fm} {r : Nat} (hr : 0 < r) (h : areF l (r - 1) = areG l) : isF (.mk o v n l) r = isG (.mk o v n l) := by rw [isF, isG, if_neg (by omega), h]
theorem areF_eq {r : Nat} : ∀ {l : List Fm}, (∀ x ∈ l, isF x r = isG x) → areF l r = areG l
  | [], _ => by rw [areF, areG]
  | a :: l, h => by rw [areF, areG, h a (by simp), areF_eq fun x hx => h x (by simp [hx])]
theorem isF_and {X Y Z : Fm} (hx : sz X ≤ 65536) (hy : sz Y ≤ 65536) (hz : sz Z ≤ 65536) : isF (.mk 2 0 0 [X, Y, Z]) 131072 = isG (.mk 2 0 0 [X, Y, Z]) := isF_mk (by omega) (areF_eq fun x h => by
  simp at h
  rcases h with rfl | rfl | rfl <;> exact isF_isG _ _ (by omega))
theorem isF_grp {X Y Z : Fm} (hx : sz X ≤ 65536) (hy : sz Y ≤ 65536) (hz : sz Z ≤ 65536) : isF (.mk 2 0 0 [.mk 2 0 0 [Z, X], Y, X]) 131072 = isG (.mk 2 0 0 [.mk 2 0 0 [Z, X], Y, X]) := isF_mk (by omega) (areF_eq fun x h => by
  simp at h
  rcases h with rfl | rfl | rfl
  · exact isF_mk (by omega) (areF_eq fun x h => by
      simp at h
      rcases h with rfl | rfl <;> exact isF_isG _ _ (by omega))
  · exact isF_isG _ _ (by omega)
  · exact isF_isG _ _ (by omega))
theorem isF_not {X : Fm} {r : Nat} (hx : sz X + 1 ≤ r) : isF (.mk 4 0 0 [X]) r = isG (.mk 4 0 0 [X]) := isF_mk (by omega) (areF_eq fun x h => by
  simp at h
  rcases h with rfl
  exact isF_isG _ _ (by omega))
theorem isF_or {X Y Z : Fm} (hx : sz X ≤ 65536) (hy : sz Y ≤ 65536) (hz : sz Z ≤ 65536) : isF (.mk 3 0 0 [.mk 4 0 0 [X], .mk 4 0 0 [Y], .mk 4 0 0 [Z]]) 131072 = isG (.mk 3 0 0 [.mk 4 0 0 [X], .mk 4 0 0 [Y], .mk 4 0 0 [Z]]) := isF_mk (by omega) (areF_eq fun x h => by
  simp at h
  rcases h with rfl | rfl | rfl <;> exact isF_not (by omega))
theorem isF_not2 {X : Fm} (hx : sz X ≤ 65536) : isF (.mk 4 0 0 [.mk 4 0 0 [X]]) 131072 = isG (.mk 4 0 0 [.mk 4 0 0 [X]]) := isF_mk (by omega) (areF_eq fun x h => by
  simp at h
  rcases h with rfl
  exact isF_not (by omega))
theorem frz_keep {w : World} (T : Nat) (a b c d : Value) (hz : ∀ o, w.frozen? ⟨T, o, none⟩ = false) : ∀ o, ((((w.setCell ⟨T, 0, none⟩ a).setCell ⟨T, 1, none⟩ b).setCell ⟨T, 2, none⟩ c).setCell ⟨T, 3, none⟩ d).frozen? ⟨T, o, none⟩ = false := fun o => by
  rw [World.frozen?_setCell, World.frozen?_setCell, World.frozen?_setCell, World.frozen?_setCell]
  exact hz o
theorem put_all {w : World} {T : Nat} {y : Fv} {a b c d : Value} (_he : y.enc = [a, b, c, d]) (hr : ∃ v0 v1 v2 v3, w.cell? ⟨T, 0, none⟩ = some v0 ∧ w.cell? ⟨T, 1, none⟩ = some v1 ∧ w.cell? ⟨T, 2, none⟩ = some v2 ∧ w.cell? ⟨T, 3, none⟩ = some v3) (hy : Ok w y) (hT : T ∉ fp y) :
    ∃ W, (((w.setCell ⟨T, 0, none⟩ a).setCell ⟨T, 1, none⟩ b).setCell ⟨T, 2, none⟩ c).setCell ⟨T, 3, none⟩ d = W ∧ W.rangeAt T 0 [a, b, c, d] ∧ Ok W y ∧ (∀ b' o, b' ≠ T → W.cell? ⟨b', o, none⟩ = w.cell? ⟨b', o, none⟩) ∧ (∀ b' o, b' ≠ T → W.frozen? ⟨b', o, none⟩ = w.frozen? ⟨b', o, none⟩) ∧ (∀ B (w0 : World), B ≤ T → Below B w0 w → Below B w0 W) ∧ (∀ y', Ok w y' → T ∉ fp y' → Ok W y') := by
  refine ⟨_, rfl, ?_⟩
  have hc : Chs [T] w ((((w.setCell ⟨T, 0, none⟩ a).setCell ⟨T, 1, none⟩ b).setCell ⟨T, 2, none⟩ c).setCell ⟨T, 3, none⟩ d) := by
    refine Chs.setc (Chs.setc (Chs.setc (Chs.setc (Chs.of_below (Below.refl _ _)) (.inr ?_) _) (.inr ?_) _) (.inr ?_) _) (.inr ?_) _
    all_goals simp
  have hh : ∀ k, k ≠ T → ((((w.setCell ⟨T, 0, none⟩ a).setCell ⟨T, 1, none⟩ b).setCell ⟨T, 2, none⟩ c).setCell ⟨T, 3, none⟩ d).heap[k]? = w.heap[k]? := fun k hk => by
    rw [Below.heap_setCell _ ⟨T, 3, none⟩ _ _ hk, Below.heap_setCell _ ⟨T, 2, none⟩ _ _ hk, Below.heap_setCell _ ⟨T, 1, none⟩ _ _ hk, Below.heap_setCell _ ⟨T, 0, none⟩ _ _ hk]
  have hk : ∀ y', Ok w y' → T ∉ fp y' → Ok ((((w.setCell ⟨T, 0, none⟩ a).setCell ⟨T, 1, none⟩ b).setCell ⟨T, 2, none⟩ c).setCell ⟨T, 3, none⟩ d) y' := fun y' h1 h2 => hc.ok h1 fun b' hb c' => by simp at c'; subst c'; exact h2 hb
  obtain ⟨v0, v1, v2, v3, h0, h1, h2, h3⟩ := hr
  refine ⟨?_, hk y hy hT, fun b' o hb => World.cell?_of_block (a := ⟨b', o, none⟩) (hh b' hb), fun b' o hb => World.frozen?_of_block (a := ⟨b', o, none⟩) (hh b' hb), fun B w0 hB hb => ?_, hk⟩
  · intro j u hj
    have hjl := (List.getElem?_eq_some_iff.1 hj).1
    have hs : ∀ j, j < [a, b, c, d].length → (w.cell? ⟨T, 0 + j, none⟩).isSome = true := fun j hj => by
      match j, hj with
      | 0, _ => rw [Nat.add_zero, h0]; rfl
      | 1, _ => rw [Nat.zero_add, h1]; rfl
      | 2, _ => rw [Nat.zero_add, h2]; rfl
      | 3, _ => rw [Nat.zero_add, h3]; rfl
    have := World.cell?_setCells_in T [a, b, c, d] 0 w hs j hjl
    rw [(List.getElem?_eq_some_iff.1 hj).2] at this
    exact this
  · refine Below.setCell (Below.setCell (Below.setCell (Below.setCell hb ?_ _) ?_ _) ?_ _) ?_ _
    all_goals exact hB
/-- what Simplify answers, in plain words -/
def SimP (R : Fm) (w : World) (r : Ending) (w' : World) : Prop :=
  ∃ (g : Fv) (go gv gn : Int) (gp : Option Addr) (kg gc : Nat), r = .returned (.tuple #[.agg #[.int .i64 go, .int .i64 gv, .int .i64 gn, .slice gp kg gc], .int .i64 0]) ∧ Hid (g.enc.toArray = #[.int .i64 go, .int .i64 gv, .int .i64 gn, .slice gp kg gc]) ∧ Hid (Ok w' g) ∧ Hid (ct g = R) ∧ Hid (∀ b ∈ fp g, w.heap.size ≤ b) ∧ Hid (Below w.heap.size w w')
end Kl
theorem klEvalI (x : Kl.Fv) (vv : Value) (vs : List Int) (w : World) (hx : Kl.Ok w x) (hv : Kl.Ts w vv vs) (hs : Kl.sz (Kl.ct x) ≤ 1048576) (hi : Kl.isF (Kl.ct x) 131072 = Kl.isG (Kl.ct x)) : Calls Try.prog 27 #[.agg x.enc.toArray, vv] w fun e w' => e = .returned (.tuple #[.int .i64 (if Kl.okE vs (Kl.ct x) then Kl.ev vs (Kl.ct x) else 0), .int .i64 (Kl.erO (Kl.okE vs (Kl.ct x)))]) ∧ Below w.heap.size w w' := by
  have CC := hide' (fun w' (g : Below w.heap.size w w') => klCheckWith x vv vs w' (hx.below g) (hv.below g))
  have CW := hide' (fun (hG : Kl.isG (Kl.ct x) = true) w' (g : Below w.heap.size w w') => klWorth vv vs x (by obtain ⟨p, c, e, _⟩ := hv; exact ⟨p, _, c, e⟩) w' hG (by omega) (hx.below g) (hv.below g))
  rw [hi] at CC
  have HG : Hid (Kl.okE vs (Kl.ct x) = true → Kl.isG (Kl.ct x) = true) := fun h => by unfold Kl.okE at h; simp at h; exact h.2
  have hok : (Kl.goodL vs && Kl.isG (Kl.ct x)) = Kl.okE vs (Kl.ct x) := rfl
  rw [hok] at CC
  obtain ⟨t, ht⟩ : ∃ t, Kl.okE vs (Kl.ct x) = t := ⟨_, rfl⟩
  obtain ⟨s, hS⟩ : ∃ s, Kl.ev vs (Kl.ct x) = s := ⟨_, rfl⟩
  simp only [ht, hS] at CC CW HG ⊢
  obtain ⟨pv, cv, rfl, _⟩ := hv
  obtain ⟨nv, hnv⟩ : ∃ n, vs.length = n := ⟨_, rfl⟩
  obtain ⟨xo, xv, xn, xp, xc, xl⟩ := x
  obtain ⟨kx, hkx⟩ : ∃ k, xl.length = k := ⟨_, rfl⟩
  simp only [Kl.Fv.enc, hkx, hnv] at CC CW ⊢
  obtain ⟨W, hWd⟩ : ∃ W, w.alloc (.cells #[.int .i64 xo, .int .i64 xv, .int .i64 xn, .slice xp kx xc] 37) = W := ⟨_, rfl⟩
  have HGW : Hid (Below w.heap.size w W) := by rw [← hWd]; exact (Below.refl _ _).alloc (Nat.le_refl _) _
  have HB0 : Hid (W.cell? ⟨w.heap.size, 0, none⟩ = some (.int .i64 xo) ∧ W.cell? ⟨w.heap.size, 1, none⟩ = some (.int .i64 xv) ∧ W.cell? ⟨w.heap.size, 2, none⟩ = some (.int .i64 xn) ∧ W.cell? ⟨w.heap.size, 3, none⟩ = some (.slice xp kx xc)) := by rw [← hWd]; refine ⟨?_, ?_, ?_, ?_⟩ <;> simp
  obtain ⟨g0, g1, g2, g3⟩ := HB0.out
  have HWd := hide' hWd
  clear hx hs hi ht hS hkx hWd HB0 hok hnv
  go_enter Try.func27, Try.ntmps27
  go_wp2_with fail
  rw [HWd.out]
  refine (CC.out W HGW.out).mono ?_
  rintro e w1 ⟨rfl, HG1⟩
  have q0 := HG1.cell g0
  have q1 := HG1.cell g1
  have q2 := HG1.cell g2
  have q3 := HG1.cell g3
  have HB1 := hide' (HGW.out.trans (HG1.below.mono HGW.out.size))
  clear HG1 g0 g1 g2 g3 CC
  cases t with
  | false =>
    simp only [Kl.erO]
    go_wp2_with fail
    refine bodyPost_ret (v := .tuple #[.int .i64 0, .int .i64 6]) (by simp [results, Try.results27, go_sem]) rfl ?_
    exact ⟨rfl, HB1.out⟩
  | true =>
    have CW2 := hide' (CW.out (HG.out (by first | rfl | trivial)))
    clear CW HG
    simp only [Kl.erO]
    go_wp2_with fail
    refine (CW2.out _ HB1.out).mono ?_
    rintro e w2 ⟨rfl, hb2⟩
    have HB2 := hide' (HB1.out.trans (hb2.mono HB1.out.size))
    clear hb2 q0 q1 q2 q3
    go_wp2_with fail
    refine bodyPost_ret (v := .tuple #[.int .i64 s, .int .i64 0]) (by simp [results, Try.results27, go_sem]) rfl ?_
    exact ⟨rfl, HB2.out⟩
theorem klSimplifyP (x : Kl.Fv) (vv : Value) (vs : List Int) (R : Kl.Fm) (w : World) (hx : Kl.Ok w x) (hv : Kl.Ts w vv vs) (hs : Kl.sz (Kl.ct x) ≤ 1048576) (hg : Kl.goodL vs = true) (hi : Kl.isF (Kl.ct x) 131072 = true) (hG : Kl.isG (Kl.ct x) = true) (hR : Kl.rs vs (Kl.ct x) = R) : Calls Try.prog 28 #[.agg x.enc.toArray, vv] w (Kl.SimP R w) := by
  refine (klSimplify x vv vs w hx hv hs hg hi).mono fun r w2 h => ?_
  obtain ⟨g, go, gv, gn, gp, kg, gc, k1, k2, k3, k4, k5, k6⟩ := h
  exact ⟨g, go, gv, gn, gp, kg, gc, k1, by show g.enc.toArray = _; rw [k2.out], k3.ok, by show _ = _; rw [k4, (Kl.lse_rs vs _ hG).1, hR], k5, k6⟩
end Go.Proofs.Ytipnhfnjoaoceaa
