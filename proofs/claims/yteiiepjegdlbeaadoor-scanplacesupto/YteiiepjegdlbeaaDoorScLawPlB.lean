import Derived.Test.YteiiepjegdlbeaaDoorScTold
import Derived.Test.YteiiepjegdlbeaaDoorScBadM
import Derived.Test.YteiiepjegdlbeaaDoorScAwake
import Derived.BigQuiet
namespace Go.Proofs.YteiiepjegdlbeaaDoor
open Go.RowKit Go.Lib
namespace Sc
structure Lies (f : Nat → Nat) (n at_ x y : Nat) (t : Tk) (r : List Tk) : Prop where
 fm : t.fm = plw f n x
 til : t.til = plw f n y
 rise : at_ ≤ x
 lt : x < y
 le : y ≤ n
 text : t.kind = 0 → t.text ≠ [] ∧ y < n ∧ f y = 60 ∧ ∃ t2 r2, r = t2 :: r2 ∧ t2.fm = t.til
 tag : t.kind ≠ 0 → f x = 60 ∧ 2 ≤ y ∧ x + 1 < n ∧ f (y - 1) = 62 ∧ (t.kind = 3 ↔ f (y - 2) = 47 ∧ f (x + 1) ≠ 47)
def PlOk (f : Nat → Nat) (n : Nat) : Nat → List Tk → Prop
 | _, [] => True
 | a, t :: r => ∃ x y, Lies f n a x y t r ∧ PlOk f n y r
theorem lies_tag {f : Nat → Nat} {n a at_ inn : Nat} {nm : List UInt8} {k : Wk} {r : List Tk} (h : Steps inn nm (Rn.off f a) (n - a) {} k) (h0 : k.how = 0) (hk : k.kind ≠ 0) (ha : a ≤ n) (hat : at_ ≤ a + k.tg) : Lies f n at_ (a + k.tg) (a + k.ps) (tkG f n a k) r := by
 have q1 := h.lg (lg_new _)
 have q2 := h.sl (sl_new _)
 have q3 := (tks_len (f := f) (n := n) (a := a) h h0).2.2
 have q4 := h.within (Nat.zero_le _)
 obtain ⟨g1, g2, g3⟩ := q1.gt h0
 have e1 : f (a + k.tg) = 60 := q1.lt g3
 have e2 : f (a + k.fr) = 62 := g2
 have hne : k.tg ≠ k.fr := fun e => by rw [e, e2] at e1; cases e1
 have e3 := q2.all h0
 refine ⟨rfl, rfl, hat, by omega, by omega, fun e => absurd e hk, fun _ => ⟨e1, by omega, by omega, ?_, ?_⟩⟩
 · rw [show a + k.ps - 1 = a + k.fr by omega]
   exact e2
 · rw [show a + k.ps - 2 = a + (k.ps - 2) by omega, show a + k.tg + 1 = a + (k.tg + 1) by omega]
   exact e3
theorem lies_text {f : Nat → Nat} {n a at_ inn : Nat} {nm : List UInt8} {k : Wk} {r : List Tk} (h : Steps inn nm (Rn.off f a) (n - a) {} k) (h0 : k.how = 0) (ht : k.text ≠ []) (ha : a ≤ n) (hat : at_ ≤ a) : Lies f n at_ (a + k.tf) (a + k.tg) (tkT f n a k) (tkG f n a k :: r) := by
 have q1 := h.lg (lg_new _)
 have q3 := tks_len (f := f) (n := n) (a := a) h h0
 have q4 := h.within (Nat.zero_le _)
 obtain ⟨g1, g2, g3⟩ := q1.gt h0
 have e1 : f (a + k.tg) = 60 := q1.lt g3
 have := q3.2.1 ht
 have := q3.2.2
 exact ⟨rfl, rfl, by omega, by omega, by omega, fun _ => ⟨ht, by omega, e1, _, _, rfl, rfl⟩, fun e => absurd rfl e⟩
theorem Told.places {f : Nat → Nat} {n a b : Nat} {s u : Dr} {T : List Tk} (h : Told f n a s T b u) : ∀ (at_ : Nat), at_ ≤ a → a ≤ n → PlOk f n at_ T := by
 induction h with
 | refl => exact fun _ _ _ => trivial
 | @cons a b s u T k h h0 r ih =>
   intro at_ hat ha
   have q3 := (tks_len (f := f) (n := n) (a := a) h h0).2
   have q4 := h.within (Nat.zero_le _)
   have hk : k.kind ≠ 0 := by
     rcases (h.kd (kd_new _)).kd h0 with e | e | e
     · omega
     · omega
     · have := e.1; omega
   have hr := ih (a + k.ps) (Nat.le_refl _) (by omega)
   unfold tks
   by_cases c : k.text = []
   · rw [if_pos c]
     exact ⟨_, _, lies_tag h h0 hk ha (by omega), hr⟩
   · rw [if_neg c]
     exact ⟨_, _, lies_text h h0 c ha hat, _, _, lies_tag h h0 hk ha (Nat.le_refl _), hr⟩
theorem tcells_at {l : List TkV} {i : Nat} (h : i < l.length) {j : Nat} (hj : j < 12) : (tcells l)[12 * i + j]? = ((l[i]).arr)[j]? := by
 induction l generalizing i with
 | nil => simp at h
 | cons a r ih =>
   have e : tcells (a :: r) = a.arr.toList ++ tcells r := by simp [tcells]
   have ea : a.arr.toList.length = 12 := by simp [TkV.arr, tokA]
   rw [e]
   cases i with
   | zero =>
     rw [List.getElem?_append_left (by omega)]
     simp
   | succ i =>
     have := ih (i := i) (by simpa using h)
     rw [List.getElem?_append_right (by omega), ea, show 12 * (i + 1) + j - 12 = 12 * i + j by omega]
     simpa using this
theorem tok_cells {w : World} {B : Nat} {v : Value} {l : List TkV} (h : w.ownsRow B 43 12 v l.length (tcells l)) {i : Nat} (hi : i < l.length) : ∃ g cap, v = .slice (some ⟨g, 0, none⟩) l.length cap ∧ l.length ≤ cap ∧ cap ≤ maxLen ∧ g < w.heap.size ∧ ∀ i, (hi : i < l.length) → ∀ j x, ((l[i]).arr)[j]? = some x → w.cell? ⟨g, i * 12 + j, none⟩ = some x := by
 rcases h.2 with ⟨_, e⟩ | ⟨g, cap, cur, e, _, hg, h1, h2, _⟩
 · omega
 · refine ⟨g, cap, e, h1, h2, lt_of_heap hg, fun i hi j x hx => ?_⟩
   have hj : j < 12 := by
     rcases Nat.lt_or_ge j 12 with k | k
     · exact k
     · rw [Array.getElem?_eq_none (by simp [TkV.arr, tokA]; omega)] at hx
       cases hx
   have := World.ownsRow.cells h (g := g) (by rw [e]; rfl) (12 * i + j) _ ((tcells_at hi hj).trans hx)
   rw [Addr.add_lit, Nat.zero_add, Nat.mul_comm] at this
   exact this
theorem plw_plc (f : Nat → Nat) (n x : Nat) : plw f n x = (x, Rn.plc f n x) := by
 show ((0 : Nat) + x, Rn.plcFrom f n x x 0 0 1 1) = (x, Rn.plcFrom f n x x 0 0 1 1)
 rw [Nat.zero_add]
set_option maxHeartbeats 2000000 in
theorem at_empty (ad : Addr) (cap : Nat) (_hm : cap ≤ 9223372036854775807) (f : Nat → Nat) (w : World) : Calls Tryd.prog 15 #[.slice (some ad) 0 cap, .int .i64 0] w fun e w' => e = .returned (.tuple #[.agg #[.int .i64 0, .int .i64 0, .int .i64 1, .int .i64 1], .int .i64 0]) ∧ Below w.heap.size w w' := by
 have hcv : ∀ W, (convert 22 9 (.slice (some ad) 0 cap)).run Tryd.prog W = .ok (.string (Rn.arr f 0)) W := fun W => run_convert_bytes_back (P := Tryd.prog) W 22 9 5 ad cap [] Tryd.underlying22 Tryd.underlying5 Tryd.underlying9 (fun j hj => by cases hj)
 go_enter Tryd.func15, Tryd.ntmps15
 go_wp2
 go_loopw [] (fun wr => wr = atW w (Rn.arr f 0) 0 0 0 1 1) (fun _ => 0)
 case atStart => unfold atW; go_num
 case round =>
   subst hrel
   have hnx := fun W hk ty => next_alloc_end W (w.heap.size + 1 + 1) hk f 0 0 (Nat.lt_irrefl 0) ty
   clear hcv
   unfold atW
   go_wp2_with fail
   refine bodyPost_ret (v := .tuple #[.agg #[.int .i64 0, .int .i64 0, .int .i64 1, .int .i64 1], .int .i64 0]) (by simp [results, Tryd.results15, go_sem]) rfl ⟨rfl, ?_⟩
   exact (((Below.refl w.heap.size w).alloc (Nat.le_refl _) _).alloc (by simp) _).alloc (by simp; omega) _
set_option maxHeartbeats 2000000 in
theorem at_nil (f : Nat → Nat) (w : World) : Calls Tryd.prog 15 #[.slice none 0 0, .int .i64 0] w fun e w' => e = .returned (.tuple #[.agg #[.int .i64 0, .int .i64 0, .int .i64 1, .int .i64 1], .int .i64 0]) ∧ Below w.heap.size w w' := by
 have hcv := conv_nil f
 go_enter Tryd.func15, Tryd.ntmps15
 go_wp2
 go_loopw [] (fun wr => wr = atW w (Rn.arr f 0) 0 0 0 1 1) (fun _ => 0)
 case atStart => unfold atW; go_num
 case round =>
   subst hrel
   have hnx := fun W hk ty => next_alloc_end W (w.heap.size + 1 + 1) hk f 0 0 (Nat.lt_irrefl 0) ty
   clear hcv
   unfold atW
   go_wp2_with fail
   refine bodyPost_ret (v := .tuple #[.agg #[.int .i64 0, .int .i64 0, .int .i64 1, .int .i64 1], .int .i64 0]) (by simp [results, Tryd.results15, go_sem]) rfl ⟨rfl, ?_⟩
   exact (((Below.refl w.heap.size w).alloc (Nat.le_refl _) _).alloc (by simp) _).alloc (by simp; omega) _
theorem at_arg {w : World} {f : Nat → Nat} {n : Nat} {v : Value} (hA : ArgS w f n v) (hf : ∀ j, f j < 256) (hn : n ≤ 1073741824) (a : Nat) (ha : a ≤ n) :
   Calls Tryd.prog 15 #[v, .int .i64 a] w fun e w' => e = .returned (.tuple #[plaV (plw f n a), .int .i64 0]) ∧ Below w.heap.size w w' := by
 rw [plw_plc]
 cases hA with
 | nil h =>
   obtain rfl : a = 0 := by omega
   exact at_nil f w
 | some ad cap h1 h2 hc hp =>
   by_cases h0 : 0 < n
   · obtain ⟨q, o, rfl⟩ := hp h0
     exact at_in f n q o cap a w hf ha h1 h2 (by omega) (fun j hj => by have := hc j hj; rw [Addr.add_lit] at this; exact this)
   · obtain rfl : n = 0 := by omega
     obtain rfl : a = 0 := by omega
     exact at_empty ad cap h2 f w
theorem stop_place {f : Nat → Nat} {n : Nat} {how : Nat} {p : Nat × Nat × Nat × Nat} {D B : Nat} {T : List Tk} {u : Dr} {R : Raw} {w : World} (h : StopE f n true 0 {} D B T u R w how p) : PlOk f n 0 T ∧ T.length ≤ n ∧ ((how = 3 ∧ p = (0, 0, 0, 0)) ∨ (how = 2 ∧ ∃ x, x ≤ n ∧ p = plw f n x)) := by
 have hle := stop_how h.math
 obtain ⟨b, k, hT, hF, _, _, _, _, hb, _, _, hS, _⟩ := h
 refine ⟨hT.places 0 (Nat.le_refl _) (Nat.zero_le _), by have := hT.len; omega, ?_⟩
 rcases hF.how with e | e
 · by_cases c : u.inn = 2 ∧ k.st = 0
   · exact .inl (hS.done e rfl c)
   · exact .inr ⟨(hS.over e rfl c).1, n, Nat.le_refl _, (hS.over e rfl c).2⟩
 · obtain ⟨h1, h2⟩ := hS.bad e
   rcases hle with h3 | ⟨_, h3, _⟩
   · omega
   · exact .inr ⟨h1, b + k.bad, by rw [h2] at h3; have : (0 : Nat) + (b + k.bad) ≤ n := h3; omega, h2⟩
end Sc
end Go.Proofs.YteiiepjegdlbeaaDoor
