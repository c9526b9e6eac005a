import Derived.Test.YtcnagbkdckipnaaGreatDoorChTab
import Derived.Test.YtcnagbkdckipnaaGreatDoorLxWord
import Derived.Test.YtcnagbkdckipnaaGreatDoorLxReadD
import Derived.Deep.RegionHeld3
/-
  The mathematics of places: one behind the other.
-/
namespace Go.Proofs.YtcnagbkdckipnaaGreatDoor
open Go.RowKit Go.Lib
namespace Lx
open Rn
open _root_.Go.Proofs.YtcnagbkdckipnaaGreatDoor.Fd
/-- one character further -/
def stq (f : Nat → Nat) (N p r : Nat) (s : Nat × Nat × Nat) : Nat × Nat × Nat := if lineEnd f N p r = true then (s.1 + 1, s.2.1 + 1, 1) else (s.1 + 1, s.2.1, s.2.2 + 1)
theorem whole_fits {f : Nat → Nat} {m n : Nat} (h : whole f n = true) (hm : fs f n ≤ m) : whole f m = true ∧ fs f m = fs f n := by
  rcases Nat.le_total m n with q | q
  · have a := whole_down h hm q
    exact ⟨a, (whole_up a q).2.symm⟩
  · exact whole_up h q
theorem plcq_one {f : Nat → Nat} {N p a fuel : Nat} (hf : ∀ j, f j < 256) (h : whole (off f p) (N - p) = true) (ha : p + fs (off f p) (N - p) ≤ a) (s : Nat × Nat × Nat) :
    plcFrom f N a (fuel + 1) p s.1 s.2.1 s.2.2 = plcFrom f N a fuel (p + fs (off f p) (N - p)) (stq f N p (fv (off f p)) s).1 (stq f N p (fv (off f p)) s).2.1 (stq f N p (fv (off f p)) s).2.2 := by
  obtain ⟨a1, a2, a3, a4⟩ := whole_lt h
  obtain ⟨b1, b2⟩ := whole_fits (m := a - p) h (by omega)
  have hd := dec_whole (off f p) (a - p) (fun _ => hf _) (by omega)
  rw [b1, if_pos rfl, b2] at hd
  show (if a ≤ p then _ else _) = _
  unfold stq
  rw [if_neg (by omega), hd]
  dsimp only
  split <;> rfl
theorem plcq_run {f : Nat → Nat} {N : Nat} (hf : ∀ j, f j < 256) {p q : Nat} (h : Run f N p q) : ∃ (k : Nat) (W : Nat × Nat × Nat → Nat × Nat × Nat), ∀ (a fuel : Nat) (s : Nat × Nat × Nat), q ≤ a → a ≤ p + fuel →
    a ≤ q + (fuel - k) ∧ plcFrom f N a fuel p s.1 s.2.1 s.2.2 = plcFrom f N a (fuel - k) q (W s).1 (W s).2.1 (W s).2.2 := by
  induction h with
  | refl p => exact ⟨0, id, fun a fuel s h1 h2 => ⟨h2, rfl⟩⟩
  | @step p q h r ih =>
    obtain ⟨k, W, hW⟩ := ih
    have hle := r.le
    obtain ⟨a1, a2, a3, a4⟩ := whole_lt h
    refine ⟨k + 1, fun s => W (stq f N p (fv (off f p)) s), fun a fuel s h1 h2 => ?_⟩
    obtain ⟨m, rfl⟩ : ∃ m, fuel = m + 1 := ⟨fuel - 1, by omega⟩
    rw [plcq_one hf h (by omega)]
    have := hW a m (stq f N p (fv (off f p)) s) h1 (by omega)
    rw [show m + 1 - (k + 1) = m - k by omega]
    exact this
/-- more than enough is as good as enough -/
theorem plcq_fuel {f : Nat → Nat} {N a : Nat} (hf : ∀ j, f j < 256) : ∀ (x y p rn ln co : Nat), a ≤ p + x → a ≤ p + y → plcFrom f N a x p rn ln co = plcFrom f N a y p rn ln co
  | 0, y, p, rn, ln, co, hx, _ => by rw [plcFrom_end _ _ _ _ _ _ _ _ (by omega), plcFrom_end _ _ _ _ _ _ _ _ (by omega)]
  | x + 1, 0, p, rn, ln, co, _, hy => by rw [plcFrom_end _ _ _ _ _ _ _ _ (by omega), plcFrom_end _ _ _ _ _ _ _ _ (by omega)]
  | x + 1, y + 1, p, rn, ln, co, hx, hy => by
    unfold plcFrom
    by_cases c : a ≤ p
    · rw [if_pos c, if_pos c]
    · rw [if_neg c, if_neg c]
      have q := dec_pos (off f p) (a - p) (fun _ => hf _) (by omega)
      split
      · exact plcq_fuel hf x y _ _ _ _ (by omega) (by omega)
      · exact plcq_fuel hf x y _ _ _ _ (by omega) (by omega)
/-- from a later byte on -/
theorem plcq_off {f : Nat → Nat} {n d a : Nat} (hd : d ≤ n) : ∀ (x p rn ln co : Nat), p < n - d ∨ a ≤ p → a ≤ n - d → plcFrom (off f d) (n - d) a x p rn ln co = plcFrom f n (d + a) x (d + p) rn ln co
  | 0, p, rn, ln, co, _, _ => rfl
  | x + 1, p, rn, ln, co, hp, ha => by
    by_cases c : a ≤ p
    · rw [plcFrom_end _ _ _ _ _ _ _ _ c, plcFrom_end _ _ _ _ _ _ _ _ (by omega)]
    · have e : ∀ r, lineEnd (off f d) (n - d) p r = lineEnd f n (d + p) r := by
        intro r
        have q : (p + 1 = n - d ∨ f (d + p + 1) ≠ 10) ↔ (d + p + 1 = n ∨ f (d + p + 1) ≠ 10) := by
          constructor
          · rintro (q | q)
            · exact .inl (by omega)
            · exact .inr q
          · rintro (q | q)
            · exact .inl (by omega)
            · exact .inr q
        show (if r = 13 then decide (p + 1 = n - d ∨ f (d + p + 1) ≠ 10) else decide (r = 10)) = (if r = 13 then decide (d + p + 1 = n ∨ f (d + p + 1) ≠ 10) else decide (r = 10))
        simp only [q]
      have e2 : d + (p + (dec (off f (d + p)) (a - p)).2) = d + p + (dec (off f (d + p)) (a - p)).2 := by omega
      have e3 := fun ln' co' => plcq_off (f := f) (n := n) (d := d) (a := a) hd x (p + (dec (off f (d + p)) (a - p)).2) (rn + 1) ln' co' (by omega) ha
      have e4 : d + a - (d + p) = a - p := by omega
      unfold plcFrom
      rw [if_neg c, if_neg (fun q => c (Nat.le_of_add_le_add_left q)), off_off, e4, e, e3, e3, e2]
/-- a place behind a place: where the first lies behind whole characters -/
theorem plcq_add {f : Nat → Nat} {n d a : Nat} (hf : ∀ j, f j < 256) (h : Run f n 0 d) (hd : d + a ≤ n) (s : Nat × Nat × Nat) :
    plcFrom (off f d) (n - d) a a 0 (plcFrom f n d d 0 s.1 s.2.1 s.2.2).1 (plcFrom f n d d 0 s.1 s.2.1 s.2.2).2.1 (plcFrom f n d d 0 s.1 s.2.1 s.2.2).2.2 = plcFrom f n (d + a) (d + a) 0 s.1 s.2.1 s.2.2 := by
  obtain ⟨k, W, hW⟩ := plcq_run hf h
  have e0 : plcFrom f n d d 0 s.1 s.2.1 s.2.2 = W s := by
    rw [(hW d d s (Nat.le_refl _) (by omega)).2, plcFrom_end _ _ _ _ _ _ _ _ (Nat.le_refl _)]
  obtain ⟨d1, d2⟩ := hW (d + a) (d + a) s (by omega) (by omega)
  rw [e0, d2, plcq_off (by omega) a 0 _ _ _ (by omega) (by omega), Nat.add_zero]
  exact plcq_fuel hf _ _ _ _ _ _ (by omega) d1

theorem plcF_bound {f : Nat → Nat} {n a : Nat} (hf : ∀ j, f j < 256) : ∀ (k p rn ln co : Nat), p ≤ a →
    (plcFrom f n a k p rn ln co).1 ≤ rn + (a - p) ∧ ln ≤ (plcFrom f n a k p rn ln co).2.1 ∧ (plcFrom f n a k p rn ln co).2.1 ≤ ln + (a - p) ∧ (plcFrom f n a k p rn ln co).2.2 ≤ co + 1 + (a - p) ∧ (1 ≤ co → 1 ≤ (plcFrom f n a k p rn ln co).2.2)
  | 0, p, rn, ln, co, h => by
    show rn ≤ _ ∧ ln ≤ ln ∧ ln ≤ _ ∧ co ≤ _ ∧ (1 ≤ co → 1 ≤ co)
    exact ⟨by omega, by omega, by omega, by omega, fun h => h⟩
  | k + 1, p, rn, ln, co, h => by
    by_cases c : a ≤ p
    · rw [plcFrom_end _ _ _ _ _ _ _ _ c]
      exact ⟨by show rn ≤ _; omega, Nat.le_refl _, by show ln ≤ _; omega, by show co ≤ _; omega, fun h => h⟩
    · have q := dec_pos (off f p) (a - p) (fun _ => hf _) (by omega)
      unfold plcFrom
      rw [if_neg c]
      split
      · obtain ⟨a1, a2, a3, a4, a5⟩ := plcF_bound (n := n) (a := a) hf k (p + (dec (off f p) (a - p)).2) (rn + 1) (ln + 1) 1 (by omega)
        exact ⟨by omega, by omega, by omega, by omega, fun _ => a5 (by omega)⟩
      · obtain ⟨a1, a2, a3, a4, a5⟩ := plcF_bound (n := n) (a := a) hf k (p + (dec (off f p) (a - p)).2) (rn + 1) ln (co + 1) (by omega)
        exact ⟨by omega, by omega, by omega, by omega, fun _ => a5 (by omega)⟩
theorem plc_bound {f : Nat → Nat} {n a : Nat} (hf : ∀ j, f j < 256) : (plc f n a).1 ≤ a ∧ 1 ≤ (plc f n a).2.1 ∧ (plc f n a).2.1 ≤ a + 1 ∧ (plc f n a).2.2 ≤ a + 2 ∧ 1 ≤ (plc f n a).2.2 := by
  obtain ⟨a1, a2, a3, a4, a5⟩ := plcF_bound (f := f) (n := n) hf a 0 0 1 1 (Nat.zero_le a)
  exact ⟨by show (plcFrom f n a a 0 0 1 1).1 ≤ a; omega, a2, by show (plcFrom f n a a 0 0 1 1).2.1 ≤ _; omega, by show (plcFrom f n a a 0 0 1 1).2.2 ≤ _; omega, a5 (by omega)⟩
/-- the place behind another one, out of the place as it would be alone -/
def shf (s r : Nat × Nat × Nat) : Nat × Nat × Nat := (s.1 + r.1, s.2.1 - 1 + r.2.1, if r.2.1 = 1 then s.2.2 - 1 + r.2.2 else r.2.2)
theorem plcF_shf {f : Nat → Nat} {n a : Nat} (R L C : Nat) : ∀ (k p x y z : Nat), 1 ≤ y → plcFrom f n a k p (R + x) (L + y) (if y = 1 then C + z else z) = (R + (plcFrom f n a k p x y z).1, L + (plcFrom f n a k p x y z).2.1, if (plcFrom f n a k p x y z).2.1 = 1 then C + (plcFrom f n a k p x y z).2.2 else (plcFrom f n a k p x y z).2.2)
  | 0, p, x, y, z, hy => rfl
  | k + 1, p, x, y, z, hy => by
    by_cases c : a ≤ p
    · rw [plcFrom_end _ _ _ _ _ _ _ _ c, plcFrom_end _ _ _ _ _ _ _ _ c]
    · have e1 := plcF_shf (f := f) (n := n) (a := a) R L C k (p + (dec (off f p) (a - p)).2) (x + 1) (y + 1) 1 (by omega)
      rw [if_neg (by omega)] at e1
      have e2 := plcF_shf (f := f) (n := n) (a := a) R L C k (p + (dec (off f p) (a - p)).2) (x + 1) y (z + 1) hy
      have e3 : (if y = 1 then C + (z + 1) else z + 1) = (if y = 1 then C + z else z) + 1 := by split <;> rfl
      rw [e3] at e2
      unfold plcFrom
      rw [if_neg c, if_neg c]
      split
      · exact e1
      · exact e2
theorem plc_shf {f : Nat → Nat} {n d a : Nat} (hf : ∀ j, f j < 256) (h : Run f n 0 d) (hd : d + a ≤ n) : shf (plc f n d) (plc (off f d) (n - d) a) = plc f n (d + a) := by
  have b := plc_bound (f := f) (n := n) (a := d) hf
  have e := plcq_add (f := f) (n := n) (d := d) (a := a) hf h hd (0, 1, 1)
  have e2 := plcF_shf (f := off f d) (n := n - d) (a := a) (plc f n d).1 ((plc f n d).2.1 - 1) ((plc f n d).2.2 - 1) a 0 0 1 1 (Nat.le_refl _)
  rw [if_pos rfl, Nat.add_zero, show (plc f n d).2.1 - 1 + 1 = (plc f n d).2.1 by omega, show (plc f n d).2.2 - 1 + 1 = (plc f n d).2.2 by omega] at e2
  have e3 : plc f n (d + a) = plcFrom f n (d + a) (d + a) 0 0 1 1 := rfl
  rw [e3, ← e]
  exact e2.symm
end Lx
end Go.Proofs.YtcnagbkdckipnaaGreatDoor
/-
  WALKS over lexis.fault and further.
-/
namespace Go.Proofs.YtcnagbkdckipnaaGreatDoor
open Go.RowKit Go.Lib
namespace Lx
/-- the cells of a place -/
def plA (p : Nat × Nat × Nat × Nat) : Array Value := #[.int .i64 (p.1 : Nat), .int .i64 (p.2.1 : Nat), .int .i64 (p.2.2.1 : Nat), .int .i64 (p.2.2.2 : Nat)]
theorem two_new (w : World) (A B : Obj) : ((w.alloc A).alloc B).drew.heap[w.heap.size]? = some A ∧ ((w.alloc A).alloc B).drew.heap[w.heap.size + 1]? = some B ∧ Below w.heap.size w ((w.alloc A).alloc B).drew := by
  refine ⟨?_, ?_, (((Below.refl w.heap.size w).alloc (Nat.le_refl _) _).alloc (by simp) _).drew⟩
  · show ((w.heap.push A).push B)[w.heap.size]? = _
    rw [Array.getElem?_push_lt (by simp), Array.getElem_push_eq]
  · show ((w.heap.push A).push B)[w.heap.size + 1]? = _
    have := Array.getElem?_push_size (xs := w.heap.push A) (x := B)
    simpa using this
theorem three_new (w : World) (A B C : Obj) : (((w.alloc A).alloc B).drew.alloc C).heap[w.heap.size]? = some A ∧ (((w.alloc A).alloc B).drew.alloc C).heap[w.heap.size + 1]? = some B ∧ Below w.heap.size w (((w.alloc A).alloc B).drew.alloc C) := by
  obtain ⟨h1, h2, h3⟩ := two_new w A B
  have hs : ((w.alloc A).alloc B).drew.heap.size = w.heap.size + 1 + 1 := by show ((w.heap.push A).push B).size = _; simp
  have hb := (Below.refl ((w.alloc A).alloc B).drew.heap.size ((w.alloc A).alloc B).drew).alloc (Nat.le_refl _) C
  exact ⟨(hb.block _ (by omega)).trans h1, (hb.block _ (by omega)).trans h2, h3.alloc (by omega) _⟩
theorem three_last (w : World) (A B C : Obj) : (((w.alloc A).alloc B).drew.alloc C).heap[w.heap.size + 1 + 1]? = some C := by
  have := heap_new ((w.alloc A).alloc B).drew C
  rwa [show ((w.alloc A).alloc B).drew.heap.size = w.heap.size + 1 + 1 by show ((w.heap.push A).push B).size = _; simp] at this
end Lx

set_option maxRecDepth 100000 in
set_option maxHeartbeats 2000000 in
theorem fault_any (f : Nat → Nat) (n b off cap a : Nat) (why : Int) (w : World) (hf : ∀ j, f j < 256) (ha : a ≤ n) (hc : n ≤ cap) (hm : cap ≤ maxLen) (hbig : n ≤ 4611686018427387904) (hp : Bytes w b off n f) :
    Calls Tryz.prog 33 #[.slice (some ⟨b, off, none⟩) n cap, .int .i64 a, .int .i64 why] w fun e w' => ∃ d, e = .returned (.pointer (some ⟨d, 0, none⟩)) ∧ w.heap.size ≤ d ∧
      w'.heap[d]? = some (.cells #[.int .i64 (a : Nat), .int .i64 ((Rn.plc f n a).1 : Nat), .int .i64 ((Rn.plc f n a).2.1 : Nat), .int .i64 ((Rn.plc f n a).2.2 : Nat), .int .i64 why] 72 (0, 0)) ∧ Below w.heap.size w w' := by
  have cA := at_in f n b off cap a w hf ha hc hm hbig hp
  generalize Rn.plc f n a = P at *
  obtain ⟨x, y, z⟩ := P
  dsimp only at cA ⊢
  clear hp
  go_enter Tryz.func33, Tryz.ntmps33
  go_wp2_with fail
  refine cA.mono ?_
  rintro e w1 ⟨rfl, hb⟩
  clear cA
  go_wp2_with fail
  go_ret
  refine ⟨w1.heap.size + 1, rfl, by have := hb.size; omega, ?_, (hb.alloc hb.size _).alloc (by have := hb.size; simp; omega) _⟩
  have := Lx.heap_new (w1.alloc (.cells #[.int .i64 a, .int .i64 x, .int .i64 y, .int .i64 z] 31)) (.cells #[.int .i64 a, .int .i64 x, .int .i64 y, .int .i64 z, .int .i64 why] 72)
  simpa using this

set_option maxRecDepth 100000 in
set_option maxHeartbeats 4000000 in
theorem further_any (f : Nat → Nat) (n b off cap d a : Nat) (w : World) (hf : ∀ j, f j < 256) (hd : d ≤ a) (ha : a < n) (hc : n ≤ cap) (hm : cap ≤ maxLen) (hbig : n ≤ 1152921504606846976) (hp : Bytes w b off n f) (hr : Fd.Run f n 0 d) :
    Calls Tryz.prog 37 #[.slice (some ⟨b, off, none⟩) n cap, .agg (Lx.plA (d, Rn.plc f n d)), .int .i64 a] w fun e w' => e = .returned (.agg (Lx.plA (a, Rn.plc f n a))) ∧ Below w.heap.size w w' := by
  have eq := Lx.plc_shf (f := f) (n := n) (d := d) (a := a - d) hf hr (by omega)
  rw [show d + (a - d) = a by omega] at eq
  have b1 := Lx.plc_bound (f := f) (n := n) (a := d) hf
  have b2 := Lx.plc_bound (f := Rn.off f d) (n := n - d) (a := a - d) (fun _ => hf _)
  have cA : ∀ W, Below w.heap.size w W → _ := fun W hb => at_in (Rn.off f d) (n - d) b (off + d) (cap - d) (a - d) W (fun _ => hf _) (by omega) (by omega) (by omega) (by omega) ((hp.below hb (Nat.le_refl _)).off (by omega))
  rw [← eq]
  unfold Lx.shf
  generalize Rn.plc (Rn.off f d) (n - d) (a - d) = R at *
  generalize Rn.plc f n d = P at *
  obtain ⟨x, y, z⟩ := P
  obtain ⟨x2, y2, z2⟩ := R
  dsimp only at cA b1 b2 ⊢
  unfold Lx.plA
  dsimp only
  have hcap : cap ≤ 9223372036854775807 := by unfold maxLen at hm; omega
  have i1 : (d : Int) ≤ n := by omega
  have i2 : (n : Int) ≤ cap := by omega
  have i3 : (0 : Int) ≤ d := by omega
  have i4 : ¬ cap = d := by omega
  have i5 : ¬ cap - d = 0 := by omega
  have i6 : (d : Int) ≤ cap := by omega
  have e1 : (n : Int) - d = ((n - d : Nat) : Int) := by omega
  have e3 : IntKind.i64.wrap ((a : Int) - d) = ((a - d : Nat) : Int) := by rw [IntKind.wrap_i64]; omega
  obtain ⟨C, hC⟩ : ∃ C, (if y2 = 1 then z - 1 + z2 else z2) = C := ⟨_, rfl⟩
  rw [hC]
  have HC := hide' hC
  clear hC
  obtain ⟨S', hSd⟩ : ∃ S' : World → Prop, S' = fun W => W.heap[w.heap.size]? = some (.cells #[.int .i64 (d : Nat), .int .i64 (x : Nat), .int .i64 (y : Nat), .int .i64 (z : Nat)] 31 (0, 0)) ∧ W.heap[w.heap.size + 1]? = some (.cells #[.int .i64 0, .int .i64 0, .int .i64 0, .int .i64 0] 31 (0, 0)) ∧ Below w.heap.size w W := ⟨_, rfl⟩
  have hSL : ∀ W, S' W → w.heap.size + 1 < W.heap.size := fun W h => by rw [hSd] at h; exact (Array.getElem?_eq_some_iff.1 h.2.1).1
  have hSB : ∀ W W8, S' W → Below W.heap.size W W8 → S' W8 := fun W W8 h hb => by
    have := hSL W h
    rw [hSd] at h ⊢
    exact ⟨(hb.block _ (by omega)).trans h.1, (hb.block _ (by omega)).trans h.2.1, h.2.2.trans (hb.mono h.2.2.size)⟩
  have hSA : ∀ W, S' W → ∀ o, S' (W.alloc o) := fun W h o => hSB _ _ h ((Below.refl _ _).alloc (Nat.le_refl _) o)
  have hSC : ∀ W T, S' W → w.heap.size + 1 < T → ∀ vs : List Value, S' (W.setCells T 0 vs) := fun W T h hT vs => by
    rw [hSd] at h ⊢
    exact ⟨(Lx.heap_far (by omega) _ _ _).trans h.1, (Lx.heap_far (by omega) _ _ _).trans h.2.1, Lx.below_cells (by omega) _ _ _ h.2.2⟩
  have hS0 : S' ((w.alloc (.cells #[.int .i64 (d : Nat), .int .i64 (x : Nat), .int .i64 (y : Nat), .int .i64 (z : Nat)] 31)).alloc (.cells #[.int .i64 0, .int .i64 0, .int .i64 0, .int .i64 0] 31)).drew := by rw [hSd]; exact Lx.two_new w _ _
  have sK : ∀ W, S' W → W.cell? ⟨w.heap.size, 0, none⟩ = some (.int .i64 (d : Nat)) := fun W h => by rw [hSd] at h; rw [Lib.cell_of_heap h.1]; rfl
  have cB : ∀ W, S' W → Calls Tryz.prog 31 #[.slice (some ⟨b, off + d, none⟩) (n - d : Nat) (cap - d : Nat), .int .i64 (a - d : Nat)] W fun e w' => e = .returned (.tuple #[.agg #[.int .i64 (a - d : Nat), .int .i64 (x2 : Nat), .int .i64 (y2 : Nat), .int .i64 (z2 : Nat)], .int .i64 0]) ∧ Below W.heap.size W w' := fun W h => by
    rw [hSd] at h
    exact cA W h.2.2
  have plInfo : (Tryz.prog.info? 31).map (·.size) = some 4 := by kernel_rfl
  have HSD := hide' hSd
  obtain ⟨WR, hWR⟩ : ∃ WR, WR = (w.alloc (.cells #[.int .i64 (d : Nat), .int .i64 (x : Nat), .int .i64 (y : Nat), .int .i64 (z : Nat)] 31)).alloc (.cells #[.int .i64 0, .int .i64 0, .int .i64 0, .int .i64 0] 31) := ⟨_, rfl⟩
  rw [← hWR] at hS0
  clear hp hm cA eq hSd
  go_enter Tryz.func37, Tryz.ntmps37
  go_wp2_with fail
  change Code.wp _ _ _ _ ((w.alloc (.cells #[.int .i64 (d : Nat), .int .i64 (x : Nat), .int .i64 (y : Nat), .int .i64 (z : Nat)] 31)).alloc (.cells #[.int .i64 0, .int .i64 0, .int .i64 0, .int .i64 0] 31))
  rw [← hWR]
  clear hWR
  refine wp_region_held_drew (S := S') (by kernel_rfl) hS0 (fun hHeld => ?_)
  simp only [List.size_toArray, List.length_cons, List.length_nil, Nat.reduceAdd]
  generalize WR.drew = W0 at hHeld hS0 ⊢
  clear hS0
  refine wpAnyH_take (i := 0) (v := .slice (some ⟨b, off, none⟩) n cap) rfl (by kernel_rfl) (by kernel_rfl) (by kernel_rfl) (fun _ _ _ h => h) (Or.inl ⟨by rfl, ?y0⟩) (by assumption) ?_
  case y0 => (intro w' hSw; have qK := sK w' hSw; go_simp; try rfl)
  try simp only [List.getElem_toArray, List.getElem_cons_zero, Act.put, List.setIfInBounds_toArray, List.set_cons_zero, List.set_cons_succ]
  refine wpAnyH_take (i := 1) (v := .pointer (some ⟨w.heap.size, 0, none⟩)) rfl (by kernel_rfl) (by kernel_rfl) (by kernel_rfl) (fun _ _ _ h => h) (Or.inl ⟨by rfl, ?y1⟩) (by assumption) ?_
  case y1 => (intro w' hSw; have qK := sK w' hSw; go_simp; try rfl)
  try simp only [List.getElem_toArray, List.getElem_cons_zero, List.getElem_cons_succ, Act.put, List.setIfInBounds_toArray, List.set_cons_zero, List.set_cons_succ]
  refine wpAnyH_take (i := 2) (v := .int .i64 (d : Nat)) rfl (by kernel_rfl) (by kernel_rfl) (by kernel_rfl) (fun _ _ _ h => h) (Or.inl ⟨by rfl, ?y2⟩) (by assumption) ?_
  case y2 => (intro w' hSw; have qK := sK w' hSw; go_simp; try rfl)
  try simp only [List.getElem_toArray, List.getElem_cons_zero, List.getElem_cons_succ, Act.put, List.setIfInBounds_toArray, List.set_cons_zero, List.set_cons_succ]
  refine wpAnyH_take (i := 3) (v := .slice (some ⟨b, off + d, none⟩) (n - d : Nat) (cap - d : Nat)) rfl (by kernel_rfl) (by kernel_rfl) (by kernel_rfl) (fun _ _ _ h => h) (Or.inl ⟨by rfl, ?y3⟩) (by assumption) ?_
  case y3 => (intro w' hSw; have qK := sK w' hSw; go_simp; try rfl)
  try simp only [List.getElem_toArray, List.getElem_cons_zero, List.getElem_cons_succ, Act.put, List.setIfInBounds_toArray, List.set_cons_zero, List.set_cons_succ]
  refine wpAnyH_take (i := 4) (v := .int .i64 (a : Nat)) rfl (by kernel_rfl) (by kernel_rfl) (by kernel_rfl) (fun _ _ _ h => h) (Or.inl ⟨by rfl, ?y4⟩) (by assumption) ?_
  case y4 => (intro w' hSw; have qK := sK w' hSw; go_simp; try rfl)
  try simp only [List.getElem_toArray, List.getElem_cons_zero, List.getElem_cons_succ, Act.put, List.setIfInBounds_toArray, List.set_cons_zero, List.set_cons_succ]
  refine wpAnyH_take (i := 5) (v := .pointer (some ⟨w.heap.size, 0, none⟩)) rfl (by kernel_rfl) (by kernel_rfl) (by kernel_rfl) (fun _ _ _ h => h) (Or.inl ⟨by rfl, ?y5⟩) (by assumption) ?_
  case y5 => (intro w' hSw; have qK := sK w' hSw; go_simp; try rfl)
  try simp only [List.getElem_toArray, List.getElem_cons_zero, List.getElem_cons_succ, Act.put, List.setIfInBounds_toArray, List.set_cons_zero, List.set_cons_succ]
  refine wpAnyH_take (i := 6) (v := .int .i64 (d : Nat)) rfl (by kernel_rfl) (by kernel_rfl) (by kernel_rfl) (fun _ _ _ h => h) (Or.inl ⟨by rfl, ?y6⟩) (by assumption) ?_
  case y6 => (intro w' hSw; have qK := sK w' hSw; go_simp; try rfl)
  try simp only [List.getElem_toArray, List.getElem_cons_zero, List.getElem_cons_succ, Act.put, List.setIfInBounds_toArray, List.set_cons_zero, List.set_cons_succ]
  refine wpAnyH_take (i := 7) (v := .int .i64 (a - d : Nat)) rfl (by kernel_rfl) (by kernel_rfl) (by kernel_rfl) (fun _ _ _ h => h) (Or.inl ⟨by rfl, ?y7⟩) (by assumption) ?_
  case y7 => (intro w' hSw; have qK := sK w' hSw; go_simp; try rfl)
  try simp only [List.getElem_toArray, List.getElem_cons_zero, List.getElem_cons_succ, Act.put, List.setIfInBounds_toArray, List.set_cons_zero, List.set_cons_succ]
  refine wpAnyH_ready (rs := [8, 12]) (by kernel_rfl) (by simp) ?_
  refine AllReadyH.cons rfl (fun K hK => ?_) ?_
  · try simp only [List.getElem_toArray, List.getElem_cons_zero, List.getElem_cons_succ]
    go_simp
    refine (cB _ hHeld).mono ?_
    rintro e W1 ⟨rfl, hb1⟩
    go_wp2_with fail
    have hS1 := hSB _ _ hHeld hb1
    refine hK.out _ _ hS1 (fun hHeld9 => ?_)
    clear hK K hHeld9
    try simp only [List.getElem_toArray, List.getElem_cons_zero, List.getElem_cons_succ, Act.put, List.setIfInBounds_toArray, List.set_cons_zero, List.set_cons_succ]
    refine wpAnyH_take (i := 9) (v := .tuple #[.agg #[.int .i64 (a - d : Nat), .int .i64 (x2 : Nat), .int .i64 (y2 : Nat), .int .i64 (z2 : Nat)], .int .i64 0]) rfl (by kernel_rfl) (by kernel_rfl) (by kernel_rfl) (fun _ _ _ h => h) (Or.inl ⟨by rfl, ?y9⟩) (by assumption) ?_
    case y9 => (intro w' hSw; have qK := sK w' hSw; go_simp; try rfl)
    try simp only [List.getElem_toArray, List.getElem_cons_zero, List.getElem_cons_succ, Act.put, List.setIfInBounds_toArray, List.set_cons_zero, List.set_cons_succ]
    refine wpAnyH_take (i := 10) (v := .agg #[.int .i64 (a - d : Nat), .int .i64 (x2 : Nat), .int .i64 (y2 : Nat), .int .i64 (z2 : Nat)]) rfl (by kernel_rfl) (by kernel_rfl) (by kernel_rfl) (fun _ _ _ h => h) (Or.inl ⟨by rfl, ?y10⟩) (by assumption) ?_
    case y10 => (intro w' hSw; have qK := sK w' hSw; go_simp; try rfl)
    try simp only [List.getElem_toArray, List.getElem_cons_zero, List.getElem_cons_succ, Act.put, List.setIfInBounds_toArray, List.set_cons_zero, List.set_cons_succ]
    refine wpAnyH_take (i := 11) (v := .int .i64 0) rfl (by kernel_rfl) (by kernel_rfl) (by kernel_rfl) (fun _ _ _ h => h) (Or.inl ⟨by rfl, ?y11⟩) (by assumption) ?_
    case y11 => (intro w' hSw; have qK := sK w' hSw; go_simp; try rfl)
    try simp only [List.getElem_toArray, List.getElem_cons_zero, List.getElem_cons_succ, Act.put, List.setIfInBounds_toArray, List.set_cons_zero, List.set_cons_succ]
    refine wpAnyH_ready (rs := [12]) (by kernel_rfl) (by simp) ?_
    refine AllReadyH.cons rfl (fun K hK => ?_) AllReadyH.nil
    try simp only [List.getElem_toArray, List.getElem_cons_zero, List.getElem_cons_succ]
    go_simp
    have hSa := hSA _ hS1 (.cells #[.int .i64 0, .int .i64 0, .int .i64 0, .int .i64 0] 31)
    have hTa := Lx.heap_new W1 (.cells #[.int .i64 0, .int .i64 0, .int .i64 0, .int .i64 0] 31)
    have hTg := hSL _ hS1
    refine hK.out _ _ hSa (fun hHeld9 => ?_)
    clear hK K hHeld9
    try simp only [List.getElem_toArray, List.getElem_cons_zero, List.getElem_cons_succ, Act.put, List.setIfInBounds_toArray, List.set_cons_zero, List.set_cons_succ]
    change wpAnyH _ _ _ _ _ _ _ _ (World.alloc W1 (.cells #[.int .i64 0, .int .i64 0, .int .i64 0, .int .i64 0] 31))
    generalize W1.alloc (.cells #[.int .i64 0, .int .i64 0, .int .i64 0, .int .i64 0] 31) = W2 at hSa hTa ⊢
    refine wpAnyH_ready (rs := [13]) (by kernel_rfl) (by simp) ?_
    refine AllReadyH.cons rfl (fun K hK => ?_) AllReadyH.nil
    try simp only [List.getElem_toArray, List.getElem_cons_zero, List.getElem_cons_succ]
    rw [if_pos (by rfl)]
    refine wp_store_mid 31 (.tmp 7) (.tmp 19) ?_ W1.heap.size 0 #[.int .i64 (a - d : Nat), .int .i64 (x2 : Nat), .int .i64 (y2 : Nat), .int .i64 (z2 : Nat)] ?_ ?_ (Lx.there_of hTa 0 4 (Nat.le_refl _)) plInfo (by simp [Value.oneCell']) ?_
    · rfl
    · rfl
    · rfl
    refine hK.out _ _ (hSC _ _ hSa hTg _) (fun hHeld9 => ?_)
    clear hK K
    try simp only [Act.put]
    have hTT := Lx.heap_setCells (#[.int .i64 (a - d : Nat), .int .i64 (x2 : Nat), .int .i64 (y2 : Nat), .int .i64 (z2 : Nat)] : Array Value).toList 0 _ _ hTa
    generalize W2.setCells W1.heap.size 0 _ = W9 at hHeld9 hTT ⊢
    try simp only [List.getElem_toArray, List.getElem_cons_zero, List.getElem_cons_succ, Act.put, List.setIfInBounds_toArray, List.set_cons_zero, List.set_cons_succ]
    refine wpAnyH_take (i := 14) (v := .int .i64 0) rfl (by kernel_rfl) (by kernel_rfl) (by kernel_rfl) (fun _ _ _ h => h) (Or.inl ⟨by rfl, ?y14⟩) (by assumption) ?_
    case y14 => (intro w' hSw; have qK := sK w' hSw; go_simp; try rfl)
    try simp only [List.getElem_toArray, List.getElem_cons_zero, List.getElem_cons_succ, Act.put, List.setIfInBounds_toArray, List.set_cons_zero, List.set_cons_succ]
    refine wpAnyH_done (by kernel_rfl) ?_ _
    generalize W1.heap.size = T at hTg hTT ⊢
    have hX := hHeld9
    rw [HSD.out] at hX
    obtain ⟨x1, x3, x4⟩ := hX
    have hTT' : W9.heap[T]? = some (.cells #[.int .i64 (a - d : Nat), .int .i64 (x2 : Nat), .int .i64 (y2 : Nat), .int .i64 (z2 : Nat)] 31 (0, 0)) := hTT
    have k1 : W9.cell? ⟨w.heap.size, 1, none⟩ = some (.int .i64 (x : Nat)) := by rw [Lib.cell_of_heap x1]; rfl
    have k2 : W9.cell? ⟨w.heap.size, 2, none⟩ = some (.int .i64 (y : Nat)) := by rw [Lib.cell_of_heap x1]; rfl
    have k3 : W9.cell? ⟨w.heap.size, 3, none⟩ = some (.int .i64 (z : Nat)) := by rw [Lib.cell_of_heap x1]; rfl
    have t0 : W9.cell? ⟨T, 0, none⟩ = some (.int .i64 (a - d : Nat)) := by rw [Lib.cell_of_heap hTT']; rfl
    have t1 : W9.cell? ⟨T, 1, none⟩ = some (.int .i64 (x2 : Nat)) := by rw [Lib.cell_of_heap hTT']; rfl
    have t2 : W9.cell? ⟨T, 2, none⟩ = some (.int .i64 (y2 : Nat)) := by rw [Lib.cell_of_heap hTT']; rfl
    have t3 : W9.cell? ⟨T, 3, none⟩ = some (.int .i64 (z2 : Nat)) := by rw [Lib.cell_of_heap hTT']; rfl
    have f0 := fun j => Lib.frozen_of_heap hTT' j
    have f1 := fun j => Lib.frozen_of_heap x3 j
    have z0 : W9.cell? ⟨w.heap.size + 1, 0, none⟩ = some (.int .i64 0) := by rw [Lib.cell_of_heap x3]; rfl
    have z1 : W9.cell? ⟨w.heap.size + 1, 1, none⟩ = some (.int .i64 0) := by rw [Lib.cell_of_heap x3]; rfl
    have z2' : W9.cell? ⟨w.heap.size + 1, 2, none⟩ = some (.int .i64 0) := by rw [Lib.cell_of_heap x3]; rfl
    have z3 : W9.cell? ⟨w.heap.size + 1, 3, none⟩ = some (.int .i64 0) := by rw [Lib.cell_of_heap x3]; rfl
    have n1 : ¬ T = w.heap.size := by omega
    have n2 : ¬ T = w.heap.size + 1 := by omega
    have n3 : ¬ w.heap.size = T := by omega
    have n4 : ¬ w.heap.size + 1 = T := by omega
    have HX4 := hide' x4
    have HX3 := hide' x3
    clear hTT hTT' x1 x3 x4 hHeld9 HSD cB hSB hSA hSC sK hSL
    by_cases hy : y2 = 1
    · have g1 : ((y2 : Int) == 1) = true := by simp [hy]
      obtain rfl : C = z - 1 + z2 := by rw [← HC.out, if_pos hy]
      clear hy HC
      go_wp2
      have hw : ((((W9.setCell ⟨T, 3, none⟩ (.int .i64 ((z2 : Int) + ((z : Int) - 1)))).setCell ⟨T, 2, none⟩ (.int .i64 ((y2 : Int) + ((y : Int) - 1)))).setCell ⟨T, 1, none⟩ (.int .i64 ((x2 : Int) + (x : Int)))).setCell ⟨T, 0, none⟩ (.int .i64 (a : Nat))).heap[w.heap.size + 1]? = some (.cells #[.int .i64 0, .int .i64 0, .int .i64 0, .int .i64 0] 31 (0, 0)) := ((RowKit.Below.heap_setCell _ _ _ _ n4).trans ((RowKit.Below.heap_setCell _ _ _ _ n4).trans ((RowKit.Below.heap_setCell _ _ _ _ n4).trans ((RowKit.Below.heap_setCell _ _ _ _ n4).trans HX3.out))))
      refine bodyPost_ret (v := .agg ([.int .i64 (a : Nat), .int .i64 ((x2 : Int) + (x : Int)), .int .i64 ((y2 : Int) + ((y : Int) - 1)), .int .i64 ((z2 : Int) + ((z : Int) - 1))] : List Value).toArray) (Lx.results_cell Tryz.results37 _ ⟨w.heap.size + 1, 0, none⟩ rfl _ _ (run_loadVar_mid (((((W9.setCell ⟨T, 3, none⟩ (.int .i64 ((z2 : Int) + ((z : Int) - 1)))).setCell ⟨T, 2, none⟩ (.int .i64 ((y2 : Int) + ((y : Int) - 1)))).setCell ⟨T, 1, none⟩ (.int .i64 ((x2 : Int) + (x : Int)))).setCell ⟨T, 0, none⟩ (.int .i64 (a : Nat))).setCells (w.heap.size + 1) 0 [.int .i64 (a : Nat), .int .i64 ((x2 : Int) + (x : Int)), .int .i64 ((y2 : Int) + ((y : Int) - 1)), .int .i64 ((z2 : Int) + ((z : Int) - 1))]) (w.heap.size + 1) 0 31 [.int .i64 (a : Nat), .int .i64 ((x2 : Int) + (x : Int)), .int .i64 ((y2 : Int) + ((y : Int) - 1)), .int .i64 ((z2 : Int) + ((z : Int) - 1))] _ (World.rangeAt_setCells_same _ _ _ _ (Lx.there_of hw 0 4 (Nat.le_refl _))) Tryz.underlying31 rfl plInfo)) rfl ⟨?_, Lx.below_cells (Nat.le_succ _) [.int .i64 (a : Nat), .int .i64 ((x2 : Int) + (x : Int)), .int .i64 ((y2 : Int) + ((y : Int) - 1)), .int .i64 ((z2 : Int) + ((z : Int) - 1))] 0 _ ((((HX4.out.setCell (p := ⟨T, 3, none⟩) (by show w.heap.size ≤ T; omega) _).setCell (p := ⟨T, 2, none⟩) (by show w.heap.size ≤ T; omega) _).setCell (p := ⟨T, 1, none⟩) (by show w.heap.size ≤ T; omega) _).setCell (p := ⟨T, 0, none⟩) (by show w.heap.size ≤ T; omega) _)⟩
      rw [show ((x2 : Int) + (x : Int)) = ((x + x2 : Nat) : Int) by omega, show ((y2 : Int) + ((y : Int) - 1)) = ((y - 1 + y2 : Nat) : Int) by omega, show ((z2 : Int) + ((z : Int) - 1)) = ((z - 1 + z2 : Nat) : Int) by omega]
    · have g1 : ((y2 : Int) == 1) = false := by simp; omega
      obtain rfl : C = z2 := by rw [← HC.out, if_neg hy]
      clear hy HC
      go_wp2
      have hw : (((W9.setCell ⟨T, 2, none⟩ (.int .i64 ((y2 : Int) + ((y : Int) - 1)))).setCell ⟨T, 1, none⟩ (.int .i64 ((x2 : Int) + (x : Int)))).setCell ⟨T, 0, none⟩ (.int .i64 (a : Nat))).heap[w.heap.size + 1]? = some (.cells #[.int .i64 0, .int .i64 0, .int .i64 0, .int .i64 0] 31 (0, 0)) := ((RowKit.Below.heap_setCell _ _ _ _ n4).trans ((RowKit.Below.heap_setCell _ _ _ _ n4).trans ((RowKit.Below.heap_setCell _ _ _ _ n4).trans HX3.out)))
      refine bodyPost_ret (v := .agg ([.int .i64 (a : Nat), .int .i64 ((x2 : Int) + (x : Int)), .int .i64 ((y2 : Int) + ((y : Int) - 1)), .int .i64 (C : Nat)] : List Value).toArray) (Lx.results_cell Tryz.results37 _ ⟨w.heap.size + 1, 0, none⟩ rfl _ _ (run_loadVar_mid ((((W9.setCell ⟨T, 2, none⟩ (.int .i64 ((y2 : Int) + ((y : Int) - 1)))).setCell ⟨T, 1, none⟩ (.int .i64 ((x2 : Int) + (x : Int)))).setCell ⟨T, 0, none⟩ (.int .i64 (a : Nat))).setCells (w.heap.size + 1) 0 [.int .i64 (a : Nat), .int .i64 ((x2 : Int) + (x : Int)), .int .i64 ((y2 : Int) + ((y : Int) - 1)), .int .i64 (C : Nat)]) (w.heap.size + 1) 0 31 [.int .i64 (a : Nat), .int .i64 ((x2 : Int) + (x : Int)), .int .i64 ((y2 : Int) + ((y : Int) - 1)), .int .i64 (C : Nat)] _ (World.rangeAt_setCells_same _ _ _ _ (Lx.there_of hw 0 4 (Nat.le_refl _))) Tryz.underlying31 rfl plInfo)) rfl ⟨?_, Lx.below_cells (Nat.le_succ _) [.int .i64 (a : Nat), .int .i64 ((x2 : Int) + (x : Int)), .int .i64 ((y2 : Int) + ((y : Int) - 1)), .int .i64 (C : Nat)] 0 _ (((HX4.out.setCell (p := ⟨T, 2, none⟩) (by show w.heap.size ≤ T; omega) _).setCell (p := ⟨T, 1, none⟩) (by show w.heap.size ≤ T; omega) _).setCell (p := ⟨T, 0, none⟩) (by show w.heap.size ≤ T; omega) _)⟩
      rw [show ((x2 : Int) + (x : Int)) = ((x + x2 : Nat) : Int) by omega, show ((y2 : Int) + ((y : Int) - 1)) = ((y - 1 + y2 : Nat) : Int) by omega]
  refine AllReadyH.cons rfl (fun K hK => ?_) AllReadyH.nil
  try simp only [List.getElem_toArray, List.getElem_cons_zero, List.getElem_cons_succ]
  go_simp
  have hSa := hSA _ hHeld (.cells #[.int .i64 0, .int .i64 0, .int .i64 0, .int .i64 0] 31)
  have hTa := Lx.heap_new W0 (.cells #[.int .i64 0, .int .i64 0, .int .i64 0, .int .i64 0] 31)
  have hTg := hSL _ hHeld
  refine hK.out _ _ hSa (fun hHeld9 => ?_)
  clear hK K hHeld9
  try simp only [List.getElem_toArray, List.getElem_cons_zero, List.getElem_cons_succ, Act.put, List.setIfInBounds_toArray, List.set_cons_zero, List.set_cons_succ]
  change wpAnyH _ _ _ _ _ _ _ _ (World.alloc W0 (.cells #[.int .i64 0, .int .i64 0, .int .i64 0, .int .i64 0] 31))
  generalize W0.alloc (.cells #[.int .i64 0, .int .i64 0, .int .i64 0, .int .i64 0] 31) = W2 at hSa hTa ⊢
  refine wpAnyH_ready (rs := [8]) (by kernel_rfl) (by simp) ?_
  refine AllReadyH.cons rfl (fun K hK => ?_) AllReadyH.nil
  try simp only [List.getElem_toArray, List.getElem_cons_zero, List.getElem_cons_succ]
  go_simp
  refine (cB _ hSa).mono ?_
  rintro e W1 ⟨rfl, hb1⟩
  go_wp2_with fail
  have hS1 := hSB _ _ hSa hb1
  have hT1 := (hb1.block _ ((Array.getElem?_eq_some_iff.1 hTa).1)).trans hTa
  refine hK.out _ _ hS1 (fun hHeld9 => ?_)
  clear hK K hHeld9
  try simp only [List.getElem_toArray, List.getElem_cons_zero, List.getElem_cons_succ, Act.put, List.setIfInBounds_toArray, List.set_cons_zero, List.set_cons_succ]
  refine wpAnyH_take (i := 9) (v := .tuple #[.agg #[.int .i64 (a - d : Nat), .int .i64 (x2 : Nat), .int .i64 (y2 : Nat), .int .i64 (z2 : Nat)], .int .i64 0]) rfl (by kernel_rfl) (by kernel_rfl) (by kernel_rfl) (fun _ _ _ h => h) (Or.inl ⟨by rfl, ?y9⟩) (by assumption) ?_
  case y9 => (intro w' hSw; have qK := sK w' hSw; go_simp; try rfl)
  try simp only [List.getElem_toArray, List.getElem_cons_zero, List.getElem_cons_succ, Act.put, List.setIfInBounds_toArray, List.set_cons_zero, List.set_cons_succ]
  refine wpAnyH_take (i := 10) (v := .agg #[.int .i64 (a - d : Nat), .int .i64 (x2 : Nat), .int .i64 (y2 : Nat), .int .i64 (z2 : Nat)]) rfl (by kernel_rfl) (by kernel_rfl) (by kernel_rfl) (fun _ _ _ h => h) (Or.inl ⟨by rfl, ?y10⟩) (by assumption) ?_
  case y10 => (intro w' hSw; have qK := sK w' hSw; go_simp; try rfl)
  try simp only [List.getElem_toArray, List.getElem_cons_zero, List.getElem_cons_succ, Act.put, List.setIfInBounds_toArray, List.set_cons_zero, List.set_cons_succ]
  refine wpAnyH_take (i := 11) (v := .int .i64 0) rfl (by kernel_rfl) (by kernel_rfl) (by kernel_rfl) (fun _ _ _ h => h) (Or.inl ⟨by rfl, ?y11⟩) (by assumption) ?_
  case y11 => (intro w' hSw; have qK := sK w' hSw; go_simp; try rfl)
  try simp only [List.getElem_toArray, List.getElem_cons_zero, List.getElem_cons_succ, Act.put, List.setIfInBounds_toArray, List.set_cons_zero, List.set_cons_succ]
  refine wpAnyH_ready (rs := [13]) (by kernel_rfl) (by simp) ?_
  refine AllReadyH.cons rfl (fun K hK => ?_) AllReadyH.nil
  try simp only [List.getElem_toArray, List.getElem_cons_zero, List.getElem_cons_succ]
  rw [if_pos (by rfl)]
  refine wp_store_mid 31 (.tmp 7) (.tmp 19) ?_ W0.heap.size 0 #[.int .i64 (a - d : Nat), .int .i64 (x2 : Nat), .int .i64 (y2 : Nat), .int .i64 (z2 : Nat)] ?_ ?_ (Lx.there_of hT1 0 4 (Nat.le_refl _)) plInfo (by simp [Value.oneCell']) ?_
  · rfl
  · rfl
  · rfl
  refine hK.out _ _ (hSC _ _ hS1 hTg _) (fun hHeld9 => ?_)
  clear hK K
  try simp only [Act.put]
  have hTT := Lx.heap_setCells (#[.int .i64 (a - d : Nat), .int .i64 (x2 : Nat), .int .i64 (y2 : Nat), .int .i64 (z2 : Nat)] : Array Value).toList 0 _ _ hT1
  generalize W1.setCells W0.heap.size 0 _ = W9 at hHeld9 hTT ⊢
  try simp only [List.getElem_toArray, List.getElem_cons_zero, List.getElem_cons_succ, Act.put, List.setIfInBounds_toArray, List.set_cons_zero, List.set_cons_succ]
  refine wpAnyH_take (i := 14) (v := .int .i64 0) rfl (by kernel_rfl) (by kernel_rfl) (by kernel_rfl) (fun _ _ _ h => h) (Or.inl ⟨by rfl, ?y14⟩) (by assumption) ?_
  case y14 => (intro w' hSw; have qK := sK w' hSw; go_simp; try rfl)
  try simp only [List.getElem_toArray, List.getElem_cons_zero, List.getElem_cons_succ, Act.put, List.setIfInBounds_toArray, List.set_cons_zero, List.set_cons_succ]
  refine wpAnyH_done (by kernel_rfl) ?_ _
  generalize W0.heap.size = T at hTg hTT ⊢
  have hX := hHeld9
  rw [HSD.out] at hX
  obtain ⟨x1, x3, x4⟩ := hX
  have hTT' : W9.heap[T]? = some (.cells #[.int .i64 (a - d : Nat), .int .i64 (x2 : Nat), .int .i64 (y2 : Nat), .int .i64 (z2 : Nat)] 31 (0, 0)) := hTT
  have k1 : W9.cell? ⟨w.heap.size, 1, none⟩ = some (.int .i64 (x : Nat)) := by rw [Lib.cell_of_heap x1]; rfl
  have k2 : W9.cell? ⟨w.heap.size, 2, none⟩ = some (.int .i64 (y : Nat)) := by rw [Lib.cell_of_heap x1]; rfl
  have k3 : W9.cell? ⟨w.heap.size, 3, none⟩ = some (.int .i64 (z : Nat)) := by rw [Lib.cell_of_heap x1]; rfl
  have t0 : W9.cell? ⟨T, 0, none⟩ = some (.int .i64 (a - d : Nat)) := by rw [Lib.cell_of_heap hTT']; rfl
  have t1 : W9.cell? ⟨T, 1, none⟩ = some (.int .i64 (x2 : Nat)) := by rw [Lib.cell_of_heap hTT']; rfl
  have t2 : W9.cell? ⟨T, 2, none⟩ = some (.int .i64 (y2 : Nat)) := by rw [Lib.cell_of_heap hTT']; rfl
  have t3 : W9.cell? ⟨T, 3, none⟩ = some (.int .i64 (z2 : Nat)) := by rw [Lib.cell_of_heap hTT']; rfl
  have f0 := fun j => Lib.frozen_of_heap hTT' j
  have f1 := fun j => Lib.frozen_of_heap x3 j
  have z0 : W9.cell? ⟨w.heap.size + 1, 0, none⟩ = some (.int .i64 0) := by rw [Lib.cell_of_heap x3]; rfl
  have z1 : W9.cell? ⟨w.heap.size + 1, 1, none⟩ = some (.int .i64 0) := by rw [Lib.cell_of_heap x3]; rfl
  have z2' : W9.cell? ⟨w.heap.size + 1, 2, none⟩ = some (.int .i64 0) := by rw [Lib.cell_of_heap x3]; rfl
  have z3 : W9.cell? ⟨w.heap.size + 1, 3, none⟩ = some (.int .i64 0) := by rw [Lib.cell_of_heap x3]; rfl
  have n1 : ¬ T = w.heap.size := by omega
  have n2 : ¬ T = w.heap.size + 1 := by omega
  have n3 : ¬ w.heap.size = T := by omega
  have n4 : ¬ w.heap.size + 1 = T := by omega
  have HX4 := hide' x4
  have HX3 := hide' x3
  clear hTT hTT' x1 x3 x4 hHeld9 HSD cB hSB hSA hSC sK hSL
  by_cases hy : y2 = 1
  · have g1 : ((y2 : Int) == 1) = true := by simp [hy]
    obtain rfl : C = z - 1 + z2 := by rw [← HC.out, if_pos hy]
    clear hy HC
    go_wp2
    have hw : ((((W9.setCell ⟨T, 3, none⟩ (.int .i64 ((z2 : Int) + ((z : Int) - 1)))).setCell ⟨T, 2, none⟩ (.int .i64 ((y2 : Int) + ((y : Int) - 1)))).setCell ⟨T, 1, none⟩ (.int .i64 ((x2 : Int) + (x : Int)))).setCell ⟨T, 0, none⟩ (.int .i64 (a : Nat))).heap[w.heap.size + 1]? = some (.cells #[.int .i64 0, .int .i64 0, .int .i64 0, .int .i64 0] 31 (0, 0)) := ((RowKit.Below.heap_setCell _ _ _ _ n4).trans ((RowKit.Below.heap_setCell _ _ _ _ n4).trans ((RowKit.Below.heap_setCell _ _ _ _ n4).trans ((RowKit.Below.heap_setCell _ _ _ _ n4).trans HX3.out))))
    refine bodyPost_ret (v := .agg ([.int .i64 (a : Nat), .int .i64 ((x2 : Int) + (x : Int)), .int .i64 ((y2 : Int) + ((y : Int) - 1)), .int .i64 ((z2 : Int) + ((z : Int) - 1))] : List Value).toArray) (Lx.results_cell Tryz.results37 _ ⟨w.heap.size + 1, 0, none⟩ rfl _ _ (run_loadVar_mid (((((W9.setCell ⟨T, 3, none⟩ (.int .i64 ((z2 : Int) + ((z : Int) - 1)))).setCell ⟨T, 2, none⟩ (.int .i64 ((y2 : Int) + ((y : Int) - 1)))).setCell ⟨T, 1, none⟩ (.int .i64 ((x2 : Int) + (x : Int)))).setCell ⟨T, 0, none⟩ (.int .i64 (a : Nat))).setCells (w.heap.size + 1) 0 [.int .i64 (a : Nat), .int .i64 ((x2 : Int) + (x : Int)), .int .i64 ((y2 : Int) + ((y : Int) - 1)), .int .i64 ((z2 : Int) + ((z : Int) - 1))]) (w.heap.size + 1) 0 31 [.int .i64 (a : Nat), .int .i64 ((x2 : Int) + (x : Int)), .int .i64 ((y2 : Int) + ((y : Int) - 1)), .int .i64 ((z2 : Int) + ((z : Int) - 1))] _ (World.rangeAt_setCells_same _ _ _ _ (Lx.there_of hw 0 4 (Nat.le_refl _))) Tryz.underlying31 rfl plInfo)) rfl ⟨?_, Lx.below_cells (Nat.le_succ _) [.int .i64 (a : Nat), .int .i64 ((x2 : Int) + (x : Int)), .int .i64 ((y2 : Int) + ((y : Int) - 1)), .int .i64 ((z2 : Int) + ((z : Int) - 1))] 0 _ ((((HX4.out.setCell (p := ⟨T, 3, none⟩) (by show w.heap.size ≤ T; omega) _).setCell (p := ⟨T, 2, none⟩) (by show w.heap.size ≤ T; omega) _).setCell (p := ⟨T, 1, none⟩) (by show w.heap.size ≤ T; omega) _).setCell (p := ⟨T, 0, none⟩) (by show w.heap.size ≤ T; omega) _)⟩
    rw [show ((x2 : Int) + (x : Int)) = ((x + x2 : Nat) : Int) by omega, show ((y2 : Int) + ((y : Int) - 1)) = ((y - 1 + y2 : Nat) : Int) by omega, show ((z2 : Int) + ((z : Int) - 1)) = ((z - 1 + z2 : Nat) : Int) by omega]
  · have g1 : ((y2 : Int) == 1) = false := by simp; omega
    obtain rfl : C = z2 := by rw [← HC.out, if_neg hy]
    clear hy HC
    go_wp2
    have hw : (((W9.setCell ⟨T, 2, none⟩ (.int .i64 ((y2 : Int) + ((y : Int) - 1)))).setCell ⟨T, 1, none⟩ (.int .i64 ((x2 : Int) + (x : Int)))).setCell ⟨T, 0, none⟩ (.int .i64 (a : Nat))).heap[w.heap.size + 1]? = some (.cells #[.int .i64 0, .int .i64 0, .int .i64 0, .int .i64 0] 31 (0, 0)) := ((RowKit.Below.heap_setCell _ _ _ _ n4).trans ((RowKit.Below.heap_setCell _ _ _ _ n4).trans ((RowKit.Below.heap_setCell _ _ _ _ n4).trans HX3.out)))
    refine bodyPost_ret (v := .agg ([.int .i64 (a : Nat), .int .i64 ((x2 : Int) + (x : Int)), .int .i64 ((y2 : Int) + ((y : Int) - 1)), .int .i64 (C : Nat)] : List Value).toArray) (Lx.results_cell Tryz.results37 _ ⟨w.heap.size + 1, 0, none⟩ rfl _ _ (run_loadVar_mid ((((W9.setCell ⟨T, 2, none⟩ (.int .i64 ((y2 : Int) + ((y : Int) - 1)))).setCell ⟨T, 1, none⟩ (.int .i64 ((x2 : Int) + (x : Int)))).setCell ⟨T, 0, none⟩ (.int .i64 (a : Nat))).setCells (w.heap.size + 1) 0 [.int .i64 (a : Nat), .int .i64 ((x2 : Int) + (x : Int)), .int .i64 ((y2 : Int) + ((y : Int) - 1)), .int .i64 (C : Nat)]) (w.heap.size + 1) 0 31 [.int .i64 (a : Nat), .int .i64 ((x2 : Int) + (x : Int)), .int .i64 ((y2 : Int) + ((y : Int) - 1)), .int .i64 (C : Nat)] _ (World.rangeAt_setCells_same _ _ _ _ (Lx.there_of hw 0 4 (Nat.le_refl _))) Tryz.underlying31 rfl plInfo)) rfl ⟨?_, Lx.below_cells (Nat.le_succ _) [.int .i64 (a : Nat), .int .i64 ((x2 : Int) + (x : Int)), .int .i64 ((y2 : Int) + ((y : Int) - 1)), .int .i64 (C : Nat)] 0 _ (((HX4.out.setCell (p := ⟨T, 2, none⟩) (by show w.heap.size ≤ T; omega) _).setCell (p := ⟨T, 1, none⟩) (by show w.heap.size ≤ T; omega) _).setCell (p := ⟨T, 0, none⟩) (by show w.heap.size ≤ T; omega) _)⟩
    rw [show ((x2 : Int) + (x : Int)) = ((x + x2 : Nat) : Int) by omega, show ((y2 : Int) + ((y : Int) - 1)) = ((y - 1 + y2 : Nat) : Int) by omega]
end Go.Proofs.YtcnagbkdckipnaaGreatDoor
