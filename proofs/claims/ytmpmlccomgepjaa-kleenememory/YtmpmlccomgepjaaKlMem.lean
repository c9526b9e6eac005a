/-
  FORMULAS in memory.
-/
import Derived.Test.YtmpmlccomgepjaaKlMath
import Derived.WalkKit
import Derived.Deep.MidRow
import Derived.Sort.Grow
import Derived.Shelf.SlSortCmp.QuietGrown
namespace Go.Proofs.Ytmpmlccomgepjaa
open Go.RowKit Go.Lib Go.Sort
theorem hide' {p : Prop} (h : p) : Hid p := h
namespace Kl
/-- a formula, and where its arguments lie -/
inductive Fv where
  | mk (op va n : Int) (p : Option Addr) (cap : Nat) (ar : List Fv)
instance : Inhabited Fv := ⟨.mk 0 0 0 none 0 []⟩
def Fv.enc : Fv → List Value | .mk o v n p c l => [.int .i64 o, .int .i64 v, .int .i64 n, .slice p l.length c]
def Fv.op : Fv → Int | .mk o _ _ _ _ _ => o
def Fv.ar : Fv → List Fv | .mk _ _ _ _ _ l => l
theorem Fv.len (x : Fv) : x.enc.length = 4 := by cases x; rfl
mutual
/-- what it says -/
def ct : Fv → Fm | .mk o v n _ _ l => .mk o v n (cts l)
def cts : List Fv → List Fm
  | [] => []
  | a :: l => ct a :: cts l
end
theorem cts_map : ∀ l : List Fv, cts l = l.map ct
  | [] => by simp [cts]
  | a :: l => by simp [cts, cts_map l]
/-- the block of a row -/
def pb (p : Option Addr) (n : Nat) : List Nat := match p with
  | none => []
  | some a => if n = 0 then [] else [a.block]
mutual
/-- the blocks in which it lies -/
def fp : Fv → List Nat | .mk _ _ _ p _ l => pb p l.length ++ fps l
def fps : List Fv → List Nat
  | [] => []
  | a :: l => fp a ++ fps l
end
theorem pb_mem {b o n : Nat} (h : n ≠ 0) : b ∈ pb (some ⟨b, o, none⟩) n := by simp [pb, h]
theorem pb_of {b n : Nat} {p : Option Addr} (h : b ∈ pb p n) : n ≠ 0 ∧ ∃ a, p = some a ∧ a.block = b := by
  unfold pb at h
  cases p with
  | none => simp at h
  | some a =>
    by_cases c : n = 0
    · simp [c] at h
    · simp [c] at h; exact ⟨c, a, rfl, h.symm⟩
theorem fps_mem : ∀ (l : List Fv) (b : Nat), b ∈ fps l ↔ ∃ x ∈ l, b ∈ fp x
  | [], b => by simp [fps]
  | a :: l, b => by simp [fps, fps_mem l b]
mutual
/-- it lies there -/
def Ok (w : World) : Fv → Prop
  | .mk _ _ _ p c l => l.length ≤ c ∧ c ≤ 9223372036854775807 ∧ (l ≠ [] → ∃ b o, p = some ⟨b, o, none⟩ ∧ Oks w b o l)
def Oks (w : World) (b : Nat) : Nat → List Fv → Prop
  | _, [] => True
  | o, a :: l => w.rangeAt b o a.enc ∧ Ok w a ∧ Oks w b (o + 4) l
end
theorem Oks.get {w : World} {b : Nat} : ∀ {l : List Fv} {o i : Nat} {x : Fv}, Oks w b o l → l[i]? = some x → w.rangeAt b (o + i * 4) x.enc ∧ Ok w x
  | [], _, _, _, _, h => by simp at h
  | a :: l, o, 0, x, h, e => by
    simp at e
    subst e
    unfold Oks at h
    exact ⟨by simpa using h.1, h.2.1⟩
  | a :: l, o, i + 1, x, h, e => by
    unfold Oks at h
    have := Oks.get h.2.2 (i := i) (by simpa using e)
    rw [show o + 4 + i * 4 = o + (i + 1) * 4 by omega] at this
    exact this
theorem Oks.of {w : World} {b : Nat} : ∀ {l : List Fv} {o : Nat}, (∀ i x, l[i]? = some x → w.rangeAt b (o + i * 4) x.enc ∧ Ok w x) → Oks w b o l
  | [], _, _ => by unfold Oks; trivial
  | a :: l, o, h => by
    unfold Oks
    have h0 := h 0 a rfl
    refine ⟨by simpa using h0.1, h0.2, Oks.of fun i x e => ?_⟩
    have := h (i + 1) x (by simpa using e)
    rw [show o + (i + 1) * 4 = o + 4 + i * 4 by omega] at this
    exact this
mutual
theorem Ok.imp {w w' : World} : ∀ (x : Fv), Ok w x → (∀ (a : Addr) v, a.block ∈ fp x → w.cell? a = some v → w'.cell? a = some v) → Ok w' x
  | .mk o v n p c l, h, k => by
    unfold Ok at h ⊢
    refine ⟨h.1, h.2.1, fun hl => ?_⟩
    obtain ⟨b, o', rfl, h3⟩ := h.2.2 hl
    refine ⟨b, o', rfl, Oks.imp l h3 (fun o1 u e => k ⟨b, o1, none⟩ u (by unfold fp; exact List.mem_append_left _ (pb_mem (by cases l with | nil => exact absurd rfl hl | cons _ _ => simp))) e) fun a u ha e => k a u (by unfold fp; exact List.mem_append_right _ ha) e⟩
theorem Oks.imp {w w' : World} {b : Nat} : ∀ (l : List Fv) {o : Nat}, Oks w b o l → (∀ o v, w.cell? ⟨b, o, none⟩ = some v → w'.cell? ⟨b, o, none⟩ = some v) → (∀ (a : Addr) v, a.block ∈ fps l → w.cell? a = some v → w'.cell? a = some v) → Oks w' b o l
  | [], _, _, _, _ => by unfold Oks; trivial
  | a :: l, o, h, k1, k2 => by
    unfold Oks at h ⊢
    exact ⟨fun j v hj => k1 _ _ (h.1 j v hj), Ok.imp a h.2.1 fun a' u ha e => k2 a' u (by simp [fps, ha]) e, Oks.imp l h.2.2 k1 fun a' u ha e => k2 a' u (by simp [fps, ha]) e⟩
end
mutual
theorem Ok.lt {w : World} : ∀ (x : Fv), Ok w x → ∀ b ∈ fp x, b < w.heap.size
  | .mk o v n p c l, h, b, hb => by
    unfold Ok at h
    unfold fp at hb
    rcases List.mem_append.1 hb with hb | hb
    · obtain ⟨hl, a, rfl, rfl⟩ := pb_of hb
      obtain ⟨b', o', e, h3⟩ := h.2.2 (by cases l with | nil => simp at hl | cons _ _ => simp)
      cases e
      cases l with
      | nil => simp at hl
      | cons x l =>
        obtain ⟨xo, xv, xn, xp, xc, xl⟩ := x
        unfold Oks at h3
        exact block_lt_of_cell (h3.1 0 (.int .i64 xo) rfl)
    · by_cases hl : l = []
      · subst hl; simp [fps] at hb
      · obtain ⟨b', o', e, h3⟩ := h.2.2 hl
        exact Oks.lt l h3 b hb
theorem Oks.lt {w : World} {b' : Nat} : ∀ (l : List Fv) {o : Nat}, Oks w b' o l → ∀ b ∈ fps l, b < w.heap.size
  | [], _, _, b, hb => by simp [fps] at hb
  | x :: l, o, h, b, hb => by
    unfold Oks at h
    unfold fps at hb
    rcases List.mem_append.1 hb with hb | hb
    · exact Ok.lt x h.2.1 b hb
    · exact Oks.lt l h.2.2 b hb
end
theorem Ok.below {w w' : World} {x : Fv} (h : Ok w x) (hb : Below w.heap.size w w') : Ok w' x := h.imp x fun a _ _ e => (hb.cell (p := a) (block_lt_of_cell e)).trans e
theorem Ok.grown {w : World} {x : Fv} (h : Ok w x) (n : Nat) (os : Array Obj) : Ok (grow (w.drewN n) os) x := h.imp x fun _ _ _ e => cell_grown (block_lt_of_cell e) e n os
theorem Ok.row {w : World} {o v n : Int} {p : Option Addr} {c : Nat} {l : List Fv} (h : Ok w (.mk o v n p c l)) : l.length ≤ c ∧ c ≤ 9223372036854775807 ∧ (0 < l.length → ∃ b o', p = some ⟨b, o', none⟩ ∧ ∀ i x, l[i]? = some x → w.rangeAt b (o' + i * 4) x.enc ∧ Ok w x) := by
  unfold Ok at h
  refine ⟨h.1, h.2.1, fun hl => ?_⟩
  obtain ⟨b, o', e, h3⟩ := h.2.2 (by cases l with | nil => simp at hl | cons a l => simp)
  exact ⟨b, o', e, fun i x hx => h3.get hx⟩
theorem Ok.mk' {w : World} {o v n : Int} {p : Option Addr} {c : Nat} {l : List Fv} (h1 : l.length ≤ c) (h2 : c ≤ 9223372036854775807) (h3 : 0 < l.length → ∃ b o', p = some ⟨b, o', none⟩ ∧ ∀ i x, l[i]? = some x → w.rangeAt b (o' + i * 4) x.enc ∧ Ok w x) : Ok w (.mk o v n p c l) := by
  unfold Ok
  refine ⟨h1, h2, fun hl => ?_⟩
  obtain ⟨b, o', e, h⟩ := h3 (by cases l with | nil => exact absurd rfl hl | cons a l => simp)
  exact ⟨b, o', e, Oks.of h⟩
theorem Ok.leaf (w : World) (o v n : Int) : Ok w (.mk o v n none 0 []) := Ok.mk' (by simp) (by simp) (by simp)
mutual
theorem Fv.ind {P : Fv → Prop} (h : ∀ o v n p c l, (∀ a ∈ l, P a) → P (.mk o v n p c l)) : ∀ x, P x
  | .mk o v n p c l => h o v n p c l (Fv.inds h l)
theorem Fv.inds {P : Fv → Prop} (h : ∀ o v n p c l, (∀ a ∈ l, P a) → P (.mk o v n p c l)) : ∀ (l : List Fv) (a : Fv), a ∈ l → P a
  | [], _, ha => by cases ha
  | x :: l, a, ha => by
    rcases List.mem_cons.1 ha with e | e
    · rw [e]; exact Fv.ind h x
    · exact Fv.inds h l a e
end
/-- four cells -/
theorem cells4 {w : World} {b o : Nat} {op v n : Int} {p : Option Addr} {c : Nat} {l : List Fv} (h : w.rangeAt b o (Fv.mk op v n p c l).enc) :
    w.cell? ⟨b, o, none⟩ = some (.int .i64 op) ∧ w.cell? ⟨b, o + 1, none⟩ = some (.int .i64 v) ∧ w.cell? ⟨b, o + 2, none⟩ = some (.int .i64 n) ∧ w.cell? ⟨b, o + 3, none⟩ = some (.slice p l.length c) :=
  ⟨h 0 _ rfl, h 1 _ rfl, h 2 _ rfl, h 3 _ rfl⟩
/-- a world that has but grown -/
def Gr (w w' : World) : Prop := ∃ q os, w' = grow (w.drewN q) os
theorem Gr.refl (w : World) : Gr w w := ⟨0, #[], by rw [grow_empty]; rfl⟩
theorem Gr.trans {a b c : World} (h : Gr a b) (k : Gr b c) : Gr a c := by
  obtain ⟨q, os, rfl⟩ := h
  obtain ⟨q', os', rfl⟩ := k
  exact ⟨q + q', os ++ os', by show grow (grow ((a.drewN q).drewN q') os) os' = _; rw [grow_grow, World.drewN_drewN]⟩
theorem Gr.alloc {a b : World} (h : Gr a b) (o : Obj) : Gr a (b.alloc o) := h.trans ⟨0, #[o], by rw [alloc_eq_grow]; rfl⟩
theorem Gr.drew {a b : World} (h : Gr a b) : Gr a b.drew := h.trans ⟨1, #[], by rw [grow_empty]; rfl⟩
theorem Gr.ok {a b : World} {x : Fv} (h : Gr a b) (k : Ok a x) : Ok b x := by
  obtain ⟨q, os, rfl⟩ := h
  exact k.grown q os
theorem Gr.cell {a b : World} (h : Gr a b) {p : Addr} {v : Value} (k : a.cell? p = some v) : b.cell? p = some v := by
  obtain ⟨q, os, rfl⟩ := h
  exact cell_grown (block_lt_of_cell k) k q os
theorem Gr.below {a b : World} (h : Gr a b) : Below a.heap.size a b := by
  obtain ⟨q, os, rfl⟩ := h
  refine ⟨rfl, rfl, rfl, by simp [grow], fun k hk => ?_⟩
  show (a.heap ++ os)[k]? = _
  rw [Array.getElem?_append_left hk]
end Kl
end Go.Proofs.Ytmpmlccomgepjaa
