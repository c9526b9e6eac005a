/-
  PATHS and expressions in memory.
-/
import Derived.Test.YtcnagbkdckipnaaGreatDoorRnBeg
import Derived.WalkSpells
import Derived.WalkLawsBesides
import Derived.LoopTactic
import Derived.WalkKit
import Derived.Deep.MidRow
import Derived.Sort.Grow
import Derived.Shelf.SlSortCmp.QuietGrown
namespace Go.Proofs.YtcnagbkdckipnaaGreatDoor
open Go.RowKit Go.Lib Go.Sort
namespace Ak
mutual
/-- a step, as it says -/
inductive Sp where
  | mk (ax te : Int) (nm : ByteArray) (wh : List Xp)
/-- an expression, as it says -/
inductive Xp where
  | mk (op : Int) (ar : List Xp) (st : List Sp) (aa : ByteArray) (cm : Int) (tx : ByteArray) (nu : Int)
end
mutual
/-- a step, and where its predicates lie -/
inductive Sv where
  | mk (ax te : Int) (nm : ByteArray) (p : Option Addr) (c : Nat) (wh : List Xv)
/-- an expression, and where its parts and its steps lie -/
inductive Xv where
  | mk (op : Int) (p : Option Addr) (c : Nat) (ar : List Xv) (sp : Option Addr) (sc : Nat) (st : List Sv) (aa : ByteArray) (cm : Int) (tx : ByteArray) (nu : Int)
end
instance : Inhabited Sv := ⟨.mk 0 0 ⟨#[]⟩ none 0 []⟩
instance : Inhabited Xv := ⟨.mk 0 none 0 [] none 0 [] ⟨#[]⟩ 0 ⟨#[]⟩ 0⟩
instance : Inhabited Sp := ⟨.mk 0 0 ⟨#[]⟩ []⟩
instance : Inhabited Xp := ⟨.mk 0 [] [] ⟨#[]⟩ 0 ⟨#[]⟩ 0⟩
def Sv.enc : Sv → List Value | .mk ax te nm p c wh => [.int .i64 ax, .int .i64 te, .string nm, .slice p wh.length c]
def Xv.enc : Xv → List Value | .mk op p c ar sp sc st aa cm tx nu => [.int .i64 op, .slice p ar.length c, .slice sp st.length sc, .string aa, .int .i64 cm, .string tx, .int .i64 nu]
theorem Sv.len (x : Sv) : x.enc.length = 4 := by cases x; rfl
theorem Xv.len (x : Xv) : x.enc.length = 7 := by cases x; rfl
mutual
/-- what they say -/
def cS : Sv → Sp | .mk ax te nm _ _ wh => .mk ax te nm (cXs wh)
def cX : Xv → Xp | .mk op _ _ ar _ _ st aa cm tx nu => .mk op (cXs ar) (cSs st) aa cm tx nu
def cXs : List Xv → List Xp
  | [] => []
  | a :: l => cX a :: cXs l
def cSs : List Sv → List Sp
  | [] => []
  | a :: l => cS a :: cSs l
end
theorem cXs_map : ∀ l : List Xv, cXs l = l.map cX
  | [] => by simp [cXs]
  | a :: l => by simp [cXs, cXs_map l]
theorem cSs_map : ∀ l : List Sv, cSs l = l.map cS
  | [] => by simp [cSs]
  | a :: l => by simp [cSs, cSs_map l]
/-- the block of a row -/
def pb (p : Option Addr) (n : Nat) : List Nat := match p with
  | none => []
  | some a => if n = 0 then [] else [a.block]
theorem pb_mem {b o n : Nat} (h : n ≠ 0) : b ∈ pb (some ⟨b, o, none⟩) n := by simp [pb, h]
theorem pb_of {b n : Nat} {p : Option Addr} (h : b ∈ pb p n) : n ≠ 0 ∧ ∃ a, p = some a ∧ a.block = b := by
  unfold pb at h
  cases p with
  | none => simp at h
  | some a =>
    by_cases c : n = 0
    · simp [c] at h
    · simp [c] at h; exact ⟨c, a, rfl, h.symm⟩
mutual
/-- the blocks in which they lie -/
def fS : Sv → List Nat | .mk _ _ _ p _ wh => pb p wh.length ++ fXs wh
def fX : Xv → List Nat | .mk _ p _ ar sp _ st _ _ _ _ => (pb p ar.length ++ fXs ar) ++ (pb sp st.length ++ fSs st)
def fXs : List Xv → List Nat
  | [] => []
  | a :: l => fX a ++ fXs l
def fSs : List Sv → List Nat
  | [] => []
  | a :: l => fS a ++ fSs l
end
theorem fXs_mem : ∀ (l : List Xv) (b : Nat), b ∈ fXs l ↔ ∃ x ∈ l, b ∈ fX x
  | [], b => by simp [fXs]
  | a :: l, b => by simp [fXs, fXs_mem l b]
theorem fSs_mem : ∀ (l : List Sv) (b : Nat), b ∈ fSs l ↔ ∃ x ∈ l, b ∈ fS x
  | [], b => by simp [fSs]
  | a :: l, b => by simp [fSs, fSs_mem l b]
mutual
/-- they lie there -/
def OkS (w : World) : Sv → Prop
  | .mk _ _ _ p c wh => wh.length ≤ c ∧ c ≤ 9223372036854775807 ∧ (wh ≠ [] → ∃ b o, p = some ⟨b, o, none⟩ ∧ OkXs w b o wh)
def OkX (w : World) : Xv → Prop
  | .mk _ p c ar sp sc st _ _ _ _ => (ar.length ≤ c ∧ c ≤ 9223372036854775807 ∧ (ar ≠ [] → ∃ b o, p = some ⟨b, o, none⟩ ∧ OkXs w b o ar)) ∧ st.length ≤ sc ∧ sc ≤ 9223372036854775807 ∧ (st ≠ [] → ∃ b o, sp = some ⟨b, o, none⟩ ∧ OkSs w b o st)
def OkXs (w : World) (b : Nat) : Nat → List Xv → Prop
  | _, [] => True
  | o, a :: l => w.rangeAt b o a.enc ∧ OkX w a ∧ OkXs w b (o + 7) l
def OkSs (w : World) (b : Nat) : Nat → List Sv → Prop
  | _, [] => True
  | o, a :: l => w.rangeAt b o a.enc ∧ OkS w a ∧ OkSs w b (o + 4) l
end
theorem OkXs.get {w : World} {b : Nat} : ∀ {l : List Xv} {o i : Nat} {x : Xv}, OkXs w b o l → l[i]? = some x → w.rangeAt b (o + i * 7) x.enc ∧ OkX w x
  | [], _, _, _, _, h => by simp at h
  | a :: l, o, 0, x, h, e => by
    simp at e
    subst e
    unfold OkXs at h
    exact ⟨by simpa using h.1, h.2.1⟩
  | a :: l, o, i + 1, x, h, e => by
    unfold OkXs at h
    have := OkXs.get h.2.2 (i := i) (by simpa using e)
    rw [show o + 7 + i * 7 = o + (i + 1) * 7 by omega] at this
    exact this
theorem OkSs.get {w : World} {b : Nat} : ∀ {l : List Sv} {o i : Nat} {x : Sv}, OkSs w b o l → l[i]? = some x → w.rangeAt b (o + i * 4) x.enc ∧ OkS w x
  | [], _, _, _, _, h => by simp at h
  | a :: l, o, 0, x, h, e => by
    simp at e
    subst e
    unfold OkSs at h
    exact ⟨by simpa using h.1, h.2.1⟩
  | a :: l, o, i + 1, x, h, e => by
    unfold OkSs at h
    have := OkSs.get h.2.2 (i := i) (by simpa using e)
    rw [show o + 4 + i * 4 = o + (i + 1) * 4 by omega] at this
    exact this
theorem OkXs.of {w : World} {b : Nat} : ∀ {l : List Xv} {o : Nat}, (∀ i x, l[i]? = some x → w.rangeAt b (o + i * 7) x.enc ∧ OkX w x) → OkXs w b o l
  | [], _, _ => by unfold OkXs; trivial
  | a :: l, o, h => by
    unfold OkXs
    have h0 := h 0 a rfl
    refine ⟨by simpa using h0.1, h0.2, OkXs.of fun i x e => ?_⟩
    have := h (i + 1) x (by simpa using e)
    rw [show o + (i + 1) * 7 = o + 7 + i * 7 by omega] at this
    exact this
theorem OkSs.of {w : World} {b : Nat} : ∀ {l : List Sv} {o : Nat}, (∀ i x, l[i]? = some x → w.rangeAt b (o + i * 4) x.enc ∧ OkS w x) → OkSs w b o l
  | [], _, _ => by unfold OkSs; trivial
  | a :: l, o, h => by
    unfold OkSs
    have h0 := h 0 a rfl
    refine ⟨by simpa using h0.1, h0.2, OkSs.of fun i x e => ?_⟩
    have := h (i + 1) x (by simpa using e)
    rw [show o + (i + 1) * 4 = o + 4 + i * 4 by omega] at this
    exact this
theorem ne_len {α : Type} {l : List α} (h : l ≠ []) : l.length ≠ 0 := fun e => h (List.eq_nil_of_length_eq_zero e)
mutual
theorem OkS.imp {w w' : World} : ∀ (x : Sv), OkS w x → (∀ (a : Addr) v, a.block ∈ fS x → w.cell? a = some v → w'.cell? a = some v) → OkS w' x
  | .mk ax te nm p c wh, h, k => by
    unfold OkS at h ⊢
    refine ⟨h.1, h.2.1, fun hl => ?_⟩
    obtain ⟨b, o', rfl, h3⟩ := h.2.2 hl
    exact ⟨b, o', rfl, OkXs.imp wh h3 (fun o1 u e => k ⟨b, o1, none⟩ u (by unfold fS; exact List.mem_append_left _ (pb_mem (ne_len hl))) e) fun a u ha e => k a u (by unfold fS; exact List.mem_append_right _ ha) e⟩
theorem OkX.imp {w w' : World} : ∀ (x : Xv), OkX w x → (∀ (a : Addr) v, a.block ∈ fX x → w.cell? a = some v → w'.cell? a = some v) → OkX w' x
  | .mk op p c ar sp sc st aa cm tx nu, h, k => by
    unfold OkX at h ⊢
    refine ⟨⟨h.1.1, h.1.2.1, fun hl => ?_⟩, h.2.1, h.2.2.1, fun hl => ?_⟩
    · obtain ⟨b, o', rfl, h3⟩ := h.1.2.2 hl
      exact ⟨b, o', rfl, OkXs.imp ar h3 (fun o1 u e => k ⟨b, o1, none⟩ u (by unfold fX; exact List.mem_append_left _ (List.mem_append_left _ (pb_mem (ne_len hl)))) e) fun a u ha e => k a u (by unfold fX; exact List.mem_append_left _ (List.mem_append_right _ ha)) e⟩
    · obtain ⟨b, o', rfl, h3⟩ := h.2.2.2 hl
      exact ⟨b, o', rfl, OkSs.imp st h3 (fun o1 u e => k ⟨b, o1, none⟩ u (by unfold fX; exact List.mem_append_right _ (List.mem_append_left _ (pb_mem (ne_len hl)))) e) fun a u ha e => k a u (by unfold fX; exact List.mem_append_right _ (List.mem_append_right _ ha)) e⟩
theorem OkXs.imp {w w' : World} {b : Nat} : ∀ (l : List Xv) {o : Nat}, OkXs w b o l → (∀ o v, w.cell? ⟨b, o, none⟩ = some v → w'.cell? ⟨b, o, none⟩ = some v) → (∀ (a : Addr) v, a.block ∈ fXs l → w.cell? a = some v → w'.cell? a = some v) → OkXs w' b o l
  | [], _, _, _, _ => by unfold OkXs; trivial
  | a :: l, o, h, k1, k2 => by
    unfold OkXs at h ⊢
    exact ⟨fun j v hj => k1 _ _ (h.1 j v hj), OkX.imp a h.2.1 fun a' u ha e => k2 a' u (by simp [fXs, ha]) e, OkXs.imp l h.2.2 k1 fun a' u ha e => k2 a' u (by simp [fXs, ha]) e⟩
theorem OkSs.imp {w w' : World} {b : Nat} : ∀ (l : List Sv) {o : Nat}, OkSs w b o l → (∀ o v, w.cell? ⟨b, o, none⟩ = some v → w'.cell? ⟨b, o, none⟩ = some v) → (∀ (a : Addr) v, a.block ∈ fSs l → w.cell? a = some v → w'.cell? a = some v) → OkSs w' b o l
  | [], _, _, _, _ => by unfold OkSs; trivial
  | a :: l, o, h, k1, k2 => by
    unfold OkSs at h ⊢
    exact ⟨fun j v hj => k1 _ _ (h.1 j v hj), OkS.imp a h.2.1 fun a' u ha e => k2 a' u (by simp [fSs, ha]) e, OkSs.imp l h.2.2 k1 fun a' u ha e => k2 a' u (by simp [fSs, ha]) e⟩
end
theorem head_lt {w : World} {b o : Nat} {v : Value} {l : List Value} (h : w.rangeAt b o (v :: l)) : b < w.heap.size := by
  have := h 0 v rfl
  exact block_lt_of_cell this
mutual
theorem OkS.lt {w : World} : ∀ (x : Sv), OkS w x → ∀ b ∈ fS x, b < w.heap.size
  | .mk ax te nm p c wh, h, b, hb => by
    unfold OkS at h
    unfold fS at hb
    rcases List.mem_append.1 hb with hb | hb
    · obtain ⟨hl, a, rfl, rfl⟩ := pb_of hb
      obtain ⟨b', o', e, h3⟩ := h.2.2 (fun e => hl (by rw [e]; rfl))
      cases e
      exact OkXs.hd wh h3 (fun e => hl (by rw [e]; rfl))
    · by_cases hl : wh = []
      · subst hl; simp [fXs] at hb
      · obtain ⟨b', o', e, h3⟩ := h.2.2 hl
        exact OkXs.lt wh h3 b hb
theorem OkX.lt {w : World} : ∀ (x : Xv), OkX w x → ∀ b ∈ fX x, b < w.heap.size
  | .mk op p c ar sp sc st aa cm tx nu, h, b, hb => by
    unfold OkX at h
    unfold fX at hb
    rcases List.mem_append.1 hb with hb | hb
    · rcases List.mem_append.1 hb with hb | hb
      · obtain ⟨hl, a, rfl, rfl⟩ := pb_of hb
        obtain ⟨b', o', e, h3⟩ := h.1.2.2 (fun e => hl (by rw [e]; rfl))
        cases e
        exact OkXs.hd ar h3 (fun e => hl (by rw [e]; rfl))
      · by_cases hl : ar = []
        · subst hl; simp [fXs] at hb
        · obtain ⟨b', o', e, h3⟩ := h.1.2.2 hl
          exact OkXs.lt ar h3 b hb
    · rcases List.mem_append.1 hb with hb | hb
      · obtain ⟨hl, a, rfl, rfl⟩ := pb_of hb
        obtain ⟨b', o', e, h3⟩ := h.2.2.2 (fun e => hl (by rw [e]; rfl))
        cases e
        exact OkSs.hd st h3 (fun e => hl (by rw [e]; rfl))
      · by_cases hl : st = []
        · subst hl; simp [fSs] at hb
        · obtain ⟨b', o', e, h3⟩ := h.2.2.2 hl
          exact OkSs.lt st h3 b hb
theorem OkXs.hd {w : World} {b' : Nat} : ∀ (l : List Xv) {o : Nat}, OkXs w b' o l → l ≠ [] → b' < w.heap.size
  | [], _, _, h => absurd rfl h
  | .mk _ _ _ _ _ _ _ _ _ _ _ :: l, o, h, _ => by
    unfold OkXs at h
    exact head_lt h.1
theorem OkSs.hd {w : World} {b' : Nat} : ∀ (l : List Sv) {o : Nat}, OkSs w b' o l → l ≠ [] → b' < w.heap.size
  | [], _, _, h => absurd rfl h
  | .mk _ _ _ _ _ _ :: l, o, h, _ => by
    unfold OkSs at h
    exact head_lt h.1
theorem OkXs.lt {w : World} {b' : Nat} : ∀ (l : List Xv) {o : Nat}, OkXs w b' o l → ∀ b ∈ fXs l, b < w.heap.size
  | [], _, _, b, hb => by simp [fXs] at hb
  | x :: l, o, h, b, hb => by
    unfold OkXs at h
    unfold fXs at hb
    rcases List.mem_append.1 hb with hb | hb
    · exact OkX.lt x h.2.1 b hb
    · exact OkXs.lt l h.2.2 b hb
theorem OkSs.lt {w : World} {b' : Nat} : ∀ (l : List Sv) {o : Nat}, OkSs w b' o l → ∀ b ∈ fSs l, b < w.heap.size
  | [], _, _, b, hb => by simp [fSs] at hb
  | x :: l, o, h, b, hb => by
    unfold OkSs at h
    unfold fSs at hb
    rcases List.mem_append.1 hb with hb | hb
    · exact OkS.lt x h.2.1 b hb
    · exact OkSs.lt l h.2.2 b hb
end
theorem OkS.below {w w' : World} {x : Sv} (h : OkS w x) (hb : Below w.heap.size w w') : OkS w' x := h.imp x fun a _ _ e => (hb.cell (p := a) (block_lt_of_cell e)).trans e
theorem OkX.below {w w' : World} {x : Xv} (h : OkX w x) (hb : Below w.heap.size w w') : OkX w' x := h.imp x fun a _ _ e => (hb.cell (p := a) (block_lt_of_cell e)).trans e
theorem OkS.grown {w : World} {x : Sv} (h : OkS w x) (n : Nat) (os : Array Obj) : OkS (grow (w.drewN n) os) x := h.imp x fun _ _ _ e => cell_grown (block_lt_of_cell e) e n os
theorem OkX.grown {w : World} {x : Xv} (h : OkX w x) (n : Nat) (os : Array Obj) : OkX (grow (w.drewN n) os) x := h.imp x fun _ _ _ e => cell_grown (block_lt_of_cell e) e n os
/-- a row of expressions, of steps -/
def RowX (w : World) (p : Option Addr) (c : Nat) (l : List Xv) : Prop := l.length ≤ c ∧ c ≤ 9223372036854775807 ∧ (0 < l.length → ∃ b o, p = some ⟨b, o, none⟩ ∧ ∀ i x, l[i]? = some x → w.rangeAt b (o + i * 7) x.enc ∧ OkX w x)
def RowS (w : World) (p : Option Addr) (c : Nat) (l : List Sv) : Prop := l.length ≤ c ∧ c ≤ 9223372036854775807 ∧ (0 < l.length → ∃ b o, p = some ⟨b, o, none⟩ ∧ ∀ i x, l[i]? = some x → w.rangeAt b (o + i * 4) x.enc ∧ OkS w x)
theorem OkS.row {w : World} {ax te : Int} {nm : ByteArray} {p : Option Addr} {c : Nat} {wh : List Xv} (h : OkS w (.mk ax te nm p c wh)) : RowX w p c wh := by
  unfold OkS at h
  refine ⟨h.1, h.2.1, fun hl => ?_⟩
  obtain ⟨b, o', e, h3⟩ := h.2.2 (fun e => by rw [e] at hl; simp at hl)
  exact ⟨b, o', e, fun i x hx => h3.get hx⟩
theorem OkS.of {w : World} {ax te : Int} {nm : ByteArray} {p : Option Addr} {c : Nat} {wh : List Xv} (h : RowX w p c wh) : OkS w (.mk ax te nm p c wh) := by
  unfold OkS
  refine ⟨h.1, h.2.1, fun hl => ?_⟩
  obtain ⟨b, o', e, h3⟩ := h.2.2 (Nat.pos_of_ne_zero (ne_len hl))
  exact ⟨b, o', e, OkXs.of h3⟩
theorem OkX.rows {w : World} {op : Int} {p : Option Addr} {c : Nat} {ar : List Xv} {sp : Option Addr} {sc : Nat} {st : List Sv} {aa : ByteArray} {cm : Int} {tx : ByteArray} {nu : Int} (h : OkX w (.mk op p c ar sp sc st aa cm tx nu)) : RowX w p c ar ∧ RowS w sp sc st := by
  unfold OkX at h
  refine ⟨⟨h.1.1, h.1.2.1, fun hl => ?_⟩, h.2.1, h.2.2.1, fun hl => ?_⟩
  · obtain ⟨b, o', e, h3⟩ := h.1.2.2 (fun e => by rw [e] at hl; simp at hl)
    exact ⟨b, o', e, fun i x hx => h3.get hx⟩
  · obtain ⟨b, o', e, h3⟩ := h.2.2.2 (fun e => by rw [e] at hl; simp at hl)
    exact ⟨b, o', e, fun i x hx => h3.get hx⟩
theorem OkX.of {w : World} {op : Int} {p : Option Addr} {c : Nat} {ar : List Xv} {sp : Option Addr} {sc : Nat} {st : List Sv} {aa : ByteArray} {cm : Int} {tx : ByteArray} {nu : Int} (h1 : RowX w p c ar) (h2 : RowS w sp sc st) : OkX w (.mk op p c ar sp sc st aa cm tx nu) := by
  unfold OkX
  refine ⟨⟨h1.1, h1.2.1, fun hl => ?_⟩, h2.1, h2.2.1, fun hl => ?_⟩
  · obtain ⟨b, o', e, h3⟩ := h1.2.2 (Nat.pos_of_ne_zero (ne_len hl))
    exact ⟨b, o', e, OkXs.of h3⟩
  · obtain ⟨b, o', e, h3⟩ := h2.2.2 (Nat.pos_of_ne_zero (ne_len hl))
    exact ⟨b, o', e, OkSs.of h3⟩
theorem RowX.nil (w : World) : RowX w none 0 [] := ⟨Nat.le_refl _, by omega, fun h => absurd h (by simp)⟩
theorem RowS.nil (w : World) : RowS w none 0 [] := ⟨Nat.le_refl _, by omega, fun h => absurd h (by simp)⟩
theorem RowX.below {w w' : World} {p : Option Addr} {c : Nat} {l : List Xv} (h : RowX w p c l) (hb : Below w.heap.size w w') : RowX w' p c l :=
  ⟨h.1, h.2.1, fun hl => by
    obtain ⟨b, o, e, h3⟩ := h.2.2 hl
    exact ⟨b, o, e, fun i x hx => ⟨fun j v hj => (hb.cell (p := ⟨b, o + i * 7 + j, none⟩) (block_lt_of_cell ((h3 i x hx).1 j v hj))).trans ((h3 i x hx).1 j v hj), (h3 i x hx).2.below hb⟩⟩⟩
theorem RowS.below {w w' : World} {p : Option Addr} {c : Nat} {l : List Sv} (h : RowS w p c l) (hb : Below w.heap.size w w') : RowS w' p c l :=
  ⟨h.1, h.2.1, fun hl => by
    obtain ⟨b, o, e, h3⟩ := h.2.2 hl
    exact ⟨b, o, e, fun i x hx => ⟨fun j v hj => (hb.cell (p := ⟨b, o + i * 4 + j, none⟩) (block_lt_of_cell ((h3 i x hx).1 j v hj))).trans ((h3 i x hx).1 j v hj), (h3 i x hx).2.below hb⟩⟩⟩
mutual
/-- induction over steps and expressions -/
theorem Sv.ind {P : Sv → Prop} {Q : Xv → Prop} (hs : ∀ ax te nm p c wh, (∀ a ∈ wh, Q a) → P (.mk ax te nm p c wh)) (hx : ∀ op p c ar sp sc st aa cm tx nu, (∀ a ∈ ar, Q a) → (∀ a ∈ st, P a) → Q (.mk op p c ar sp sc st aa cm tx nu)) : ∀ x, P x
  | .mk ax te nm p c wh => hs ax te nm p c wh (Xv.inds hs hx wh)
theorem Xv.ind {P : Sv → Prop} {Q : Xv → Prop} (hs : ∀ ax te nm p c wh, (∀ a ∈ wh, Q a) → P (.mk ax te nm p c wh)) (hx : ∀ op p c ar sp sc st aa cm tx nu, (∀ a ∈ ar, Q a) → (∀ a ∈ st, P a) → Q (.mk op p c ar sp sc st aa cm tx nu)) : ∀ x, Q x
  | .mk op p c ar sp sc st aa cm tx nu => hx op p c ar sp sc st aa cm tx nu (Xv.inds hs hx ar) (Sv.inds hs hx st)
theorem Xv.inds {P : Sv → Prop} {Q : Xv → Prop} (hs : ∀ ax te nm p c wh, (∀ a ∈ wh, Q a) → P (.mk ax te nm p c wh)) (hx : ∀ op p c ar sp sc st aa cm tx nu, (∀ a ∈ ar, Q a) → (∀ a ∈ st, P a) → Q (.mk op p c ar sp sc st aa cm tx nu)) : ∀ (l : List Xv) (a : Xv), a ∈ l → Q a
  | [], a, h => by simp at h
  | x :: l, a, h => (List.mem_cons.1 h).elim (fun e => by rw [e]; exact Xv.ind hs hx x) fun h => Xv.inds hs hx l a h
theorem Sv.inds {P : Sv → Prop} {Q : Xv → Prop} (hs : ∀ ax te nm p c wh, (∀ a ∈ wh, Q a) → P (.mk ax te nm p c wh)) (hx : ∀ op p c ar sp sc st aa cm tx nu, (∀ a ∈ ar, Q a) → (∀ a ∈ st, P a) → Q (.mk op p c ar sp sc st aa cm tx nu)) : ∀ (l : List Sv) (a : Sv), a ∈ l → P a
  | [], a, h => by simp at h
  | x :: l, a, h => (List.mem_cons.1 h).elim (fun e => by rw [e]; exact Sv.ind hs hx x) fun h => Sv.inds hs hx l a h
end
end Ak
end Go.Proofs.YtcnagbkdckipnaaGreatDoor
