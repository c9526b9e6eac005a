/-
  slices.SortFunc at formulas, with kleene.compared.
-/
import Derived.Test.YtmpmlccomgepjaaKlCpt
import Derived.Test.YtmpmlccomgepjaaKlShelf
namespace Go.Proofs.Ytmpmlccomgepjaa
open Go.RowKit Go.Lib Go.Sort
namespace Kl
/-- a formula that lies in w, not in the block g -/
def Fw (w : World) (g : Nat) : Type := { x : Fv // Ok w x ∧ g ∉ fp x }
instance (w : World) (g : Nat) : Inhabited (Fw w g) := ⟨⟨.mk 0 0 0 none 0 [], Ok.leaf w 0 0 0, by simp [fp, fps, pb]⟩⟩
def encW {w : World} {g : Nat} (x : Fw w g) : List Value := x.1.enc
def cfW {w : World} {g : Nat} (x y : Fw w g) : Int := cmpF (ct x.1) (ct y.1)
theorem lt_cfW {w : World} {g : Nat} (x y : Fw w g) : ltOf cfW x y = decide (cmpF (ct x.1) (ct y.1) < 0) := rfl
theorem swoW (w : World) (g : Nat) : SWO (ltOf (cfW (w := w) (g := g))) where
  irrefl x := by rw [lt_cfW, cmpF_self]; rfl
  trans x y z h1 h2 := by
    rw [lt_cfW] at *
    exact decide_eq_true (cmpF_trans (of_decide_eq_true h1) (of_decide_eq_true h2))
  ntrans x y z h1 h2 := by
    rw [lt_cfW] at *
    refine decide_eq_false fun h => ?_
    have h1 := of_decide_eq_false h1
    have h2 := of_decide_eq_false h2
    rcases cmpF_tri (ct x.1) (ct y.1) with a | a | a
    · exact h1 a
    · rw [a] at h; exact h2 h
    · exact h2 (cmpF_trans a h)
theorem encW_one {w : World} {g : Nat} (x : Fw w g) : ∀ v ∈ encW x, v.oneCell' = true := by
  obtain ⟨⟨o, v, n, p, c, l⟩, h⟩ := x
  intro u hu
  simp [encW, Fv.enc] at hu
  rcases hu with rfl | rfl | rfl | rfl <;> rfl
theorem cell_sort {w : World} {g off m : Nat} (dk : Array (Fw w g)) (os : Array Obj) {a : Addr} {v : Value} (ha : a.block ≠ g) (h : w.cell? a = some v) : (sortWorldK encW 4 w g off m dk os).cell? a = some v := by
  unfold sortWorldK
  rw [cell?_grow _ _ _ (by have := block_lt_of_cell h; simpa [putRowK, Sort.ahead] using this), cell?_putRowK_other _ _ _ _ _ _ _ ha]
  exact h
theorem cmpW (w : World) (g off size : Nat) : CmpLays Try.prog 27 #[] encW 4 (cfW (w := w) (g := g)) g off size w := fun m os dk _ x y =>
  klCompared x.1 y.1 _ (x.2.1.imp x.1 fun a _ ha e => cell_sort dk os (fun c => x.2.2 (c ▸ ha)) e) (y.2.1.imp y.1 fun a _ ha e => cell_sort dk os (fun c => y.2.2 (c ▸ ha)) e)
/-- in their order -/
def Srt (R : Nat → Fv) (n : Nat) : Prop := ∀ i j, i < j → j < n → ¬ cmpF (ct (R j)) (ct (R i)) < 0
/-- what SortFunc leaves -/
def SrtE (w : World) (g cap n : Nat) (R : Nat → Fv) (w' : World) : Prop :=
  ∃ R', Srt R' n ∧ ((List.range n).map R').Perm ((List.range n).map R) ∧ Rw w' g cap n R' ∧ Ch g w w'
theorem heap_sort {w : World} {g off m : Nat} (dk : Array (Fw w g)) (os : Array Obj) {b : Nat} (hb : b < w.heap.size) : (sortWorldK encW 4 w g off m dk os).heap[b]? = if b = g then (w.heap[b]?).map (onCells (putCells id off (flatK encW 4 dk))) else w.heap[b]? := by
  unfold sortWorldK
  rw [heap_grow_old _ _ (by simpa [putRowK, Sort.ahead] using hb)]
  show (w.heap.modify g _)[b]? = _
  rw [Array.getElem?_modify]
  by_cases c : g = b
  · subst c; simp
  · rw [if_neg c, if_neg (Ne.symm c)]
theorem size_sort {w : World} {g off m : Nat} (dk : Array (Fw w g)) (os : Array Obj) : w.heap.size ≤ (sortWorldK encW 4 w g off m dk os).heap.size := by
  unfold sortWorldK
  simp [grow, putRowK, Sort.ahead]
def arrW {w : World} {g n : Nat} {R : Nat → Fv} (hok : ∀ k, k < n → Ok w (R k) ∧ g ∉ fp (R k)) : Array (Fw w g) := Array.ofFn (n := n) fun k => ⟨R k.1, hok k.1 k.2⟩
theorem arrW_size {w : World} {g n : Nat} {R : Nat → Fv} (hok : ∀ k, k < n → Ok w (R k) ∧ g ∉ fp (R k)) : (arrW hok).size = n := Array.size_ofFn
theorem arrW_get {w : World} {g n : Nat} {R : Nat → Fv} (hok : ∀ k, k < n → Ok w (R k) ∧ g ∉ fp (R k)) {k : Nat} (hk : k < n) : ((arrW hok)[k]!).1 = R k := by
  rw [getElem!_pos (arrW hok) k (by rw [arrW_size]; exact hk)]
  exact congrArg Subtype.val (Array.getElem_ofFn ..)
theorem ext_self {α : Type} {d : Array α} {n : Nat} (h : d.size = n) : d.extract 0 n = d := by subst h; simp
theorem arr_list {w : World} {g : Nat} (d : Array (Fw w g)) : (List.range d.size).map (fun k => (d[k]!).1) = d.toList.map (·.1) := by
  apply List.ext_getElem
  · simp
  · intro k h1 h2
    simp at h1
    simp [getElem!_pos, h1]
theorem holdsW {w : World} {g cap n : Nat} {R : Nat → Fv} (h : Rw w g cap n R) (hok : ∀ k, k < n → Ok w (R k) ∧ g ∉ fp (R k)) : HoldsK encW 4 w g 0 (arrW hok) := by
  intro j hj
  rw [size_flatK, arrW_size] at hj
  have hl := h.len
  refine ⟨?_, ?_⟩
  · rw [get_flatK _ _ _ _ (by rw [arrW_size]; exact hj)]
    have e : encW (arrW hok)[j / 4]! = (R (j / 4)).enc := by unfold encW; rw [arrW_get hok (by omega)]
    rw [e]
    have hlen : j % 4 < (R (j / 4)).enc.length := by rw [Fv.len]; omega
    have := h.rng (j / 4) (by omega) (j % 4) _ (List.getElem?_eq_getElem hlen)
    rw [show j / 4 * 4 + j % 4 = j by omega] at this
    rw [Nat.zero_add, this, getElem!_pos (R (j / 4)).enc (j % 4) hlen]
    rfl
  · have := (h.there (i := 0) (m := cap * 4) (by omega) j (by omega)).2
    exact this
end Kl
set_option maxRecDepth 100000 in
theorem klSort (g cap n : Nat) (R : Nat → Kl.Fv) (w : World) (h : Kl.Rw w g cap n R) (hok : ∀ k, k < n → Kl.Ok w (R k) ∧ g ∉ Kl.fp (R k)) (hn : n < 4611686018427387904) :
    Calls Try.prog 26 #[.slice (some ⟨g, 0, none⟩) n cap, .func (.func 27) #[] #[]] w fun e w' => e = .returned (.tuple #[]) ∧ Kl.SrtE w g cap n R w' := by
  have eg : ∀ args w, (callFunc 27 args).run Try.prog w = .ok (.enter 27 args) w := enters_of Try.func27 (by kernel_rfl) rfl
  have hsz : (Kl.arrW hok).size < 4611686018427387904 := by
    rw [Kl.arrW_size]
    exact hn
  have hH := Kl.holdsW h hok
  have hc := AnyQ.slices_SortFunc Try.sortFm 4 Try.isAgg26 Try.sizeOf26 Kl.encW (fun x => x.1.len) Kl.encW_one Kl.cfW (Kl.swoW w g) 27 #[] g 0 cap (Kl.arrW hok) w eg (Kl.cmpW w g 0 _) hH h.lt hsz
  rw [Kl.arrW_size] at hc
  change Calls Try.prog 26 _ _ _ at hc
  refine hc.mono fun e w' he => ?_
  obtain ⟨he, d', m, os, hp, hs, rfl⟩ := he
  obtain ⟨p1, _, p3⟩ := hp
  rw [Kl.arrW_size] at p1
  have hHd := holdsK_sortWorldK_c Kl.encW 4 w g 0 (Kl.arrW hok) d' m os hH h.lt (by rw [Kl.arrW_size]; exact p1)
  refine ⟨he, fun k => (d'[k]!).1, fun i j hi hj => ?_, ?_, ⟨?_, h.len, h.max, fun k hk c v hv => ?_⟩, rfl, rfl, rfl, Kl.size_sort _ _, fun b hb hn => ?_⟩
  · have := hs i j (Nat.zero_le _) hi hj
    rw [Kl.lt_cfW] at this
    exact of_decide_eq_false this
  · have e1 := Kl.arr_list d'
    rw [p1] at e1
    have e2 := Kl.arr_list (Kl.arrW hok)
    rw [Kl.arrW_size] at e2
    have e3 : (List.range n).map R = (List.range n).map fun k => ((Kl.arrW hok)[k]!).1 := by
      apply List.map_congr_left
      intro k hk
      rw [Kl.arrW_get hok (by simpa using hk)]
    rw [e3, e1, e2]
    have q1 : d'.extract 0 n = d' := Kl.ext_self p1
    have q2 : (Kl.arrW hok).extract 0 n = Kl.arrW hok := Kl.ext_self (Kl.arrW_size hok)
    rw [q1, q2] at p3
    exact p3.map _
  · obtain ⟨cur, h1, h2⟩ := h.blk
    refine ⟨_, by rw [Kl.heap_sort _ _ h.lt, if_pos rfl, h1]; rfl, ?_⟩
    simp [putCells, h2]
  · have hc4 : c < 4 := by have := (List.getElem?_eq_some_iff.1 hv).1; rw [Kl.Fv.len] at this; exact this
    have := (hHd.cell (i := k) (c := c) (by rw [p1]; exact hk) hc4).1
    rw [Nat.zero_add] at this
    rw [this]
    show some ((d'[k]!).1.enc)[c]! = _
    rw [getElem!_pos (d'[k]!).1.enc c (List.getElem?_eq_some_iff.1 hv).1, (List.getElem?_eq_some_iff.1 hv).2]
  · rw [Kl.heap_sort _ _ hb, if_neg (fun c => hn (by rw [c]))]
end Go.Proofs.Ytmpmlccomgepjaa
