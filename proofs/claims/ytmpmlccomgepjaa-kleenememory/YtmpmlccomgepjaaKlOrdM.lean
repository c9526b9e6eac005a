/-
  What ordered keeps to: loose formulas in memory, and the mathematics of sorting and striking out.
-/
import Derived.Test.YtmpmlccomgepjaaKlSrt
namespace Go.Proofs.Ytmpmlccomgepjaa
open Go.RowKit Go.Lib Go.Sort
namespace Kl
theorem kp_sub (R : Nat → Fv) : ∀ (t : Nat) (x : Fv), x ∈ kp R t → ∃ k, k < t ∧ R k = x
  | 0, x, h => by simp [kp] at h
  | 1, x, h => by simp [kp] at h; exact ⟨0, by omega, h.symm⟩
  | t + 2, x, h => by
    rw [kp] at h
    split at h
    · obtain ⟨k, h1, h2⟩ := kp_sub R (t + 1) x h
      exact ⟨k, by omega, h2⟩
    · rcases List.mem_append.1 h with h | h
      · obtain ⟨k, h1, h2⟩ := kp_sub R (t + 1) x h
        exact ⟨k, by omega, h2⟩
      · simp at h
        exact ⟨t + 1, by omega, h.symm⟩
theorem kp_has (R : Nat → Fv) : ∀ (t k : Nat), k < t → ct (R k) ∈ (kp R t).map ct
  | 0, _, h => by omega
  | 1, k, h => by obtain rfl : k = 0 := by omega
                  simp [kp]
  | t + 2, k, h => by
    rw [kp]
    by_cases c : k = t + 1
    · subst c
      split
      · rename_i e
        have := kp_has R (t + 1) t (by omega)
        rw [cmpF_eq e]
        exact this
      · simp
    · have := kp_has R (t + 1) k (by omega)
      split
      · exact this
      · rw [List.map_append]
        exact List.mem_append_left _ this
theorem kp_rise {R : Nat → Fv} {n : Nat} (hs : Srt R n) : ∀ (t : Nat), t ≤ n → Rise ((kp R t).map ct) ∧ ∀ k, k + 1 = t → ∀ x ∈ (kp R t).map ct, cmpF x (ct (R k)) < 0 ∨ x = ct (R k)
  | 0, _ => ⟨by simp [kp, Rise], fun k h => by omega⟩
  | 1, _ => ⟨by simp [kp, Rise], fun k h x hx => by obtain rfl : k = 0 := by omega
                                                    simp [kp] at hx; exact .inr hx⟩
  | t + 2, ht => by
    obtain ⟨i1, i2⟩ := kp_rise hs (t + 1) (by omega)
    have hts := hs t (t + 1) (by omega) (by omega)
    rw [kp]
    split
    · rename_i e
      refine ⟨i1, fun k hk x hx => ?_⟩
      obtain rfl : k = t + 1 := by omega
      rw [cmpF_eq e]
      exact i2 t rfl x hx
    · rename_i e
      have hlt : cmpF (ct (R t)) (ct (R (t + 1))) < 0 := by
        rw [cmpF_anti (ct (R (t + 1))) (ct (R t))]
        omega
      have hall : ∀ x ∈ (kp R (t + 1)).map ct, cmpF x (ct (R (t + 1))) < 0 := fun x hx => by
        rcases i2 t rfl x hx with h | h
        · exact cmpF_trans h hlt
        · rw [h]; exact hlt
      rw [List.map_append]
      refine ⟨List.pairwise_append.2 ⟨i1, by simp, fun x hx y hy => ?_⟩, fun k hk x hx => ?_⟩
      · simp at hy
        rw [hy]
        exact hall x hx
      · obtain rfl : k = t + 1 := by omega
        rcases List.mem_append.1 hx with h | h
        · exact .inl (hall x h)
        · simp at h; exact .inr h
/-- sorted and struck out -/
theorem kp_sr {R R' : Nat → Fv} {n : Nat} (hs : Srt R' n) (hp : ((List.range n).map R').Perm ((List.range n).map R)) : (kp R' n).map ct = sr (((List.range n).map R).map ct) := by
  refine sr_only (kp_rise hs n (Nat.le_refl _)).1 fun x => ⟨fun hx => ?_, fun hx => ?_⟩
  · obtain ⟨y, hy, rfl⟩ := List.mem_map.1 hx
    obtain ⟨k, hk, rfl⟩ := kp_sub R' n y hy
    exact List.mem_map.2 ⟨_, hp.mem_iff.1 (List.mem_map.2 ⟨k, by simpa using hk, rfl⟩), rfl⟩
  · obtain ⟨y, hy, rfl⟩ := List.mem_map.1 hx
    obtain ⟨k, hk, rfl⟩ := List.mem_map.1 (hp.mem_iff.2 hy)
    exact kp_has R' n k (by simpa using hk)
theorem nth_range (l : List Fv) : (List.range l.length).map (nth l) = l := by
  apply List.ext_getElem
  · simp
  · intro k h1 h2
    simp [nth, h2]
theorem nth_some {l : List Fv} {k : Nat} {x : Fv} (h : l[k]? = some x) : nth l k = x := by simp [nth, h]
/-- what ordered makes of a formula that is no NotOf -/
def ord1 (f : Fm) : Fm := if f.op = 2 ∨ f.op = 3 then .mk f.op f.va f.vr (sr f.ar) else f
/-- what ordered makes of a formula -/
def ord (f : Fm) : Fm := if f.op = 4 then .mk f.op f.va f.vr (f.ar.map ord1) else ord1 f
/-- only these blocks have changed -/
structure Chs (L : List Nat) (w w' : World) : Prop where
  os : w'.os = w.os
  tape : w'.tape = w.tape
  output : w'.output = w.output
  size : w.heap.size ≤ w'.heap.size
  block : ∀ k, k < w.heap.size → k ∉ L → w'.heap[k]? = w.heap[k]?
theorem Chs.trans {L : List Nat} {a b c : World} (h : Chs L a b) (k : Chs L b c) : Chs L a c :=
  ⟨k.os.trans h.os, k.tape.trans h.tape, k.output.trans h.output, Nat.le_trans h.size k.size, fun i hi hn => (k.block i (Nat.lt_of_lt_of_le hi h.size) hn).trans (h.block i hi hn)⟩
theorem Ch.chs {g : Nat} {L : List Nat} {a b : World} (h : Ch g a b) (hg : g ∈ L) : Chs L a b := ⟨h.os, h.tape, h.output, h.size, fun k hk hn => h.block k hk fun c => hn (by cases c; exact hg)⟩
theorem Chs.of_below {L : List Nat} {a b : World} (h : Below a.heap.size a b) : Chs L a b := ⟨h.os, h.tape, h.output, h.size, fun k hk _ => h.block k hk⟩
theorem Chs.more {L M : List Nat} {a b : World} (h : Chs L a b) (hs : ∀ k ∈ L, k ∈ M) : Chs M a b := ⟨h.os, h.tape, h.output, h.size, fun k hk hn => h.block k hk fun c => hn (hs k c)⟩
theorem Chs.below {L : List Nat} {B : Nat} {w w' : World} (h : Chs L w w') (hB : ∀ k ∈ L, B ≤ k) (hw : B ≤ w.heap.size) : Below B w w' := ⟨h.os, h.tape, h.output, h.size, fun k hk => h.block k (by omega) (fun c => by have := hB k c; omega)⟩
theorem Chs.ok {L : List Nat} {w w' : World} {x : Fv} (h : Chs L w w') (hx : Ok w x) (hg : ∀ b ∈ fp x, b ∉ L) : Ok w' x :=
  hx.imp x fun a _ ha e => (World.cell?_of_block (a := a) (h.block a.block (block_lt_of_cell e) (hg _ ha))).trans e
/-- no two parts lie in one block -/
def Dj (l : List Fv) : Prop := ∀ (i j : Nat) (x y : Fv), i < j → l[i]? = some x → l[j]? = some y → ∀ b ∈ fp x, b ∉ fp y
/-- they share no block -/
def Ap (x y : Fv) : Prop := ∀ b ∈ fp x, b ∉ fp y
theorem Ap.symm {x y : Fv} (h : Ap x y) : Ap y x := fun b hb hc => h b hc hb
theorem Dj.iff {l : List Fv} : Dj l ↔ l.Pairwise Ap := by
  rw [List.pairwise_iff_getElem]
  constructor
  · intro h i j hi hj hij
    exact h i j _ _ hij (List.getElem?_eq_getElem hi) (List.getElem?_eq_getElem hj)
  · intro h i j x y hij hx hy
    obtain ⟨hi, rfl⟩ := List.getElem?_eq_some_iff.1 hx
    obtain ⟨hj, rfl⟩ := List.getElem?_eq_some_iff.1 hy
    exact h i j hi hj hij
theorem Dj.perm {l m : List Fv} (h : Dj l) (p : m.Perm l) : Dj m := Dj.iff.2 ((p.pairwise_iff fun h => h.symm).2 (Dj.iff.1 h))
theorem Dj.sub {l m : List Fv} (h : Dj l) (s : m.Sublist l) : Dj m := Dj.iff.2 ((Dj.iff.1 h).sublist s)
theorem Dj.one (x : Fv) : Dj [x] := Dj.iff.2 (by simp)
theorem Dj.nil : Dj [] := Dj.iff.2 (by simp)
theorem Dj.append {l m : List Fv} (h : Dj l) (k : Dj m) (a : ∀ b ∈ fps l, b ∉ fps m) : Dj (l ++ m) :=
  Dj.iff.2 (List.pairwise_append.2 ⟨Dj.iff.1 h, Dj.iff.1 k, fun x hx y hy b hb hc => a b ((fps_mem l b).2 ⟨x, hx, hb⟩) ((fps_mem m b).2 ⟨y, hy, hc⟩)⟩)
theorem kp_sublist (R : Nat → Fv) : ∀ t, (kp R t).Sublist ((List.range t).map R)
  | 0 => by simp [kp]
  | 1 => by simp [kp, List.range_succ]
  | t + 2 => by
    have h := kp_sublist R (t + 1)
    rw [kp, List.range_succ (n := t + 1), List.map_append]
    split
    · exact h.trans (List.sublist_append_left _ _)
    · exact h.append (List.Sublist.refl _)
theorem fp_row (o v n : Int) (g c : Nat) {l : List Fv} (h : 0 < l.length) : g ∈ fp (.mk o v n (some ⟨g, 0, none⟩) c l) := by unfold fp; exact List.mem_append_left _ (pb_mem (by omega))
theorem fp_in (o v n : Int) (p : Option Addr) (c : Nat) {l : List Fv} {b : Nat} (h : b ∈ fps l) : b ∈ fp (.mk o v n p c l) := by unfold fp; exact List.mem_append_right _ h
mutual
/-- it lies in rows of its own, all the way down -/
def Dp (w : World) : Fv → Prop
  | .mk _ _ _ p c l => (p = none ∧ c = 0 ∧ l = []) ∨ (0 < l.length ∧ ∃ g, p = some ⟨g, 0, none⟩ ∧ Rw w g c l.length (nth l) ∧ g ∉ fps l ∧ Dj l ∧ Dps w l)
def Dps (w : World) : List Fv → Prop
  | [] => True
  | a :: l => Dp w a ∧ Dps w l
end
theorem Dps.all {w : World} : ∀ {l : List Fv}, Dps w l ↔ ∀ x ∈ l, Dp w x
  | [] => by simp [Dps]
  | a :: l => by simp [Dps, Dps.all (l := l)]
mutual
theorem Dp.imp {w w' : World} : ∀ (x : Fv), Dp w x → (∀ b ∈ fp x, b < w.heap.size → w'.heap[b]? = w.heap[b]?) → Dp w' x
  | .mk o v n p c l, h, k => by
    unfold Dp at h ⊢
    rcases h with h | ⟨h0, g, rfl, h2, h3, h4, h5⟩
    · exact .inl h
    · exact .inr ⟨h0, g, rfl, h2.keep (k g (fp_row o v n g c h0) h2.lt), h3, h4, Dps.imp l h5 fun b hb => k b (fp_in o v n _ c hb)⟩
theorem Dps.imp {w w' : World} : ∀ (l : List Fv), Dps w l → (∀ b ∈ fps l, b < w.heap.size → w'.heap[b]? = w.heap[b]?) → Dps w' l
  | [], _, _ => by unfold Dps; trivial
  | a :: l, h, k => by
    unfold Dps at h ⊢
    exact ⟨Dp.imp a h.1 fun b hb => k b (by simp [fps, hb]), Dps.imp l h.2 fun b hb => k b (by simp [fps, hb])⟩
end
mutual
theorem Dp.ok {w : World} : ∀ (x : Fv), Dp w x → Ok w x
  | .mk o v n p c l, h => by
    unfold Dp at h
    rcases h with ⟨rfl, rfl, rfl⟩ | ⟨h0, g, rfl, h2, h3, h4, h5⟩
    · exact Ok.leaf w o v n
    · exact h2.ok o v n l rfl (fun _ _ e => nth_some e) (Dps.ok l h5)
theorem Dps.ok {w : World} : ∀ (l : List Fv), Dps w l → ∀ x ∈ l, Ok w x
  | [], _, x, hx => by cases hx
  | a :: l, h, x, hx => by
    unfold Dps at h
    rcases List.mem_cons.1 hx with e | e
    · rw [e]; exact Dp.ok a h.1
    · exact Dps.ok l h.2 x e
end
theorem Chs.dp {L : List Nat} {w w' : World} {x : Fv} (h : Chs L w w') (hx : Dp w x) (hg : ∀ b ∈ fp x, b ∉ L) : Dp w' x := hx.imp x fun b hb hl => h.block b hl (hg b hb)
theorem Ch.dp {g : Nat} {w w' : World} {x : Fv} (h : Ch g w w') (hx : Dp w x) (hg : g ∉ fp x) : Dp w' x := hx.imp x fun b hb hl => h.block b hl fun c => hg (by cases c; exact hb)
theorem Dp.below {w w' : World} {x : Fv} (h : Dp w x) (hb : Below w.heap.size w w') : Dp w' x := h.imp x fun b _ hl => hb.block b hl
theorem Dp.leaf (w : World) (o v n : Int) : Dp w (.mk o v n none 0 []) := by unfold Dp; exact .inl ⟨rfl, rfl, rfl⟩
/-- a row of one's own, with formulas that lie elsewhere -/
structure LoR (w : World) (g cap : Nat) (l : List Fv) : Prop where
  row : Rw w g cap l.length (nth l)
  els : ∀ x ∈ l, Ok w x ∧ g ∉ fp x
  dps : ∀ x ∈ l, Dp w x
  dj : Dj l
theorem LoR.keep {w w' : World} {g cap : Nat} {l : List Fv} (h : LoR w g cap l) {L : List Nat} (hc : Chs L w w') (hg : g ∉ L) (hl : ∀ b ∈ fps l, b ∉ L) : LoR w' g cap l :=
  ⟨h.1.keep (hc.block g h.1.lt hg), fun x hx => ⟨hc.ok (h.2 x hx).1 fun b hb => hl b ((fps_mem l b).2 ⟨x, hx, hb⟩), (h.2 x hx).2⟩, fun x hx => hc.dp (h.3 x hx) fun b hb => hl b ((fps_mem l b).2 ⟨x, hx, hb⟩), h.4⟩
theorem LoR.ok {w : World} {g cap : Nat} {l : List Fv} (h : LoR w g cap l) (o v n : Int) : Ok w (.mk o v n (some ⟨g, 0, none⟩) cap l) :=
  h.1.ok o v n l rfl (fun _ _ e => nth_some e) fun x hx => (h.2 x hx).1
theorem LoR.dp {w : World} {g cap : Nat} {l : List Fv} (h : LoR w g cap l) (h0 : 0 < l.length) (o v n : Int) : Dp w (.mk o v n (some ⟨g, 0, none⟩) cap l) := by
  unfold Dp
  refine .inr ⟨h0, g, rfl, h.1, fun hb => ?_, h.4, Dps.all.2 h.3⟩
  obtain ⟨x, hx, hb⟩ := (fps_mem l g).1 hb
  exact (h.2 x hx).2 hb
theorem LoR.below {w w' : World} {g cap : Nat} {l : List Fv} (h : LoR w g cap l) (hb : Below w.heap.size w w') : LoR w' g cap l := ⟨h.1.keep (hb.block g h.1.lt), fun x hx => ⟨(h.2 x hx).1.below hb, (h.2 x hx).2⟩, fun x hx => (h.3 x hx).below hb, h.4⟩
theorem sr_len (l : List Fm) : (sr l).length ≤ l.length := by
  have : ∀ a : List Fm, (l.foldl (fun a f => put f a) a).length ≤ a.length + l.length := by
    induction l with
    | nil => intro a; simp
    | cons f l ih =>
      intro a
      have h1 := ih (put f a)
      have h2 : (put f a).length ≤ a.length + 1 := by
        clear h1 ih
        induction a with
        | nil => simp [put]
        | cons g a ih =>
          unfold put
          split
          · simp
          · split
            · simp
            · simp only [List.length_cons]; omega
      rw [List.foldl_cons, List.length_cons]
      omega
  have h := this []
  simpa [sr] using h
theorem sr_sr (l : List Fm) : sr (sr l) = sr l := (sr_only (sr_rise l) fun _ => Iff.rfl).symm
/-- a loose formula that is no NotOf -/
def Lo1 (w : World) : Fv → Prop
  | .mk o _ _ p c l => (p = none ∧ c = 0 ∧ l = [] ∧ (o = 0 ∨ o = 1)) ∨ ((o = 2 ∨ o = 3) ∧ 2 ≤ (sr (l.map ct)).length ∧ ∃ g, p = some ⟨g, 0, none⟩ ∧ LoR w g c l)
/-- a loose formula -/
def Lo (w : World) (x : Fv) : Prop := Lo1 w x ∨ ∃ h g c, x = .mk 4 0 0 (some ⟨g, 0, none⟩) c [h] ∧ Lo1 w h ∧ h.op ≠ 0 ∧ Rw w g c 1 (fun _ => h) ∧ g ∉ fp h
/-- what ordered answers -/
def OrdE (x : Fv) (f : Fm) (w : World) (r : Ending) (w' : World) : Prop :=
  ∃ y : Fv, r = .returned (.agg y.enc.toArray) ∧ Lo w' y ∧ ct y = f ∧ (∀ b ∈ fp y, b ∈ fp x) ∧ Chs (fp x) w w'
/-- of a formula that is no NotOf -/
def OrdE1 (x : Fv) (f : Fm) (w : World) (r : Ending) (w' : World) : Prop :=
  ∃ y : Fv, r = .returned (.agg y.enc.toArray) ∧ Lo1 w' y ∧ ct y = f ∧ (∀ b ∈ fp y, b ∈ fp x) ∧ Chs (fp x) w w'
end Kl
end Go.Proofs.Ytmpmlccomgepjaa
