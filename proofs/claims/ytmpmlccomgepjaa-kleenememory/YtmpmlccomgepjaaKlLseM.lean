/-
  What loose and of keep to.
-/
import Derived.Test.YtmpmlccomgepjaaKlJoiW
namespace Go.Proofs.Ytmpmlccomgepjaa
open Go.RowKit Go.Lib Go.Sort
namespace Kl
def cons (v : Int) : Fm := .mk 0 v 0 []
def varF (n t : Int) : Fm := if t = 1 then .mk 1 0 n [] else cons t
def den (f : Fm) : Fm := if f.op = 0 then cons (notT f.va) else if f.op = 4 then f.ar.headD default else .mk 4 0 0 [f]
def isC (v : Int) (p : Fm) : Bool := p.op == 0 && p.va == v
/-- what is left of the parts -/
def lft (id : Int) (ps : List Fm) : List Fm := ps.filter fun p => !isC id p
/-- what of makes of parts that are left -/
def rst (op id : Int) : List Fm → Fm
  | [] => cons id
  | [p] => p
  | p :: q :: l => jnd op (p :: q :: l)
def ofM (op id st : Int) (ps : List Fm) : Fm := if ps.any (isC st) then (ps.find? (isC st)).getD default else rst op id (lft id ps)
mutual
/-- what loose makes of a formula -/
def lse (vs : List Int) : Fm → Fm
  | .mk o v n l => if o = 0 then cons v else if o = 1 then varF n (valL vs n) else if o = 4 then den ((lses vs l).headD default) else if o = 2 then ofM 2 2 0 (lses vs l) else ofM 3 0 2 (lses vs l)
def lses (vs : List Int) : List Fm → List Fm
  | [] => []
  | a :: l => lse vs a :: lses vs l
end
theorem lses_map (vs : List Int) : ∀ l : List Fm, lses vs l = l.map (lse vs)
  | [] => by simp [lses]
  | a :: l => by simp [lses, lses_map vs l]
theorem cons_sz (v : Int) : sz (cons v) = 1 := by simp [cons, sz, szs]
theorem headD_sz (l : List Fm) : sz (l.headD default) ≤ 1 + szs l := by
  cases l with
  | nil => simp [szs, default, sz]
  | cons a l => simp [szs]; omega
theorem jnd_sz (op : Int) (ps : List Fm) : sz (jnd op ps) ≤ 1 + szs ps := by
  have := spread_sz op ps
  unfold jnd
  split
  · rw [sz]; omega
  · have := headD_sz (spread op ps); omega
theorem rst_sz (op id : Int) (ps : List Fm) : sz (rst op id ps) ≤ 1 + szs ps := by
  match ps with
  | [] => rw [rst, cons_sz]; omega
  | [p] => rw [rst]; simp [szs]
  | p :: q :: l => rw [rst]; exact jnd_sz op _
theorem lft_sz (id : Int) : ∀ ps : List Fm, szs (lft id ps) ≤ szs ps
  | [] => by simp [lft]
  | p :: l => by
    have := lft_sz id l
    unfold lft at *
    rw [List.filter_cons]
    split
    · simp only [szs]; omega
    · simp only [szs]; omega
theorem ofM_sz (op id st : Int) (ps : List Fm) : sz (ofM op id st ps) ≤ 1 + szs ps := by
  unfold ofM
  split
  · rename_i h
    obtain ⟨p, hp, hp2⟩ := List.any_eq_true.1 h
    obtain ⟨q, hq⟩ : ∃ q, ps.find? (isC st) = some q := by
      cases e : ps.find? (isC st) with
      | none => exact absurd hp2 (by simpa using List.find?_eq_none.1 e p hp)
      | some q => exact ⟨q, rfl⟩
    rw [hq]
    have := szs_mem (List.mem_of_find?_eq_some hq)
    show sz q ≤ _
    omega
  · have := rst_sz op id (lft id ps)
    have := lft_sz id ps
    omega
theorem den_sz (f : Fm) : sz (den f) ≤ 1 + sz f := by
  unfold den
  split
  · rw [cons_sz]; omega
  · split
    · have h1 := headD_sz f.ar
      have h2 : sz f = 1 + szs f.ar := by cases f; rw [sz]; rfl
      omega
    · simp [sz, szs]
theorem varF_sz (n t : Int) : sz (varF n t) = 1 := by
  unfold varF
  split
  · simp [sz, szs]
  · exact cons_sz t
mutual
theorem lse_sz (vs : List Int) : ∀ f : Fm, sz (lse vs f) ≤ sz f
  | .mk o v n l => by
    have h := lses_sz vs l
    have hs : sz (.mk o v n l) = 1 + szs l := by rw [sz]
    rw [hs]
    unfold lse
    split
    · rw [cons_sz]; omega
    · split
      · rw [varF_sz]; omega
      · split
        · have hd : sz (den ((lses vs l).headD default)) ≤ 1 + szs l := by
            cases l with
            | nil => simp [lses, den, default, Fm.op, cons_sz, szs]
            | cons a l =>
              have h1 := lse_sz vs a
              have h2 := den_sz (lse vs a)
              simp only [lses, List.headD_cons, szs]
              omega
          exact hd
        · split
          · have := ofM_sz 2 2 0 (lses vs l); omega
          · have := ofM_sz 3 0 2 (lses vs l); omega
theorem lses_sz (vs : List Int) : ∀ l : List Fm, szs (lses vs l) ≤ szs l
  | [] => by simp [lses]
  | a :: l => by
    have h1 := lse_sz vs a
    have h2 := lses_sz vs l
    simp only [lses, szs]
    omega
end
/-- what loose answers -/
def LseE (w : World) (f : Fm) (r : Ending) (w' : World) : Prop :=
  ∃ y : Fv, r = .returned (.agg y.enc.toArray) ∧ Lo w' y ∧ ct y = f ∧ (∀ b ∈ fp y, w.heap.size ≤ b) ∧ Below w.heap.size w w'
/-- where of is behind i formulas -/
structure Of (w : World) (id st : Int) (fs : List Fm) (i : Nat) (Q : List Fv) (v : Value) (wr : World) : Prop where
  row : OR wr v Q
  con : Q.map ct = lft id (fs.take i)
  non : (fs.take i).any (isC st) = false
  lo : ∀ x ∈ Q, Lo wr x
  dj : Dj Q
  gp : ∀ g, v.ownBlock = some g → g ∉ fps Q ∧ w.heap.size ≤ g
  lowb : ∀ b ∈ fps Q, w.heap.size ≤ b
  bel : Below w.heap.size w wr
theorem Of.grow {w : World} {id st : Int} {fs : List Fm} {i : Nat} {Q : List Fv} {v : Value} {wr w1 : World} (h : Of w id st fs i Q v wr) (hb : Below wr.heap.size wr w1) : Of w id st fs i Q v w1 :=
  ⟨h.row.keep fun b _ hl => hb.block b hl, h.con, h.non, fun x hx => (h.lo x hx).keep (Chs.of_below (L := []) hb) fun _ _ => by simp, h.dj, h.gp, h.lowb, h.bel.trans (hb.mono h.bel.size)⟩
theorem Of.skip {w : World} {id st : Int} {fs : List Fm} {i : Nat} {Q : List Fv} {v : Value} {wr : World} {f : Fm} (h : Of w id st fs i Q v wr) (hf : fs[i]? = some f) (hs : isC st f = false) (hi : isC id f = true) : Of w id st fs (i + 1) Q v wr :=
  ⟨h.row, by rw [take_snoc hf, h.con]; unfold lft; rw [List.filter_append]; simp [hi], by rw [take_snoc hf, List.any_append, h.non]; simp [hs], h.lo, h.dj, h.gp, h.lowb, h.bel⟩
theorem Of.put {w : World} {id st : Int} {fs : List Fm} {i : Nat} {Q : List Fv} {v v' : Value} {wr w1 w2 : World} {f : Fm} {y : Fv} (h : Of w id st fs i Q v wr) (hf : fs[i]? = some f) (hs : isC st f = false) (hi : isC id f = false)
    (hb : Below wr.heap.size wr w1) (hy : Lo w1 y) (hc : ct y = f) (hfy : ∀ b ∈ fp y, wr.heap.size ≤ b) (ap : OR w2 v' (Q ++ [y])) (gb : w1.grownBy w2 v.ownBlock) (hat : v'.ownBlock = v.ownBlock ∨ v'.ownBlock = some w1.heap.size) : Of w id st fs (i + 1) (Q ++ [y]) v' w2 := by
  have h1 := h.grow hb
  have hgl : ∀ g, v.ownBlock = some g → g < wr.heap.size := fun g hg => by
    rcases h.row with ⟨rfl, _⟩ | ⟨g', cap, rfl, hr⟩
    · cases hg
    · cases hg; exact hr.lt
  have hws := h.bel.size
  have hss := hb.size
  have hcg : Chs v.ownBlock.toList w1 w2 := ⟨gb.os, gb.tape, gb.output, gb.size, fun k hk hn => gb.block k hk fun c => hn (by rw [← c]; simp)⟩
  have hlq : ∀ x ∈ Q, ∀ b ∈ fp x, b < wr.heap.size := fun x hx => (h.lo x hx).ok.lt x
  have hm : ∀ x ∈ Q ++ [y], x ∈ Q ∨ x = y := fun x hx => by
    rcases List.mem_append.1 hx with q | q
    · exact .inl q
    · simp at q; exact .inr q
  refine ⟨ap, ?_, ?_, fun x hx => ?_, fun a b x z hab hx hz c hcx hcz => ?_, fun g hg => ⟨fun hb' => ?_, ?_⟩, fun b hb' => ?_, ?_⟩
  · rw [take_snoc hf, List.map_append, h.con]
    unfold lft
    rw [List.filter_append]
    simp [hi, hc]
  · rw [take_snoc hf, List.any_append, h.non]
    simp [hs]
  · rcases hm x hx with q | q
    · refine (h1.lo x q).keep hcg fun b hb' c => ?_
      cases e : v.ownBlock with
      | none => rw [e] at c; simp at c
      | some g => rw [e] at c; simp at c; subst c; exact (h.gp b e).1 ((fps_mem Q b).2 ⟨x, q, hb'⟩)
    · subst q
      refine hy.keep hcg fun b hb' c => ?_
      cases e : v.ownBlock with
      | none => rw [e] at c; simp at c
      | some g => rw [e] at c; simp at c; subst c; have := hfy b hb'; have := hgl b e; omega
  · have hb1 := (List.getElem?_eq_some_iff.1 hz).1
    rw [List.length_append, List.length_singleton] at hb1
    have hxq : Q[a]? = some x := by rw [List.getElem?_append_left (by omega)] at hx; exact hx
    by_cases e : b < Q.length
    · rw [List.getElem?_append_left e] at hz
      exact h.dj a b x z hab hxq hz c hcx hcz
    · obtain rfl : b = Q.length := by omega
      simp at hz
      subst hz
      have := hfy c hcz
      have := hlq x (List.mem_of_getElem? hxq) c hcx
      omega
  · obtain ⟨x, hx, hbx⟩ := (fps_mem _ g).1 hb'
    rcases hat with c | c
    · rw [c] at hg
      rcases hm x hx with q | q
      · exact (h.gp g hg).1 ((fps_mem Q g).2 ⟨x, q, hbx⟩)
      · subst q; have := hfy g hbx; have := hgl g hg; omega
    · rw [c] at hg
      cases hg
      rcases hm x hx with q | q
      · have := hlq x q _ hbx; omega
      · subst q; have := hy.ok.lt x _ hbx; omega
  · rcases hat with c | c
    · exact (h.gp g (c ▸ hg)).2
    · rw [c] at hg; cases hg; omega
  · obtain ⟨x, hx, hbx⟩ := (fps_mem _ b).1 hb'
    rcases hm x hx with q | q
    · exact h.lowb b ((fps_mem Q b).2 ⟨x, q, hbx⟩)
    · subst q; have := hfy b hbx; omega
  · refine h1.bel.trans ⟨gb.os, gb.tape, gb.output, gb.size, fun k hk => gb.block k (by omega) fun c => ?_⟩
    have := (h.gp k c.symm).2
    omega
end Kl
end Go.Proofs.Ytmpmlccomgepjaa
