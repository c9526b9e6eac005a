/-
  What spread keeps to.
-/
import Derived.Test.YtmpmlccomgepjaaKlOrdN
import Derived.Test.YtmpmlccomgepjaaKlApp
namespace Go.Proofs.Ytmpmlccomgepjaa
open Go.RowKit Go.Lib Go.Sort
namespace Kl
mutual
/-- how many formulas there are in it -/
def sz : Fm → Nat | .mk _ _ _ l => 1 + szs l
def szs : List Fm → Nat
  | [] => 0
  | a :: l => sz a + szs l
end
theorem szs_app : ∀ l m : List Fm, szs (l ++ m) = szs l + szs m
  | [], m => by simp [szs]
  | a :: l, m => by simp only [List.cons_append, szs]; rw [szs_app l m]; omega
theorem sz_pos (f : Fm) : 0 < sz f := by cases f; rw [sz]; omega
theorem szs_len : ∀ l : List Fm, l.length ≤ szs l
  | [] => by simp [szs]
  | a :: l => by rw [szs, List.length_cons]; have := sz_pos a; have := szs_len l; omega
theorem szs_mem : ∀ {l : List Fm} {x : Fm}, x ∈ l → sz x ≤ szs l
  | a :: l, x, h => by
    rw [szs]
    rcases List.mem_cons.1 h with e | e
    · rw [e]; omega
    · have := szs_mem e; omega
theorem put_sz (f : Fm) : ∀ l : List Fm, szs (put f l) ≤ sz f + szs l
  | [] => by simp [put, szs]
  | g :: l => by
    unfold put
    split
    · simp [szs]
    · split
      · simp only [szs]; omega
      · have := put_sz f l; simp only [szs]; omega
theorem sr_sz (l : List Fm) : szs (sr l) ≤ szs l := by
  have : ∀ a : List Fm, szs (l.foldl (fun a f => put f a) a) ≤ szs a + szs l := by
    induction l with
    | nil => intro a; simp [szs]
    | cons f l ih =>
      intro a
      have h1 := ih (put f a)
      have h2 := put_sz f a
      rw [List.foldl_cons, szs]
      omega
  have h := this []
  simp only [szs] at h
  unfold sr
  omega
theorem ord1_sz (f : Fm) : sz (ord1 f) ≤ sz f := by
  obtain ⟨o, v, n, l⟩ := f
  unfold ord1
  split
  · have := sr_sz l; simp only [sz, Fm.ar]; omega
  · omega
theorem map_sz {g : Fm → Fm} (h : ∀ f, sz (g f) ≤ sz f) : ∀ l : List Fm, szs (l.map g) ≤ szs l
  | [] => by simp [szs]
  | a :: l => by have := map_sz h l; have := h a; simp only [List.map_cons, szs]; omega
theorem ord_sz (f : Fm) : sz (ord f) ≤ sz f := by
  obtain ⟨o, v, n, l⟩ := f
  unfold ord
  split
  · have := map_sz ord1_sz l; simp only [sz, Fm.ar]; omega
  · exact ord1_sz _
/-- one part more -/
def sprd (op : Int) (a : List Fm) (p : Fm) : List Fm := if p.op ≠ op then a ++ [ord p] else if p.ar.length > a.length then p.ar ++ a else a ++ p.ar
/-- the parts, with the arguments of those of the same kind in their place -/
def spread (op : Int) (ps : List Fm) : List Fm := ps.foldl (sprd op) []
theorem sprd_sz (op : Int) (a : List Fm) (p : Fm) : szs (sprd op a p) ≤ szs a + sz p := by
  unfold sprd
  split
  · have := ord_sz p; rw [szs_app]; simp only [szs]; omega
  · have hp : sz p = 1 + szs p.ar := by cases p; rw [sz]; rfl
    split
    · rw [szs_app]; omega
    · rw [szs_app]; omega
theorem spread_sz (op : Int) (ps : List Fm) : szs (spread op ps) ≤ szs ps := by
  have : ∀ a : List Fm, szs (ps.foldl (sprd op) a) ≤ szs a + szs ps := by
    induction ps with
    | nil => intro a; simp [szs]
    | cons f l ih =>
      intro a
      have h1 := ih (sprd op a f)
      have h2 := sprd_sz op a f
      rw [List.foldl_cons, szs]
      omega
  have h := this []
  simp only [szs] at h
  unfold spread
  omega
theorem Dj.take {l : List Fv} (h : Dj l) {i : Nat} {x : Fv} (hx : l[i]? = some x) {b : Nat} (hb : b ∈ fps (l.take i)) : b ∉ fp x := by
  obtain ⟨y, hy, hb⟩ := (fps_mem _ b).1 hb
  obtain ⟨k, hk, e⟩ := List.mem_take_iff_getElem.1 hy
  exact h k i y x (by omega) (by rw [List.getElem?_eq_getElem (by omega), e]) hx b hb
theorem fps_snoc {l : List Fv} {i : Nat} {x : Fv} (hx : l[i]? = some x) (b : Nat) : b ∈ fps (l.take (i + 1)) ↔ b ∈ fps (l.take i) ∨ b ∈ fp x := by
  rw [take_snoc hx, fps_mem, fps_mem]
  constructor
  · rintro ⟨y, hy, hb⟩
    rcases List.mem_append.1 hy with h | h
    · exact .inl ⟨y, h, hb⟩
    · simp at h; rw [h] at hb; exact .inr hb
  · rintro (⟨y, hy, hb⟩ | hb)
    · exact ⟨y, List.mem_append_left _ hy, hb⟩
    · exact ⟨x, List.mem_append_right _ (by simp), hb⟩
/-- where spread is behind i parts -/
structure Sp (w : World) (op : Int) (l : List Fv) (i : Nat) (A : List Fv) (v : Value) (wr : World) : Prop where
  row : OR wr v A
  con : A.map ct = spread op ((l.take i).map ct)
  els : ∀ x ∈ A, Ok wr x ∧ ∀ g, v.ownBlock = some g → g ∉ fp x
  inn : ∀ b, (b ∈ fps A ∨ v.ownBlock = some b) → b ∈ fps (l.take i) ∨ w.heap.size ≤ b
  ch : Chs (fps (l.take i)) w wr
  low : (∀ y ∈ l.take i, y.op ≠ op) → ∀ x ∈ A, Lo wr x
  dps : ∀ x ∈ A, Dp wr x
  dj : Dj A
theorem Sp.app {w : World} {op : Int} {l : List Fv} {i : Nat} {A : List Fv} {v : Value} {wr w1 w2 : World} {x : Fv} (h : Sp w op l i A v wr) (hx : l[i]? = some x) (hc : Chs (fp x) wr w1) {v0 v' : Value} {X Y : List Fv}
    (els : ∀ y ∈ X ++ Y, Ok w1 y ∧ ∀ g, v0.ownBlock = some g → g ∉ fp y) (inn : ∀ b, (b ∈ fps (X ++ Y) ∨ v0.ownBlock = some b) → (b ∈ fps A ∨ v.ownBlock = some b) ∨ b ∈ fp x) (con : (X ++ Y).map ct = sprd op (A.map ct) (ct x))
    (ap : OR w2 v' (X ++ Y)) (gb : w1.grownBy w2 v0.ownBlock) (hat : v'.ownBlock = v0.ownBlock ∨ v'.ownBlock = some w1.heap.size) (lw : (∀ y ∈ l.take (i + 1), y.op ≠ op) → ∀ x ∈ X ++ Y, Lo w1 x) (dp : ∀ y ∈ X ++ Y, Dp w1 y) (dj : Dj (X ++ Y)) : Sp w op l (i + 1) (X ++ Y) v' w2 := by
  have hs1 : w.heap.size ≤ w1.heap.size := Nat.le_trans h.ch.size hc.size
  have hin : ∀ b, (b ∈ fps (X ++ Y) ∨ v0.ownBlock = some b) → b ∈ fps (l.take (i + 1)) ∨ w.heap.size ≤ b := fun b hb => by
    rcases inn b hb with k | k
    · rcases h.inn b k with k | k
      · exact .inl ((fps_snoc hx b).2 (.inl k))
      · exact .inr k
    · exact .inl ((fps_snoc hx b).2 (.inr k))
  refine ⟨ap, ?_, fun y hy => ⟨?_, fun g hg hb => ?_⟩, fun b hb => ?_, ?_, fun hal y hy => ?_, fun y hy => (dp y hy).imp y fun b hb hl => gb.block b hl fun c => (els y hy).2 b c.symm hb, dj⟩
  · rw [con, h.con, take_snoc hx, List.map_append]
    unfold spread
    rw [List.foldl_append]
    rfl
  · exact (els y hy).1.imp y fun a _ ha e => (World.cell?_of_block (a := a) (gb.block a.block (block_lt_of_cell e) fun c => (els y hy).2 a.block c.symm ha)).trans e
  · rcases hat with c | c
    · exact (els y hy).2 g (c ▸ hg) hb
    · rw [c] at hg
      cases hg
      have := (els y hy).1.lt y _ hb
      omega
  · rcases hb with hb | hb
    · exact hin b (.inl hb)
    · rcases hat with c | c
      · exact hin b (.inr (c ▸ hb))
      · rw [c] at hb; cases hb; exact .inr hs1
  · refine ⟨gb.os.trans (hc.os.trans h.ch.os), gb.tape.trans (hc.tape.trans h.ch.tape), gb.output.trans (hc.output.trans h.ch.output), Nat.le_trans hs1 gb.size, fun k hk hn => ?_⟩
    have h1 : k ∉ fps (l.take i) := fun c => hn ((fps_snoc hx k).2 (.inl c))
    have h2 : k ∉ fp x := fun c => hn ((fps_snoc hx k).2 (.inr c))
    refine (gb.block k (by omega) fun c => ?_).trans ((hc.block k (by have := h.ch.size; omega) h2).trans (h.ch.block k hk h1))
    rcases hin k (.inr c.symm) with q | q
    · exact hn q
    · omega
  · have hcg : Chs v0.ownBlock.toList w1 w2 := ⟨gb.os, gb.tape, gb.output, gb.size, fun k hk hn => gb.block k hk fun c => hn (by rw [← c]; simp)⟩
    refine (lw hal y hy).keep hcg fun b hb hc => (els y hy).2 b ?_ hb
    cases hv : v0.ownBlock with
    | none => rw [hv] at hc; simp at hc
    | some g => rw [hv] at hc; simp at hc; rw [hc]
end Kl
set_option maxRecDepth 100000 in
theorem klOrdered (x : Kl.Fv) (w : World) (h : Kl.Lo w x) (hn : Kl.sz (Kl.ct x) ≤ 1048576) : Calls Try.prog 17 #[.agg x.enc.toArray] w fun r w' => Kl.OrdE x (Kl.ord (Kl.ct x)) w r w' := by
  have hlen : ∀ y : Kl.Fv, Kl.sz (Kl.ct y) ≤ 1048576 → y.ar.length < 4611686018427387904 := fun y hy => by
    obtain ⟨o, v, n, p, c, l⟩ := y
    rw [Kl.ct_mk, Kl.sz] at hy
    have := Kl.szs_len (l.map Kl.ct)
    rw [List.length_map] at this
    show l.length < _
    omega
  rcases h with h | ⟨y, g, c, rfl, h1, h2, h3, h4⟩
  · have ho : (Kl.ct x).op ≠ 4 := by
      obtain ⟨o, v, n, p, c, l⟩ := x
      rw [Kl.ct_mk]
      rcases h with ⟨_, _, _, e⟩ | ⟨e, _⟩ <;> (simp only [Kl.Fm.op]; omega)
    unfold Kl.ord
    rw [if_neg ho]
    exact (klOrd1 x w h (hlen x hn)).mono fun r w' ⟨y, h1, h2, h3⟩ => ⟨y, h1, .inl h2, h3⟩
  · rw [Kl.ct_mk]
    have hy : Kl.sz (Kl.ct y) ≤ 1048576 := by
      rw [Kl.ct_mk, Kl.sz] at hn
      simp only [List.map_cons, List.map_nil, Kl.szs] at hn
      omega
    refine (klOrdNot y g c w h1 h3 h4 (hlen y hy)).mono fun r w' h => ?_
    obtain ⟨z, e1, e2, e3, e4, e5, e6⟩ := h
    have hzo : z.op ≠ 0 := by
      have q1 : (Kl.ct z).op = (Kl.ct y).op := by rw [e2]; unfold Kl.ord1; split <;> rfl
      obtain ⟨zo, zv, zn, zp, zc, zl⟩ := z
      obtain ⟨yo, yv, yn, yp, yc, yl⟩ := y
      rw [Kl.ct_mk, Kl.ct_mk] at q1
      exact fun e => h2 (q1.symm.trans e)
    refine ⟨.mk 4 0 0 (some ⟨g, 0, none⟩) c [z], e1, .inr ⟨z, g, c, rfl, e4, hzo, e5, fun hb => h4 (e3 g hb)⟩, ?_, fun b hb => ?_, ?_⟩
    · rw [Kl.ct_mk]
      unfold Kl.ord
      rw [if_pos (show (Kl.Fm.mk 4 0 0 _).op = 4 from rfl)]
      simp only [List.map_cons, List.map_nil, e2]
      rfl
    · unfold Kl.fp at hb ⊢
      simp only [List.length_cons, List.length_nil, Kl.fps, List.append_nil] at hb ⊢
      rcases List.mem_append.1 hb with hb | hb
      · exact List.mem_append_left _ hb
      · exact List.mem_append_right _ (e3 b hb)
    · refine e6.more fun k hk => ?_
      rcases List.mem_cons.1 hk with e | e
      · rw [e]; exact Kl.fp_row 4 0 0 g c (by simp)
      · exact Kl.fp_in 4 0 0 _ c (by simp [Kl.fps, e])
end Go.Proofs.Ytmpmlccomgepjaa
