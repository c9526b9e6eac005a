/-
  What the loop of mean.groundOf keeps; spotOf of any node and of the root above, in one word.
-/
import Derived.Test.YtfockjlegpbooaaGreatDoorMnSet
import Derived.RangeFuncBox
namespace Go.Proofs.YtfockjlegpbooaaGreatDoor
open Go.RowKit Go.Shelf Go.Lib
namespace Mn
def evI (E : Nat → Tr.Ev Value) (n : Nat) (m : Int) : Nat := ((Tr.grun E n).nth m.toNat).fst.toNat
def parI (E : Nat → Tr.Ev Value) (n : Nat) (m : Int) : Int := ((Tr.grun E n).nth m.toNat).par
/-- a spot as the loop makes it -/
def spA (E : Nat → Tr.Ev Value) (n : Nat) (k m a : Int) (av : Value) : Sp :=
  if m < 0 then ⟨false, false, ⟨#[]⟩, av, 0 - k, a, 0 + a⟩ else ⟨(E (evI E n m)).kind == 0, (E (evI E n m)).kind == 1, (E (evI E n m)).nm, av, parI E n m - k, a, ((E (evI E n m)).tx.size : Nat) + a⟩
def atsI (E : Nat → Tr.Ev Value) (n : Nat) (m : Int) : List (ByteArray × ByteArray) := if m < 0 then [] else (E (evI E n m)).ats
def tszI (E : Nat → Tr.Ev Value) (n : Nat) (m : Int) : Int := if m < 0 then 0 else ((E (evI E n m)).tx.size : Nat)
/-- where the text behind these nodes begins -/
def atL (E : Nat → Tr.Ev Value) (n : Nat) : List Int → Int
  | [] => 0
  | m :: l => tszI E n m + atL E n l
theorem atL_snoc (E : Nat → Tr.Ev Value) (n : Nat) : ∀ (l : List Int) (m : Int), atL E n (l ++ [m]) = atL E n l + tszI E n m
  | [], m => by simp [atL]
  | x :: l, m => by
    show tszI E n x + atL E n (l ++ [m]) = tszI E n x + atL E n l + tszI E n m
    rw [atL_snoc E n l m]
    omega
theorem atL_bound {E : Nat → Tr.Ev Value} {n : Nat} : ∀ (l : List Int), (∀ m ∈ l, 0 ≤ tszI E n m ∧ tszI E n m ≤ 1048576) → 0 ≤ atL E n l ∧ atL E n l ≤ l.length * 1048576
  | [], _ => by simp [atL]
  | m :: l, h => by
    have h1 := h m (by simp)
    have h2 := atL_bound l (fun x hx => h x (by simp [hx]))
    show 0 ≤ tszI E n m + atL E n l ∧ tszI E n m + atL E n l ≤ _
    rw [List.length_cons]
    omega
/-- a node's parent lies within what it is in -/
theorem par_in {E : Nat → Tr.Ev Value} {n nd : Nat} (h : Tr.Shape E (Tr.grun E n) nd n) {k m : Int} (h0 : -1 ≤ k) (hk : k < nd) (h1 : k < m) (h2 : m < Tr.bh E n nd k) : k ≤ parI E n m ∧ parI E n m < m := by
  obtain ⟨j, rfl⟩ : ∃ j : Nat, m = j := ⟨m.toNat, by omega⟩
  have hb := (Tr.bh_up h h0 hk).2
  unfold parI
  rw [Int.toNat_natCast]
  rcases h.par j (by omega) with ⟨rfl, e⟩ | ⟨p, hp, e, _, hd⟩
  · rw [e]; omega
  · rw [e]
    refine ⟨?_, by omega⟩
    by_cases hk0 : k < 0
    · omega
    obtain ⟨i, rfl⟩ : ∃ i : Nat, k = i := ⟨k.toNat, by omega⟩
    by_cases hpi : (i : Int) ≤ p
    · exact hpi
    obtain ⟨b, _, hb1, _, _, _, _, _, hb2, _⟩ := h.beh i (by omega)
    have h3 : Tr.bh E n nd (i : Int) = b := by
      unfold Tr.bh
      rw [if_neg (by omega), Int.toNat_natCast, hb1]
    have h4 := hb2 j (by omega) (by omega)
    have h5 := hd i (by omega) (by omega)
    omega
theorem AtOwn_typ {W : World} {v : Value} {l : List (ByteArray × ByteArray)} (h : Tr.AtOwn W v l) {g : Nat} (e : v.ownBlock = some g) : ∃ cur, W.heap[g]? = some (.cells cur 123 (0, 0)) := by
  obtain ⟨xs, hx⟩ := h.wr
  rcases hx.2 with ⟨rfl, _⟩ | ⟨g', cap, cur, rfl, _, hh, _⟩
  · cases e
  · cases e
    exact ⟨cur, hh⟩
/-- the spots of these nodes -/
structure SPS (W : World) (M : Nat) (E : Nat → Tr.Ev Value) (n : Nat) (k : Int) (ms : List Int) (l : List Sp) : Prop where
  len : l.length = ms.length
  at_ : ∀ i m, ms[i]? = some m → ∃ av, l[i]? = some (spA E n k m (atL E n (ms.take i)) av) ∧ Tr.AtOwn W av (atsI E n m) ∧ ∀ g, av.ownBlock = some g → M ≤ g
theorem SPS.keep {W W' : World} {M : Nat} {E : Nat → Tr.Ev Value} {n : Nat} {k : Int} {ms : List Int} {l : List Sp} (h : SPS W M E n k ms l) (hk : ∀ g cur, M ≤ g → W.heap[g]? = some (.cells cur 123 (0, 0)) → W'.heap[g]? = W.heap[g]?) : SPS W' M E n k ms l := by
  refine ⟨h.len, fun i m hm => ?_⟩
  obtain ⟨av, h1, h2, h3⟩ := h.at_ i m hm
  refine ⟨av, h1, h2.keep (fun g e _ => ?_), h3⟩
  obtain ⟨cur, hc⟩ := AtOwn_typ h2 e
  exact hk g cur (h3 g e) hc
theorem SPS.snoc {W : World} {M : Nat} {E : Nat → Tr.Ev Value} {n : Nat} {k m : Int} {ms : List Int} {l : List Sp} {av : Value} (h : SPS W M E n k ms l) (hA : Tr.AtOwn W av (atsI E n m)) (hg : ∀ g, av.ownBlock = some g → M ≤ g) : SPS W M E n k (ms ++ [m]) (l ++ [spA E n k m (atL E n ms) av]) := by
  refine ⟨by simp [h.len], fun i x hx => ?_⟩
  by_cases hi : i < ms.length
  · rw [List.getElem?_append_left hi] at hx
    obtain ⟨a', h1, h2⟩ := h.at_ i x hx
    refine ⟨a', ?_, h2⟩
    rw [List.getElem?_append_left (by rw [h.len]; exact hi), h1, List.take_append_of_le_length (by omega)]
  · have h1 : i < (ms ++ [m]).length := (List.getElem?_eq_some_iff.1 hx).1
    have hi2 : i = ms.length := by simp at h1; omega
    subst hi2
    rw [List.getElem?_append_right (Nat.le_refl _), Nat.sub_self] at hx
    obtain rfl : m = x := by simpa using hx
    refine ⟨av, ?_, hA, hg⟩
    rw [List.getElem?_append_right (by rw [h.len]; exact Nat.le_refl _), h.len, Nat.sub_self, List.take_left]
    rfl
/-- what the loop keeps: M is where the heap ended ahead of it -/
structure GI (w : World) (D Ba M : Nat) (k : Int) (tx : ByteArray) (E : Nat → Tr.Ev Value) (n : Nat) (W2 : World) {a b : Int} (pre : List (Tr.Num a b)) (W : World) : Prop where
  bel : Below w.heap.size w W
  bt : Boxed W w.heap.size 27 (.pointer (some ⟨D, 0, none⟩))
  bn : Boxed W (w.heap.size + 1) 3 (.int .i64 k)
  bg : Boxed W (w.heap.size + 1 + 1 + 1) 86 (.pointer (some ⟨w.heap.size + 1 + 1, 0, none⟩))
  ba : Boxed W Ba 3 (.int .i64 (atL E n (Tr.vals pre)))
  sps : ∃ v l, W.heap[w.heap.size + 1 + 1]? = some (.cells #[.int .i64 k, .string tx, v] 111 (0, 0)) ∧ W.ownsRow M 118 7 v pre.length (scs l) ∧ SPS W M E n k (Tr.vals pre) l
  same : ∀ j, j < M → j ≠ w.heap.size + 1 + 1 → j ≠ Ba → W.heap[j]? = W2.heap[j]?
  le : M ≤ W.heap.size
  l1 : w.heap.size + 1 + 1 + 1 < Ba
  l2 : Ba < M
theorem GI.own (w : World) (D Ba M : Nat) (k : Int) (tx : ByteArray) (E : Nat → Tr.Ev Value) (n : Nat) (W2 : World) {a b : Int} (B : Nat) (hB : M ≤ B) : OwnFrom B (GI w D Ba M k tx E n W2 (a := a) (b := b)) := by
  intro pre W W' row h hg hr
  have hk : ∀ (j : Nat) (o : Obj), W.heap[j]? = some o → o.isCells = true → W'.heap[j]? = some o := fun j o h1 h2 => kept_cells hg (fun r e => (hr r e).2) h1 h2
  have l1 := h.l1
  have l2 := h.l2
  have hle := h.le
  have hlow : ∀ j, j < M → W'.heap[j]? = W.heap[j]? := fun j hj => hg.block j (by omega) (fun e => by have := (hr j e.symm).1; omega)
  obtain ⟨v, l, s1, s2, s3⟩ := h.sps
  refine ⟨?_, hk _ _ h.bt rfl, hk _ _ h.bn rfl, hk _ _ h.bg rfl, hk _ _ h.ba rfl, ⟨v, l, hk _ _ s1 rfl, ?_, ?_⟩, fun j h1 h2 h3 => (hlow j h1).trans (h.same j h1 h2 h3), Nat.le_trans hle hg.size, h.l1, h.l2⟩
  · exact h.bel.trans ⟨hg.os, hg.tape, hg.output, hg.size, fun j hj => hlow j (by omega)⟩
  · refine Tr.owns_block s2 (fun g e _ => ?_)
    rcases s2.2 with ⟨rfl, _⟩ | ⟨g', cap, cur, rfl, _, hh, _⟩
    · cases e
    · cases e
      exact (hk _ _ hh rfl).trans hh.symm
  · exact s3.keep (fun g cur _ hc => (hk _ _ hc rfl).trans hc.symm)
/-- one node more -/
theorem GI.step {w : World} {D Ba M : Nat} {k : Int} {tx : ByteArray} {E : Nat → Tr.Ev Value} {n : Nat} {W2 : World} {a b : Int} {pre : List (Tr.Num a b)} {x : Tr.Num a b} {W Wa w5 : World} {v v' av : Value} {l : List Sp} {o1 o2 : Obj} {z : Int} (h : GI w D Ba M k tx E n W2 pre W)
    (s1 : W.heap[w.heap.size + 1 + 1]? = some (.cells #[.int .i64 k, .string tx, v] 111 (0, 0))) (s2 : W.ownsRow M 118 7 v pre.length (scs l)) (s3 : SPS W M E n k (Tr.vals pre) l)
    (hb : Below W.heap.size W Wa) (hA : Tr.AtOwn Wa av (atsI E n x.1)) (hgA : ∀ g, av.ownBlock = some g → W.heap.size ≤ g) (hz : z = atL E n (Tr.vals pre) + tszI E n x.1)
    (hown : w5.ownsRow M 118 7 v' (pre.length + 1) (scs l ++ (spA E n k x.1 (atL E n (Tr.vals pre)) av).cl)) (hg : ((((Wa.alloc o1).setCell ⟨Ba, 0, none⟩ (.int .i64 z)).drew).alloc o2).grownBy w5 v.ownBlock) :
    w5.heap[w.heap.size + 1 + 1]? = some (.cells #[.int .i64 k, .string tx, v] 111 (0, 0)) ∧ Boxed w5 (w.heap.size + 1 + 1 + 1) 86 (.pointer (some ⟨w.heap.size + 1 + 1, 0, none⟩)) ∧
      GI w D Ba M k tx E n W2 (pre ++ [x]) (w5.setCell ⟨w.heap.size + 1 + 1, 2, none⟩ v') ∧ KeepsOthers W (w5.setCell ⟨w.heap.size + 1 + 1, 2, none⟩ v') ∧ (∀ j, j < M → j ≠ w.heap.size + 1 + 1 → j ≠ Ba → (w5.setCell ⟨w.heap.size + 1 + 1, 2, none⟩ v').heap[j]? = W.heap[j]?) := by
  have l1 := h.l1
  have l2 := h.l2
  have hle := h.le
  have hbs := hb.size
  have hz4 : ((((Wa.alloc o1).setCell ⟨Ba, 0, none⟩ (.int .i64 z)).drew).alloc o2).heap.size = Wa.heap.size + 2 := by
    rw [World.size_alloc]
    show ((Wa.alloc o1).setCell ⟨Ba, 0, none⟩ (.int .i64 z)).heap.size + 1 = _
    simp
  have rowlt : ∀ j, v.ownBlock = some j → M ≤ j ∧ j < W.heap.size := fun j e => s2.lt j e
  have h4 : ∀ j, j < Wa.heap.size → j ≠ Ba → ((((Wa.alloc o1).setCell ⟨Ba, 0, none⟩ (.int .i64 z)).drew).alloc o2).heap[j]? = Wa.heap[j]? := fun j h1 h2 => by
    rw [Below.heap_alloc _ _ _ (by show j < ((Wa.alloc o1).setCell ⟨Ba, 0, none⟩ (.int .i64 z)).heap.size; simp; omega)]
    show ((Wa.alloc o1).setCell ⟨Ba, 0, none⟩ (.int .i64 z)).heap[j]? = _
    rw [Below.heap_setCell _ _ _ _ h2, Below.heap_alloc _ _ _ h1]
  have h5 : ∀ j, j < Wa.heap.size → j ≠ Ba → v.ownBlock ≠ some j → w5.heap[j]? = Wa.heap[j]? := fun j h1 h2 h3 => (hg.block j (by omega) (fun e => h3 e.symm)).trans (h4 j h1 h2)
  have hG : w5.heap[w.heap.size + 1 + 1]? = some (.cells #[.int .i64 k, .string tx, v] 111 (0, 0)) := by
    rw [h5 _ (by omega) (by omega) (fun e => by have := (rowlt _ e).1; omega), hb.block _ (by omega)]
    exact s1
  have hsm : ∀ j, j < W.heap.size → j ≠ w.heap.size + 1 + 1 → j ≠ Ba → v.ownBlock ≠ some j → (w5.setCell ⟨w.heap.size + 1 + 1, 2, none⟩ v').heap[j]? = W.heap[j]? := fun j h1 h2 h3 h4 => by
    rw [Below.heap_setCell _ _ _ _ h2, h5 j (by omega) h3 h4, hb.block j h1]
  have hlow : ∀ j, j < M → j ≠ w.heap.size + 1 + 1 → j ≠ Ba → (w5.setCell ⟨w.heap.size + 1 + 1, 2, none⟩ v').heap[j]? = W.heap[j]? := fun j h1 h2 h3 => hsm j (by omega) h2 h3 (fun e => by have := (rowlt _ e).1; omega)
  have rowty : ∀ j, v.ownBlock = some j → ∃ cur, W.heap[j]? = some (.cells cur 118 (0, 0)) := fun j e => by
    rcases s2.2 with ⟨rfl, _⟩ | ⟨g', cap, cur, rfl, _, hh, _⟩
    · cases e
    · cases e
      exact ⟨cur, hh⟩
  have hBa : w5.heap[Ba]? = some (.cells #[.int .i64 z] 3 (0, 0)) := by
    rw [hg.block Ba (by omega) (fun e => by have := (rowlt _ e.symm).1; omega), Below.heap_alloc _ _ _ (by show Ba < ((Wa.alloc o1).setCell ⟨Ba, 0, none⟩ (.int .i64 z)).heap.size; simp; omega)]
    show ((Wa.alloc o1).setCell ⟨Ba, 0, none⟩ (.int .i64 z)).heap[Ba]? = _
    have hba : Boxed (Wa.alloc o1) Ba 3 (.int .i64 (atL E n (Tr.vals pre))) := Boxed.alloc ((hb.block Ba (by omega)).trans h.ba) o1
    exact hba.set _
  have hsz : Wa.heap.size + 2 ≤ w5.heap.size := by have := hg.size; omega
  refine ⟨hG, (h5 _ (by omega) (by omega) (fun e => by have := (rowlt _ e).1; omega)).trans ((hb.block _ (by omega)).trans h.bg), ⟨?_, ?_, ?_, ?_, ?_, ?_, fun j h1 h2 h3 => (hlow j h1 h2 h3).trans (h.same j h1 h2 h3), by simp; omega, l1, l2⟩, ⟨by simp; omega, fun j o hj ho => ?_⟩, hlow⟩
  · have e3 : Below w.heap.size w (((Wa.alloc o1).setCell ⟨Ba, 0, none⟩ (.int .i64 z)).drew) := (((h.bel.trans (hb.mono h.bel.size)).alloc (h.bel.trans (hb.mono h.bel.size)).size _).setCell (p := ⟨Ba, 0, none⟩) (by show w.heap.size ≤ Ba; omega) _).drew
    exact ((e3.alloc e3.size o2).grown hg (by have := e3.size; simp; omega) (fun j e => by have := (rowlt j e).1; omega)).setCell (p := ⟨w.heap.size + 1 + 1, 2, none⟩) (by show w.heap.size ≤ w.heap.size + 1 + 1; omega) _
  · exact (hlow _ (by omega) (by omega) (by omega)).trans h.bt
  · exact (hlow _ (by omega) (by omega) (by omega)).trans h.bn
  · exact (hlow _ (by omega) (by omega) (by omega)).trans h.bg
  · rw [Tr.vals_snoc, atL_snoc, ← hz]
    exact (Below.heap_setCell _ _ _ _ (by show Ba ≠ w.heap.size + 1 + 1; omega)).trans hBa
  · refine ⟨v', l ++ [spA E n k x.1 (atL E n (Tr.vals pre)) av], Go.Joins.block_setCell (i := 2) hG _, ?_, ?_⟩
    · rw [scs_app, List.length_append]
      exact Tr.owns_far hown _ _ (by show w.heap.size + 1 + 1 < M; omega)
    · rw [Tr.vals_snoc]
      refine SPS.snoc (s3.keep (fun g cur hM hc => hsm g (Array.getElem?_eq_some_iff.1 hc).1 (by omega) (by omega) (fun e => ?_))) (hA.keep (fun g e hgl => ?_)) (fun g e => Nat.le_trans hle (hgA g e))
      · obtain ⟨cur', hc'⟩ := rowty g e
        rw [hc] at hc'
        have := Option.some.inj hc'
        injection this with _ h2 _
        exact absurd h2 (by decide)
      · have h1 := hgA g e
        rw [Below.heap_setCell _ _ _ _ (by show g ≠ w.heap.size + 1 + 1; omega), h5 g hgl (by omega) (fun e2 => by have := (rowlt g e2).2; omega)]
  · refine (hsm j (Array.getElem?_eq_some_iff.1 hj).1 (fun e => ?_) (fun e => ?_) (fun e => ?_)).trans hj
    · subst e
      rw [s1] at hj
      cases hj
      cases ho
    · subst e
      have := h.ba
      unfold Boxed at this
      rw [this] at hj
      cases hj
      cases ho
    · obtain ⟨cur, hc⟩ := rowty j e
      rw [hc] at hj
      cases hj
      cases ho
end Mn
theorem mnSpotA (W : World) (B D n : Nat) (E : Nat → Tr.Ev Value) (L q cap nd : Nat) (h : Tr.TreeR W B D n E L q cap nd) (hs : ∀ i, i < n → Tr.Tiny (E i)) (x : Int) (h1 : -1 ≤ x) (h2 : x < nd) :
    ∃ (el tb : Bool) (nm : ByteArray) (pr tz : Int), (∀ k a av, Mn.spA E n k x a av = ⟨el, tb, nm, av, pr - k, a, tz + a⟩) ∧ Mn.tszI E n x = tz ∧ (0 ≤ tz ∧ tz ≤ 1048576) ∧ (-1 ≤ pr ∧ pr ≤ nd) ∧ Calls Tryz.prog 63 #[.pointer (some ⟨D, 0, none⟩), .int .i64 x] W fun r w' =>
      ∃ p c, r = .returned (.agg #[.bool el, .bool tb, .string nm, .slice p (Mn.atsI E n x).length c, .int .i64 pr, .int .i64 0, .int .i64 tz]) ∧ Tr.AtOwn w' (.slice p (Mn.atsI E n x).length c) (Mn.atsI E n x) ∧ (∀ g, (Value.slice p (Mn.atsI E n x).length c).ownBlock = some g → W.heap.size ≤ g) ∧ Below W.heap.size W w' := by
  by_cases hx : x < 0
  · refine ⟨false, false, ⟨#[]⟩, 0, 0, fun k a av => by unfold Mn.spA; rw [if_pos hx], by unfold Mn.tszI; rw [if_pos hx], by decide, ⟨by decide, by omega⟩, ?_⟩
    refine (mnSpot0 W B D n E L q cap nd h x (.inl hx)).mono ?_
    rintro r w' ⟨rfl, hb⟩
    have e : Mn.atsI E n x = [] := by unfold Mn.atsI; rw [if_pos hx]
    rw [e]
    exact ⟨none, 0, rfl, ⟨⟨none, 0, rfl, Nat.le_refl _, by decide, fun _ => rfl, fun h => absurd h (by decide)⟩, ⟨[], World.ownsRow_nil _ _ _ _⟩⟩, (fun g e => by cases e), hb⟩
  · obtain ⟨j, rfl⟩ : ∃ j : Nat, x = j := ⟨x.toNat, by omega⟩
    obtain ⟨f, ef, hf, c⟩ := mnSpot W B D n E L q cap nd h (fun i hi => (hs i hi).small) j (by omega)
    have e1 : Mn.evI E n (j : Int) = f := by unfold Mn.evI; rw [Int.toNat_natCast, ef, Int.toNat_natCast]
    have e2 : Mn.parI E n (j : Int) = ((Tr.grun E n).nth j).par := by unfold Mn.parI; rw [Int.toNat_natCast]
    have e3 : Mn.atsI E n (j : Int) = (E f).ats := by unfold Mn.atsI; rw [if_neg hx, e1]
    have hp : -1 ≤ ((Tr.grun E n).nth j).par ∧ ((Tr.grun E n).nth j).par ≤ nd := by
      rcases h.shp.par j (by omega) with ⟨_, e⟩ | ⟨p, hp, e, _⟩
      · rw [e]; omega
      · rw [e]; omega
    have ht := (hs f hf).2.1
    refine ⟨(E f).kind == 0, (E f).kind == 1, (E f).nm, ((Tr.grun E n).nth j).par, ((E f).tx.size : Nat), fun k a av => by unfold Mn.spA; rw [if_neg hx, e1, e2], by unfold Mn.tszI; rw [if_neg hx, e1], ⟨by omega, by omega⟩, hp, ?_⟩
    rw [e3]
    refine c.mono ?_
    rintro r w' ⟨av, rfl, hA, hg, hb⟩
    obtain ⟨p, c, e, _⟩ := id hA.row
    subst e
    exact ⟨p, c, rfl, hA, hg, hb⟩
end Go.Proofs.YtfockjlegpbooaaGreatDoor
