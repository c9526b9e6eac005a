import Derived.Test.YtfockjlegpbooaaGreatDoorTrAlong
import Derived.Maps.OwnIn
/-
  WALKS over (*tree.Tree).Node beside the nodes and mean.spotOf.
-/
namespace Go.Proofs.YtfockjlegpbooaaGreatDoor
open Go.RowKit Go.Shelf Go.Lib
set_option maxHeartbeats 1000000 in
theorem trNodeOut (w : World) (B D n : Nat) (E : Nat → Tr.Ev Value) (L q cap nd : Nat) (h : Tr.TreeR w B D n E L q cap nd) (k : Int) (hk : k < 0 ∨ (nd : Int) ≤ k) :
    Calls Tryz.prog 90 #[.pointer (some ⟨D, 0, none⟩), .int .i64 k] w fun r w' => r = .returned (.tuple #[.agg #[.int .i64 0, .int .i64 0, .int .i64 0, .string ⟨#[]⟩, .slice none 0 0, .string ⟨#[]⟩, .int .i64 0, .int .i64 0], .int .i64 2]) ∧ Below w.heap.size w w' := by
  have hb1 : Below w.heap.size w (w.alloc (.cells #[.int .i64 0, .int .i64 0, .int .i64 0, .string ⟨#[]⟩, .slice none 0 0, .string ⟨#[]⟩, .int .i64 0, .int .i64 0] 71)) := (Below.refl _ _).alloc (Nat.le_refl _) _
  have c := trLacks _ B D n E L q cap nd (h.below hb1) k 0
  rw [if_pos hk] at c
  clear hk
  go_enter Tryz.func90, Tryz.ntmps90
  go_wp2_with fail
  refine c.mono ?_
  rintro e w1 ⟨rfl, rfl⟩
  clear c
  go_wp2_with fail
  refine bodyPost_ret (Tr.results_ct Tryz.results90 _ ⟨w.heap.size, 0, none⟩ rfl _ _ (Tr.load_box (heap_alloc_new w _) rfl)) rfl ?_
  exact ⟨rfl, hb1⟩
namespace Mn
/-- a spot -/
structure Sp where
  el : Bool
  tx : Bool
  nm : ByteArray
  av : Value
  par : Int
  fr : Int
  te : Int
def Sp.cs (s : Sp) : Array Value := #[.bool s.el, .bool s.tx, .string s.nm, s.av, .int .i64 s.par, .int .i64 s.fr, .int .i64 s.te]
/-- that of the root above -/
def sp0 : Sp := ⟨false, false, ⟨#[]⟩, .slice none 0 0, 0, 0, 0⟩
/-- that of a node -/
def spE (e : Tr.Ev Value) (av : Value) (par : Int) : Sp := ⟨e.kind == 0, e.kind == 1, e.nm, av, par, 0, e.tx.size⟩
/-- what spotOf answers of a node -/
def SpotE (e : Tr.Ev Value) (par : Int) (w : World) (r : Ending) (w' : World) : Prop :=
  ∃ av', r = .returned (.agg (spE e av' par).cs) ∧ Tr.AtOwn w' av' e.ats ∧ (∀ g, av'.ownBlock = some g → w.heap.size ≤ g) ∧ Below w.heap.size w w'
theorem spSize : (Tryz.prog.info? 118).map (·.size) = some 7 := by kernel_rfl
def zsp : Obj := .cells #[.bool false, .bool false, .string ⟨#[]⟩, .slice none 0 0, .int .i64 0, .int .i64 0, .int .i64 0] 118
theorem old_block {w w1 : World} {L : Nat} {o o' : Obj} {b : Nat} (hb : Below L w w1) (h : w.heap[b]? = some o) (hl : b < L) : (w1.alloc o').heap[b]? = some o := by
  have h1 := (hb.block b hl).trans h
  exact (Below.heap_alloc _ _ _ (Array.getElem?_eq_some_iff.1 h1).1).trans h1
end Mn
set_option maxRecDepth 100000 in
set_option maxHeartbeats 2000000 in
theorem mnSpot0 (w : World) (B D n : Nat) (E : Nat → Tr.Ev Value) (L q cap nd : Nat) (h : Tr.TreeR w B D n E L q cap nd) (k : Int) (hk : k < 0 ∨ (nd : Int) ≤ k) :
    Calls Tryz.prog 63 #[.pointer (some ⟨D, 0, none⟩), .int .i64 k] w fun r w' => r = .returned (.agg Mn.sp0.cs) ∧ Below w.heap.size w w' := by
  have hb0 : Below w.heap.size w (w.alloc Mn.zsp) := (Below.refl _ _).alloc (Nat.le_refl _) _
  have c := trNodeOut (w.alloc Mn.zsp) B D n E L q cap nd (h.below hb0) k hk
  have hblk : (w.alloc Mn.zsp).heap[w.heap.size]? = some Mn.zsp := heap_alloc_new w _
  obtain ⟨w0, hw0⟩ : ∃ w0, w.alloc Mn.zsp = w0 := ⟨_, rfl⟩
  rw [hw0] at hb0 c hblk
  have HB0 := hide' hb0
  have HBK := hide' hblk
  have HW0 := hide' hw0
  clear h hk hb0 hblk hw0
  go_enter Tryz.func63, Tryz.ntmps63
  go_wp2_with fail
  rw [show w.alloc (.cells #[.bool false, .bool false, .string ⟨#[]⟩, .slice none 0 0, .int .i64 0, .int .i64 0, .int .i64 0] 118) = w0 from HW0.out]
  refine c.mono ?_
  rintro e w1 ⟨rfl, hb⟩
  clear c
  have hl0 : w.heap.size < w0.heap.size := (Array.getElem?_eq_some_iff.1 HBK.out).1
  have R1 := hide' (Tr.there_of (Mn.old_block (o' := .cells #[.int .i64 0, .int .i64 0, .int .i64 0, .string ⟨#[]⟩, .slice none 0 0, .string ⟨#[]⟩, .int .i64 0, .int .i64 0] 71) hb HBK.out hl0))
  have HB1 := hide' ((HB0.out.trans (hb.mono HB0.out.size)).alloc (HB0.out.trans (hb.mono HB0.out.size)).size (.cells #[.int .i64 0, .int .i64 0, .int .i64 0, .string ⟨#[]⟩, .slice none 0 0, .string ⟨#[]⟩, .int .i64 0, .int .i64 0] 71))
  clear hb hl0
  have O1 : Hid (((#[.bool false, .bool false, .string ⟨#[]⟩, .slice none 0 0, .int .i64 0, .int .i64 0, .int .i64 0] : Array Value)).all (·.oneCell') = true) := by show _ = true; simp [Value.oneCell']
  go_wp2_with (refine wpList_store_mid rfl 118 (.tmp 4) (.tmp 17) rfl w.heap.size 0 #[.bool false, .bool false, .string ⟨#[]⟩, .slice none 0 0, .int .i64 0, .int .i64 0, .int .i64 0] rfl rfl R1.out Mn.spSize O1.out ?_)
  refine bodyPost_ret (v := .agg Mn.sp0.cs) (Tr.results_cell Tryz.results63 _ ⟨w.heap.size, 0, none⟩ rfl _ _ (run_loadVar_mid _ w.heap.size 0 118 (#[.bool false, .bool false, .string ⟨#[]⟩, .slice none 0 0, .int .i64 0, .int .i64 0, .int .i64 0] : Array Value).toList _ (World.rangeAt_setCells_same _ _ _ _ R1.out) Tryz.underlying118 rfl Mn.spSize)) rfl ?_
  exact ⟨rfl, Tr.below_cells (Nat.le_refl _) _ _ _ HB1.out⟩
set_option maxRecDepth 100000 in
set_option maxHeartbeats 4000000 in
theorem mnSpot (w : World) (B D n : Nat) (E : Nat → Tr.Ev Value) (L q cap nd : Nat) (h : Tr.TreeR w B D n E L q cap nd) (hs : ∀ i, i < n → Tr.Small (E i)) (j : Nat) (hj : j < nd) :
    ∃ f : Nat, ((Tr.grun E n).nth j).fst = f ∧ f < n ∧ Calls Tryz.prog 63 #[.pointer (some ⟨D, 0, none⟩), .int .i64 (j : Nat)] w fun r w' => Mn.SpotE (E f) ((Tr.grun E n).nth j).par w r w' := by
  have hb0 : Below w.heap.size w (w.alloc Mn.zsp) := (Below.refl _ _).alloc (Nat.le_refl _) _
  have hblk : (w.alloc Mn.zsp).heap[w.heap.size]? = some Mn.zsp := heap_alloc_new w _
  obtain ⟨w0, hw0⟩ : ∃ w0, w.alloc Mn.zsp = w0 := ⟨_, rfl⟩
  rw [hw0] at hb0 hblk
  obtain ⟨f, ef, hf, c⟩ := trNode w0 B D n E L q cap nd (h.below hb0) hs j hj
  refine ⟨f, ef, hf, ?_⟩
  have HP : Hid (∀ w1, Below w0.heap.size w0 w1 → _) := fun w1 hb => trParent w1 B D n E L q cap nd ((h.below hb0).below hb) (j : Int)
  obtain ⟨e, he⟩ : ∃ e, E f = e := ⟨_, rfl⟩
  have hsz := (hs f hf).2.1
  obtain ⟨pr, hpr⟩ : ∃ pr, ((Tr.grun E n).nth j).par = pr := ⟨_, rfl⟩
  rw [he] at c hsz ⊢
  rw [hpr]
  have HPR := hide' hpr
  have HB0 := hide' hb0
  have HBK := hide' hblk
  have HW0 := hide' hw0
  clear h hs he ef hb0 hblk hw0 hpr
  go_enter Tryz.func63, Tryz.ntmps63
  go_wp2_with fail
  rw [show w.alloc (.cells #[.bool false, .bool false, .string ⟨#[]⟩, .slice none 0 0, .int .i64 0, .int .i64 0, .int .i64 0] 118) = w0 from HW0.out]
  refine c.mono ?_
  rintro r w1 ⟨av', rfl, hA, hg, hb⟩
  clear c
  obtain ⟨kind, num, dep, nm, av, ats, tx, fr, be⟩ := e
  simp only [Tr.Ev.cs]
  dsimp only at hA hsz
  obtain ⟨pa, ca, rfl⟩ : ∃ pa ca, av' = .slice pa ats.length ca := by obtain ⟨p, c, e, _⟩ := hA.row; exact ⟨p, c, e⟩
  obtain ⟨na, hna⟩ : ∃ na, ats.length = na := ⟨_, rfl⟩
  rw [hna] at hA hg ⊢
  have HNA := hide' hna
  have HA := hide' hA
  have HG := hide' hg
  have HB := hide' hb
  clear hna hA hg hb
  obtain ⟨w2, hw2⟩ : ∃ w2, w1.alloc (.cells #[.int .i64 kind, .int .i64 num, .int .i64 dep, .string nm, .slice pa na ca, .string tx, .int .i64 fr, .int .i64 be] 71) = w2 := ⟨_, rfl⟩
  have hbx : Below w0.heap.size w0 w2 := by rw [← hw2]; exact HB.out.alloc HB.out.size _
  have hev : w2.heap[w1.heap.size]? = some (.cells #[.int .i64 kind, .int .i64 num, .int .i64 dep, .string nm, .slice pa na ca, .string tx, .int .i64 fr, .int .i64 be] 71 (0, 0)) := by rw [← hw2]; exact heap_alloc_new w1 _
  have hA2 : Tr.AtOwn w2 (.slice pa na ca) ats := by rw [← hw2]; exact HA.out.below ((Below.refl w1.heap.size w1).alloc (Nat.le_refl _) _) (Nat.le_refl _)
  have c2 := HP.out w2 hbx
  rw [if_neg (by omega), Int.toNat_natCast, HPR.out] at c2
  have C2 := hide' c2
  have hl0 : w.heap.size < w0.heap.size := (Array.getElem?_eq_some_iff.1 HBK.out).1
  have hne : w1.heap.size ≠ w.heap.size := by have := HB.out.size; omega
  have R1 := hide' (Tr.there_of ((hbx.block _ hl0).trans HBK.out))
  have c0 : w2.cell? ⟨w1.heap.size, 0, none⟩ = some (.int .i64 kind) := by rw [Lib.cell_of_heap hev]; rfl
  have c3 : w2.cell? ⟨w1.heap.size, 3, none⟩ = some (.string nm) := by rw [Lib.cell_of_heap hev]; rfl
  have c4 : w2.cell? ⟨w1.heap.size, 4, none⟩ = some (.slice pa na ca) := by rw [Lib.cell_of_heap hev]; rfl
  have c5 : w2.cell? ⟨w1.heap.size, 5, none⟩ = some (.string tx) := by rw [Lib.cell_of_heap hev]; rfl
  have HB2 := hide' (HB0.out.trans (hbx.mono HB0.out.size))
  have HA2 := hide' hA2
  have HW2 := hide' hw2
  have O1 : Hid (((#[.bool (kind == 0), .bool (kind == 1), .string nm, .slice pa na ca, .int .i64 pr, .int .i64 0, .int .i64 tx.size] : Array Value)).all (·.oneCell') = true) := by show _ = true; simp [Value.oneCell']
  clear hbx hev hA2 c2 hl0 hw2 HP hj hf
  go_wp2_with fail
  rw [HW2.out]
  refine C2.out.mono ?_
  rintro r w3 ⟨rfl, rfl⟩
  clear C2 hne
  go_wp2_with (refine wpList_store_mid rfl 118 (.tmp 4) (.tmp 38) rfl w.heap.size 0 #[.bool (kind == 0), .bool (kind == 1), .string nm, .slice pa na ca, .int .i64 pr, .int .i64 0, .int .i64 tx.size] rfl rfl R1.out Mn.spSize O1.out ?_)
  refine bodyPost_ret (v := .agg #[.bool (kind == 0), .bool (kind == 1), .string nm, .slice pa na ca, .int .i64 pr, .int .i64 0, .int .i64 tx.size]) (Tr.results_cell Tryz.results63 _ ⟨w.heap.size, 0, none⟩ rfl _ _ (run_loadVar_mid _ w.heap.size 0 118 (#[.bool (kind == 0), .bool (kind == 1), .string nm, .slice pa na ca, .int .i64 pr, .int .i64 0, .int .i64 tx.size] : Array Value).toList _ (World.rangeAt_setCells_same _ _ _ _ R1.out) Tryz.underlying118 rfl Mn.spSize)) rfl ?_
  refine ⟨_, rfl, ?_, fun g hg => Nat.le_trans HB0.out.size (HG.out g hg), Tr.below_cells (Nat.le_refl _) _ _ _ HB2.out⟩
  refine HA2.out.keep fun g hg _ => ?_
  have h1 := HG.out g hg
  have h2 : w.heap.size < w0.heap.size := (Array.getElem?_eq_some_iff.1 HBK.out).1
  exact Tr.heap_cells_far (by omega) _ _ _
end Go.Proofs.YtfockjlegpbooaaGreatDoor
/-
  Rows of spots; THE WALK over (*mean.ground).stretch.
-/
namespace Go.Proofs.YtfockjlegpbooaaGreatDoor
open Go.RowKit Go.Shelf Go.Lib
namespace Mn
theorem spInfo : (Tryz.prog.info? 118).map (fun i => (i.zero, i.size, i.bytes)) = some (some (.agg #[.bool false, .bool false, .string ⟨#[]⟩, .slice none 0 0, .int .i64 0, .int .i64 0, .int .i64 0]), 7, 72) := by kernel_rfl
def Sp.cl (s : Sp) : List Value := [.bool s.el, .bool s.tx, .string s.nm, s.av, .int .i64 s.par, .int .i64 s.fr, .int .i64 s.te]
/-- the cells of spots -/
def scs (l : List Sp) : List Value := l.flatMap Sp.cl
theorem scs_length : ∀ l, (scs l).length = l.length * 7
  | [] => rfl
  | d :: l => by
    show (d.cl ++ scs l).length = _
    rw [List.length_append, scs_length l, List.length_cons]
    show 7 + _ = _
    omega
theorem scs_app (l : List Sp) (d : Sp) : scs (l ++ [d]) = scs l ++ d.cl := by simp [scs]
theorem scs_get : ∀ (l : List Sp) (k : Nat) (d : Sp) (j : Nat), l[k]? = some d → j < 7 → (scs l)[k * 7 + j]? = d.cl[j]?
  | [], k, d, j, h, _ => by simp at h
  | a :: l, 0, d, j, h, hj => by
    obtain rfl : a = d := by simpa using h
    show (a.cl ++ scs l)[0 * 7 + j]? = _
    rw [List.getElem?_append_left (by show _ < 7; omega), Nat.zero_mul, Nat.zero_add]
  | a :: l, k + 1, d, j, h, hj => by
    show (a.cl ++ scs l)[(k + 1) * 7 + j]? = _
    rw [List.getElem?_append_right (by show 7 ≤ _; omega)]
    have := scs_get l k d j (by simpa using h) hj
    rw [← this]
    congr 1
    show (k + 1) * 7 + j - 7 = _
    omega
theorem scs_set : ∀ (l : List Sp) (k : Nat) (d : Sp) (z : Int), l[k]? = some d → (scs l).set (k * 7 + 6) (.int .i64 z) = scs (l.set k { d with te := z })
  | [], k, d, z, h => by simp at h
  | a :: l, 0, d, z, h => by
    obtain rfl : a = d := by simpa using h
    rfl
  | a :: l, k + 1, d, z, h => by
    have ih := scs_set l k d z (by simpa using h)
    show (a.cl ++ scs l).set ((k + 1) * 7 + 6) _ = a.cl ++ scs (l.set k _)
    rw [← ih]
    rw [List.set_append_right _ _ (by show 7 ≤ _; omega)]
    congr 2
    show (k + 1) * 7 + 6 - 7 = _
    omega
/-- the spot of a number -/
def nth (l : List Sp) (i : Nat) : Sp := l[i]?.getD sp0
theorem nth_some {l : List Sp} {i : Nat} (h : i < l.length) : l[i]? = some (nth l i) := by
  unfold nth
  rw [List.getElem?_eq_getElem h]
  rfl
/-- one round of stretch -/
def st1 (l : List Sp) (i : Nat) : List Sp := l.set (nth l i).par.toNat { nth l (nth l i).par.toNat with te := max (nth l (nth l i).par.toNat).te (nth l i).te }
/-- behind so many rounds -/
def str (l : List Sp) : Nat → List Sp
  | 0 => l
  | c + 1 => st1 (str l c) (l.length - 1 - c)
theorem st1_length (l : List Sp) (i : Nat) : (st1 l i).length = l.length := by simp [st1]
theorem str_length (l : List Sp) : ∀ c, (str l c).length = l.length
  | 0 => rfl
  | c + 1 => by show (st1 _ _).length = _; rw [st1_length, str_length l c]
theorem st1_par (l : List Sp) (i j : Nat) (hj : j < l.length) : (nth (st1 l i) j).par = (nth l j).par := by
  unfold st1
  unfold nth
  rw [List.getElem?_set]
  split
  · next h =>
    split
    · subst h; rfl
    · next h2 => subst h; exact absurd hj h2
  · rfl
theorem str_par (l : List Sp) (j : Nat) (hj : j < l.length) : ∀ c, (nth (str l c) j).par = (nth l j).par
  | 0 => rfl
  | c + 1 => by
    show (nth (st1 _ _) j).par = _
    rw [st1_par _ _ _ (by rw [str_length]; exact hj), str_par l j hj c]
/-- a ground in memory: v is where its spots lie -/
structure GR (W : World) (M G : Nat) (k : Int) (tx : ByteArray) (v : Value) (l : List Sp) : Prop where
  blk : W.heap[G]? = some (.cells #[.int .i64 k, .string tx, v] 111 (0, 0))
  row : W.ownsRow M 118 7 v l.length (scs l)
  lt : G < M
/-- the cells of a spot -/
structure SpC (W : World) (q i : Nat) (s : Sp) : Prop where
  c0 : W.cell? ⟨q, i * 7, none⟩ = some (.bool s.el)
  c1 : W.cell? ⟨q, i * 7 + 1, none⟩ = some (.bool s.tx)
  c2 : W.cell? ⟨q, i * 7 + 2, none⟩ = some (.string s.nm)
  c3 : W.cell? ⟨q, i * 7 + 3, none⟩ = some s.av
  c4 : W.cell? ⟨q, i * 7 + 4, none⟩ = some (.int .i64 s.par)
  c5 : W.cell? ⟨q, i * 7 + 5, none⟩ = some (.int .i64 s.fr)
  c6 : W.cell? ⟨q, i * 7 + 6, none⟩ = some (.int .i64 s.te)
  f6 : W.frozen? ⟨q, i * 7 + 6, none⟩ = false
/-- its cells -/
theorem GR.cells {W : World} {M G : Nat} {k : Int} {tx : ByteArray} {v : Value} {l : List Sp} (h : GR W M G k tx v l) : W.cell? ⟨G, 0, none⟩ = some (.int .i64 k) ∧ W.cell? ⟨G, 1, none⟩ = some (.string tx) ∧ W.cell? ⟨G, 2, none⟩ = some v ∧ ∃ p cap, v = .slice p l.length cap ∧ l.length ≤ cap ∧ cap ≤ 9223372036854775807 ∧
    (0 < l.length → ∃ q, p = some ⟨q, 0, none⟩ ∧ M ≤ q ∧ ∀ i, i < l.length → SpC W q i (nth l i)) := by
  have hb := h.blk
  have hr := h.row
  obtain ⟨p, cap, rfl, h1, h2, h3, _⟩ := Tr.owns_sl hr
  refine ⟨by rw [Lib.cell_of_heap hb]; rfl, by rw [Lib.cell_of_heap hb]; rfl, by rw [Lib.cell_of_heap hb]; rfl, p, cap, rfl, h1, h2, fun h0 => ?_⟩
  obtain ⟨q, rfl⟩ := h3 h0
  have cel : ∀ i j u, i < l.length → j < 7 → (nth l i).cl[j]? = some u → W.cell? ⟨q, i * 7 + j, none⟩ = some u := fun i j u hi hj hu => by
    have h1 := hr.cells (g := q) rfl (i * 7 + j) u (by rw [scs_get _ _ _ _ (nth_some hi) hj]; exact hu)
    rw [Go.WideShapes.add_plain] at h1
    simpa using h1
  have fz : ∀ o, W.frozen? ⟨q, o, none⟩ = false := fun o => by
    rcases hr.2 with ⟨e, _⟩ | ⟨g, c, cur, e, _, hg, _⟩
    · cases e
    · cases e
      exact Lib.frozen_of_heap hg o
  exact ⟨q, rfl, (hr.lt q rfl).1, fun i hi => ⟨cel i 0 _ hi (by omega) rfl, cel i 1 _ hi (by omega) rfl, cel i 2 _ hi (by omega) rfl, cel i 3 _ hi (by omega) rfl, cel i 4 _ hi (by omega) rfl, cel i 5 _ hi (by omega) rfl, cel i 6 _ hi (by omega) rfl, fz _⟩⟩
/-- nothing but the spots' own row has changed -/
structure ButR (W : World) (v : Value) (W' : World) : Prop where
  os : W'.os = W.os
  tape : W'.tape = W.tape
  output : W'.output = W.output
  size : W.heap.size ≤ W'.heap.size
  same : ∀ j, j < W.heap.size → v.ownBlock ≠ some j → W'.heap[j]? = W.heap[j]?
theorem ButR.refl (W : World) (v : Value) : ButR W v W := ⟨rfl, rfl, rfl, Nat.le_refl _, fun _ _ _ => rfl⟩
theorem ButR.drew {W W' : World} {v : Value} (h : ButR W v W') (n : Nat) : ButR W v (W'.drewN n) := by
  have hb := below_drewN (Below.refl W'.heap.size W') n
  exact ⟨hb.os.trans h.os, hb.tape.trans h.tape, hb.output.trans h.output, Nat.le_trans h.size hb.size, fun j h1 h2 => (hb.block j (by have := h.size; omega)).trans (h.same j h1 h2)⟩
theorem GR.drew {W : World} {M G : Nat} {k : Int} {tx : ByteArray} {v : Value} {l : List Sp} (h : GR W M G k tx v l) (n : Nat) : GR (W.drewN n) M G k tx v l := by
  have hb := below_drewN (Below.refl W.heap.size W) n
  exact ⟨(hb.block _ (Array.getElem?_eq_some_iff.1 h.blk).1).trans h.blk, Tr.keepB h.row hb (Nat.le_refl _), h.lt⟩
/-- a spot's end stretched -/
theorem GR.put {W : World} {M G q cap j : Nat} {k : Int} {tx : ByteArray} {l : List Sp} (h : GR W M G k tx (.slice (some ⟨q, 0, none⟩) l.length cap) l) (hj : j < l.length) (z : Int) :
    GR (W.setCell ⟨q, j * 7 + 6, none⟩ (.int .i64 z)) M G k tx (.slice (some ⟨q, 0, none⟩) l.length cap) (l.set j { nth l j with te := z }) := by
  have h1 := (h.row.stored (j * 7 + 6) (.int .i64 z)).1
  rw [scs_set _ _ _ _ (nth_some hj)] at h1
  have hq := (h.row.lt q rfl).1
  refine ⟨(Below.heap_setCell _ _ _ _ (by show G ≠ q; have := h.lt; omega)).trans h.blk, ?_, h.lt⟩
  rw [List.length_set]
  exact h1
theorem ButR.put {W W' : World} {p : Option Addr} {q n cap o : Nat} (h : ButR W (.slice p n cap) W') (hp : p = some ⟨q, 0, none⟩) (x : Value) : ButR W (.slice p n cap) (W'.setCell ⟨q, o, none⟩ x) := by
  subst hp
  have hb : Below q W' (W'.setCell ⟨q, o, none⟩ x) := (Below.refl _ _).setCell (p := ⟨q, o, none⟩) (Nat.le_refl _) _
  exact ⟨hb.os.trans h.os, hb.tape.trans h.tape, hb.output.trans h.output, Nat.le_trans h.size hb.size, fun j h1 h2 => (Below.heap_setCell _ _ _ _ (fun e => h2 (by rw [e]; rfl))).trans (h.same j h1 h2)⟩
end Mn
set_option maxRecDepth 100000 in
set_option maxHeartbeats 4000000 in
theorem mnStretch (W : World) (M G : Nat) (k : Int) (tx : ByteArray) (v : Value) (l : List Mn.Sp) (h : Mn.GR W M G k tx v l) (hl : l.length ≤ 1073741824) (hp : ∀ i, 0 < i → i < l.length → 0 ≤ (Mn.nth l i).par ∧ (Mn.nth l i).par < l.length) :
    Calls Tryz.prog 64 #[.pointer (some ⟨G, 0, none⟩)] W fun r w' => (∃ u, r = .returned u) ∧ Mn.GR w' M G k tx v (Mn.str l (l.length - 1)) ∧ Mn.ButR W v w' := by
  have HG := hide' h
  have HP := hide' hp
  obtain ⟨g0, g1, g2, p, cap, rfl, hc1, hc2, hrow⟩ := h.cells
  obtain ⟨n, hn⟩ : ∃ n, l.length = n := ⟨_, rfl⟩
  rw [hn] at HP HG g2 hc1 hl ⊢
  have HN := hide' hn
  clear hrow h hp hn g0 g1
  have tw : IntKind.i64.wrap ((n : Int) - 1) = (n : Int) - 1 := by rw [IntKind.wrap_i64]; omega
  go_enter Tryz.func64, Tryz.ntmps64
  go_wp2_with fail
  go_loopw [2] (fun v wr => ∃ c : Nat, v = .int .i64 ((n : Int) - 1 - c) ∧ c ≤ n - 1 ∧ Hid (Mn.GR wr M G k tx (.slice p n cap) (Mn.str l c)) ∧ Hid (Mn.ButR W (.slice p n cap) wr)) (fun v _ => (RowKit.intOf v).toNat)
  case atStart => exact ⟨0, by simp, Nat.zero_le _, HG, Mn.ButR.refl _ _⟩
  case round =>
    obtain ⟨c, rfl, hc, HR, HB⟩ := hrel
    by_cases hgo : c < n - 1
    · obtain ⟨i, hi⟩ : ∃ i : Nat, n - 1 - c = i := ⟨_, rfl⟩
      have hi0 : 0 < i := by omega
      have hin : i < n := by omega
      have ei : (n : Int) - 1 - c = (i : Int) := by omega
      have hls : (Mn.str l c).length = n := by rw [Mn.str_length]; exact HN.out
      obtain ⟨-, -, d2, p', cap', e, -, -, hrow⟩ := HR.out.cells
      obtain ⟨rfl, rfl⟩ : p = p' ∧ cap = cap' := by cases e; exact ⟨rfl, rfl⟩
      obtain ⟨q, rfl, -, hcel⟩ := hrow (by omega)
      have hpar := HP.out i hi0 hin
      rw [← Mn.str_par l i (by have := HN.out; omega) c] at hpar
      obtain ⟨j, hj⟩ : ∃ j : Nat, (Mn.nth (Mn.str l c) i).par = (j : Int) := ⟨(Mn.nth (Mn.str l c) i).par.toNat, by omega⟩
      have hjn : j < n := by omega
      have k4 := (hcel i (by omega)).c4
      have k6 := (hcel i (by omega)).c6
      have j6 := (hcel j (by omega)).c6
      have jf := (hcel j (by omega)).f6
      rw [hj] at k4
      have HPUT : Hid (∀ m, Mn.GR ((wr.drewN m).setCell ⟨q, j * 7 + 6, none⟩ (.int .i64 (max (Mn.nth (Mn.str l c) j).te (Mn.nth (Mn.str l c) i).te))) M G k tx (.slice (some ⟨q, 0, none⟩) n cap) (Mn.str l (c + 1))) := fun m => by
        have := HR.out
        rw [← hls] at this
        have h2 := (this.drew m).put (j := j) (by omega) (max (Mn.nth (Mn.str l c) j).te (Mn.nth (Mn.str l c) i).te)
        show Mn.GR _ M G k tx _ (Mn.st1 (Mn.str l c) (l.length - 1 - c))
        unfold Mn.st1
        rw [show l.length - 1 - c = i by have := HN.out; omega, hj, Int.toNat_natCast, ← hls]
        exact h2
      have HBUT : Hid (∀ m x, Mn.ButR W (.slice (some ⟨q, 0, none⟩) n cap) ((wr.drewN m).setCell ⟨q, j * 7 + 6, none⟩ x)) := fun m x => (HB.out.drew m).put rfl x
      generalize (Mn.nth (Mn.str l c) j).te = tj at *
      generalize (Mn.nth (Mn.str l c) i).te = ti at *
      have t1 : (0 : Int) < (i : Int) := by omega
      have t2 : (i : Int) < (n : Int) := by omega
      have t3 : (j : Int) < (n : Int) := by omega
      have t4 : (0 : Int) ≤ (j : Int) := by omega
      have tw2 : IntKind.i64.wrap ((i : Int) - 1) = (i : Int) - 1 := by rw [IntKind.wrap_i64]; omega
      have HEI := hide' ei
      rw [ei]
      clear hcel hrow hpar hj hls HR HB HP HG HN hi e ei g2
      go_wp2
      go_quiet (fail)
      go_wp2
      go_region
      go_wp2
      refine ⟨⟨c + 1, ?_, by omega, HPUT.out _, HBUT.out _ _⟩, by simp [RowKit.intOf]; omega⟩
      have := HEI.out
      congr 1
      omega
    · have t1 : ¬ (0 : Int) < (n : Int) - 1 - c := by omega
      have HC : Hid (c = n - 1) := by show _ = _; omega
      have t1b : ((c : Int) < (n : Int) - 1) = False := by simp; omega
      clear HG HP g2
      go_wp2
      all_goals
        go_end0
        have e := HC.out
        subst e
        exact ⟨⟨_, rfl⟩, HR.out, HB.out⟩
end Go.Proofs.YtfockjlegpbooaaGreatDoor
/-
  Sets of spots in memory; WALKS over (*mean.spot).meets, (mean.set).isEmpty and what it calls, (*mean.ground).numbers.
-/
namespace Go.Proofs.YtfockjlegpbooaaGreatDoor
open Go.RowKit Go.Shelf Go.Lib
namespace Mn
def bcs (l : List Bool) : List Value := l.map .bool
/-- a set in memory -/
def SetR (W : World) (M : Nat) (v : Value) (bs : List Bool) : Prop := W.ownsRow M 4 1 v bs.length (bcs bs)
def nb (bs : List Bool) (i : Nat) : Bool := bs[i]?.getD false
theorem nb_some {bs : List Bool} {i : Nat} (h : i < bs.length) : bs[i]? = some (nb bs i) := by
  unfold nb
  rw [List.getElem?_eq_getElem h]
  rfl
theorem SetR.cells {W : World} {M : Nat} {v : Value} {bs : List Bool} (h : SetR W M v bs) : ∃ p cap, v = .slice p bs.length cap ∧ bs.length ≤ cap ∧ cap ≤ 9223372036854775807 ∧
    (0 < bs.length → ∃ q, p = some ⟨q, 0, none⟩ ∧ M ≤ q ∧ q < W.heap.size ∧ ∀ i, i < bs.length → W.cell? ⟨q, i, none⟩ = some (.bool (nb bs i)) ∧ W.frozen? ⟨q, i, none⟩ = false) := by
  have h : W.ownsRow M 4 1 v bs.length (bcs bs) := h
  obtain ⟨p, cap, rfl, h1, h2, h3, _⟩ := Tr.owns_sl h
  refine ⟨p, cap, rfl, h1, h2, fun h0 => ?_⟩
  obtain ⟨q, rfl⟩ := h3 h0
  refine ⟨q, rfl, (h.lt q rfl).1, (h.lt q rfl).2, fun i hi => ⟨?_, ?_⟩⟩
  · have h1 := h.cells (g := q) rfl i (.bool (nb bs i)) (by unfold bcs; rw [List.getElem?_map, nb_some hi]; rfl)
    rw [Go.WideShapes.add_plain] at h1
    simpa using h1
  · rcases h.2 with ⟨e, _⟩ | ⟨g, c, cur, e, _, hg, _⟩
    · cases e
    · cases e
      exact Lib.frozen_of_heap hg i
theorem SetR.below {W W' : World} {M : Nat} {v : Value} {bs : List Bool} (h : SetR W M v bs) (hb : Below W.heap.size W W') : SetR W' M v bs := Tr.keepB h hb (Nat.le_refl _)
theorem GR.below {W W' : World} {M G : Nat} {k : Int} {tx : ByteArray} {v : Value} {l : List Sp} (h : GR W M G k tx v l) (hb : Below W.heap.size W W') : GR W' M G k tx v l :=
  ⟨(hb.block _ (Array.getElem?_eq_some_iff.1 h.blk).1).trans h.blk, Tr.keepB h.row hb (Nat.le_refl _), h.lt⟩
/-- does a spot meet a test? -/
def meetB (s : Sp) (test : Int) (name : ByteArray) : Bool := if test = 0 then s.el && (s.nm.toList == name.toList) else if test = 1 then s.el else if test = 2 then s.tx else true
end Mn
set_option maxHeartbeats 1000000 in
theorem mnMeets (W : World) (q i : Nat) (s : Mn.Sp) (test : Int) (name : ByteArray) (h : Mn.SpC W q i s) :
    Calls Tryz.prog 92 #[.pointer (some ⟨q, i * 7, none⟩), .int .i64 test, .string name] W fun r w' => r = .returned (.bool (Mn.meetB s test name)) ∧ w' = W := by
  have c0 := h.c0
  have c1 := h.c1
  have c2 := h.c2
  unfold Mn.meetB
  clear h
  obtain ⟨el, tb, nm, av, par, fr, te⟩ := s
  dsimp only at c0 c1 c2 ⊢
  by_cases t0 : test = 0
  · subst t0
    rw [if_pos rfl]
    cases el
    · go_enter Tryz.func92, Tryz.ntmps92
      go_wp2
      go_ret
      exact ⟨by simp, rfl⟩
    · go_enter Tryz.func92, Tryz.ntmps92
      go_wp2
      go_ret
      exact ⟨by simp, rfl⟩
  rw [if_neg t0]
  by_cases t1 : test = 1
  · subst t1
    rw [if_pos rfl]
    go_enter Tryz.func92, Tryz.ntmps92
    go_wp2
    go_ret
    exact ⟨rfl, rfl⟩
  rw [if_neg t1]
  by_cases t2 : test = 2
  · subst t2
    rw [if_pos rfl]
    go_enter Tryz.func92, Tryz.ntmps92
    go_wp2
    go_ret
    exact ⟨rfl, rfl⟩
  rw [if_neg t2]
  go_enter Tryz.func92, Tryz.ntmps92
  go_wp2
  go_ret
  exact ⟨rfl, rfl⟩
namespace Mn
theorem mem_nb {bs : List Bool} : true ∈ bs ↔ ∃ i, i < bs.length ∧ nb bs i = true := by
  constructor
  · intro h
    obtain ⟨i, hi, e⟩ := List.mem_iff_getElem.1 h
    exact ⟨i, hi, by unfold nb; rw [List.getElem?_eq_getElem hi, e]; rfl⟩
  · rintro ⟨i, hi, e⟩
    have := nb_some hi
    rw [e] at this
    exact List.mem_of_getElem? this
end Mn
set_option maxHeartbeats 1000000 in
theorem mnIndex (W : World) (M : Nat) (v : Value) (bs : List Bool) (h : Mn.SetR W M v bs) (hn : bs.length ≤ 1073741824) :
    Calls Tryz.prog 109 #[v, .bool true] W fun r w' => (∃ x : Int, r = .returned (.int .i64 x) ∧ decide (0 ≤ x) = decide (true ∈ bs)) ∧ w' = W := by
  obtain ⟨p, cap, rfl, h1, h2, h3⟩ := h.cells
  obtain ⟨n, hnn⟩ : ∃ n, bs.length = n := ⟨_, rfl⟩
  rw [hnn] at h1 h3 hn ⊢
  have H3 := hide' h3
  have HN := hide' hnn
  clear h h3 hnn
  go_enter Tryz.func109, Tryz.ntmps109
  go_wp2_with fail
  go_loopw [8] (fun v wr => ∃ i : Nat, v = .int .i64 i ∧ i ≤ n ∧ wr = W ∧ Hid (∀ j, j < i → Mn.nb bs j = false)) (fun v _ => n - (RowKit.intOf v).toNat)
  case atStart => exact ⟨0, rfl, Nat.zero_le _, rfl, fun j hj => absurd hj (by omega)⟩
  case round =>
    obtain ⟨i, rfl, hi, rfl, HF⟩ := hrel
    by_cases hlt : i < n
    · obtain ⟨q, rfl, -, -, hc⟩ := H3.out (by omega)
      obtain ⟨k1, -⟩ := hc i hlt
      have t1 : (i : Int) < (n : Int) := by omega
      have t0 : (0 : Int) ≤ i := by omega
      have tw : IntKind.i64.wrap ((i : Int) + 1) = (i : Int) + 1 := by rw [IntKind.wrap_i64]; omega
      clear hc H3
      cases hb : Mn.nb bs i
      · rw [hb] at k1
        have HB := hide' hb
        clear hb
        go_wp2
        refine ⟨⟨i + 1, rfl, by omega, trivial, fun j hj => ?_⟩, by simp [RowKit.intOf]; omega⟩
        by_cases hji : j < i
        · exact HF.out j hji
        · obtain rfl : j = i := by omega
          exact HB.out
      · rw [hb] at k1
        have HB := hide' hb
        clear hb
        go_wp2
        go_ret
        refine ⟨⟨_, rfl, ?_⟩, rfl⟩
        rw [decide_eq_true t0, decide_eq_true (Mn.mem_nb.2 ⟨i, by have := HN.out; omega, HB.out⟩)]
    · have t1 : ¬ (i : Int) < (n : Int) := by omega
      have hin : i = n := by omega
      go_wp2
      go_ret
      refine ⟨⟨_, rfl, ?_⟩, rfl⟩
      refine ⟨fun h => absurd h (by decide), fun hm => ?_⟩
      obtain ⟨j, hj, e⟩ := Mn.mem_nb.1 hm
      rw [HF.out j (by have := HN.out; omega)] at e
      cases e
theorem mnContains (W : World) (M : Nat) (v : Value) (bs : List Bool) (h : Mn.SetR W M v bs) (hn : bs.length ≤ 1073741824) :
    Calls Tryz.prog 95 #[v, .bool true] W fun r w' => r = .returned (.bool (decide (true ∈ bs))) ∧ w' = W := by
  have c := mnIndex W M v bs h hn
  clear h hn
  go_enter Tryz.func95, Tryz.ntmps95
  go_wp2_with fail
  refine c.mono ?_
  rintro r w' ⟨⟨x, rfl, hx⟩, rfl⟩
  clear c
  have HX := hide' hx
  clear hx
  go_wp2_with fail
  go_ret
  exact ⟨by rw [← HX.out]; rfl, rfl⟩
theorem mnIsEmpty (W : World) (M : Nat) (v : Value) (bs : List Bool) (h : Mn.SetR W M v bs) (hn : bs.length ≤ 1073741824) :
    Calls Tryz.prog 67 #[v] W fun r w' => r = .returned (.bool (!decide (true ∈ bs))) ∧ w' = W := by
  have c := mnContains W M v bs h hn
  clear h hn
  go_enter Tryz.func67, Tryz.ntmps67
  go_wp2_with fail
  refine c.mono ?_
  rintro r w' ⟨rfl, rfl⟩
  clear c
  go_wp2_with fail
  go_ret
  exact ⟨rfl, rfl⟩
namespace Mn
/-- the numbers of the nodes in a set -/
def numsB (k : Int) (bs : List Bool) : Nat → List Int
  | 0 => []
  | i + 1 => numsB k bs i ++ (if nb bs i then [k + i] else [])
theorem numsB_len (k : Int) (bs : List Bool) : ∀ i, (numsB k bs i).length ≤ i
  | 0 => Nat.le_refl _
  | i + 1 => by
    have := numsB_len k bs i
    unfold numsB
    rw [List.length_append]
    split <;> simp <;> omega
end Mn
set_option maxHeartbeats 2000000 in
theorem mnNumbers (W : World) (M G : Nat) (k : Int) (tx : ByteArray) (gv : Value) (l : List Mn.Sp) (hg : Mn.GR W M G k tx gv l) (M2 : Nat) (v : Value) (bs : List Bool) (h : Mn.SetR W M2 v bs) (hn : bs.length ≤ 1048578) (hk : -1 ≤ k ∧ k ≤ 1048578) :
    Calls Tryz.prog 34 #[.pointer (some ⟨G, 0, none⟩), v] W fun r w' => (∃ u, r = .returned u ∧ Tr.IO w' W.heap.size u (Mn.numsB k bs bs.length)) ∧ Below W.heap.size W w' := by
  obtain ⟨p, cap, rfl, h1, h2, h3⟩ := h.cells
  obtain ⟨g0, -⟩ := hg.cells
  obtain ⟨n, hnn⟩ : ∃ n, bs.length = n := ⟨_, rfl⟩
  rw [hnn] at h1 h3 hn ⊢
  obtain ⟨i0, hi0, hz0, hz1, hz2⟩ := info_parts Tr.intInfo
  have H3 := hide' h3
  have HG0 := hide' g0
  clear h h3 hnn hg g0
  go_enter Tryz.func34, Tryz.ntmps34
  go_wp2_with fail
  go_loopw [5, 10] (fun u v wr => ∃ i : Nat, v = .int .i64 i ∧ i ≤ n ∧ Hid (Below W.heap.size W wr) ∧ Hid (Tr.IO wr W.heap.size u (Mn.numsB k bs i))) (fun _ v _ => n - (RowKit.intOf v).toNat)
  case atStart => exact ⟨0, rfl, Nat.zero_le _, Below.refl _ _, Tr.io_nil _ _⟩
  case round =>
    obtain ⟨i, rfl, hi, HB, HI⟩ := hrel
    by_cases hlt : i < n
    · obtain ⟨q, rfl, -, hq, hc⟩ := H3.out (by omega)
      obtain ⟨k1, -⟩ := hc i hlt
      have k1 := (HB.out.cell (p := ⟨q, i, none⟩) hq).trans k1
      have g1 := (HB.out.cell (p := ⟨G, 0, none⟩) (block_lt_of_cell HG0.out)).trans HG0.out
      have t1 : (i : Int) < (n : Int) := by omega
      have t0 : (0 : Int) ≤ i := by omega
      have tw : IntKind.i64.wrap ((i : Int) + 1) = (i : Int) + 1 := by rw [IntKind.wrap_i64]; omega
      have tw2 : IntKind.i64.wrap (k + (i : Int)) = k + (i : Int) := by rw [IntKind.wrap_i64]; omega
      clear hc H3
      cases hb : Mn.nb bs i
      · rw [hb] at k1
        have HN : Hid (Mn.numsB k bs (i + 1) = Mn.numsB k bs i) := by show Mn.numsB k bs i ++ (if Mn.nb bs i then [k + (i : Int)] else []) = _; rw [hb]; simp
        clear hb
        go_wp2
        exact ⟨⟨i + 1, rfl, by omega, HB, by show Tr.IO _ _ _ _; rw [HN.out]; exact HI.out⟩, by simp [RowKit.intOf]; omega⟩
      · rw [hb] at k1
        have HN : Hid (Mn.numsB k bs (i + 1) = Mn.numsB k bs i ++ [k + i]) := by show Mn.numsB k bs i ++ (if Mn.nb bs i then [k + (i : Int)] else []) = _; rw [hb]; rfl
        clear hb
        have hl := Mn.numsB_len k bs i
        obtain ⟨p5, c5, e5, -, -, -⟩ := Tr.owns_sl (show wr.ownsRow W.heap.size 3 1 u5 (Mn.numsB k bs i).length (Tr.ic (Mn.numsB k bs i)) from HI.out)
        subst e5
        obtain ⟨m5, hm5⟩ : ∃ m5, (Mn.numsB k bs i).length = m5 := ⟨_, rfl⟩
        have HI5 : Hid (wr.ownsRow W.heap.size 3 1 (.slice p5 m5 c5) m5 (Tr.ic (Mn.numsB k bs i))) := by rw [← hm5]; exact HI.out
        rw [hm5] at hl ⊢
        have HM := hide' hm5
        clear hm5 HI
        have hbs := HB.out.size
        go_wp2_with (at_builtin; refine wpList_append_own _ rfl _ _ 36 rfl W.heap.size 3 i0 (.int .i64 0) 1 8 Tryz.underlying36 hi0 hz0 hz1 hz2 rfl (by decide) _ m5 (Tr.ic (Mn.numsB k bs i)) rfl (HI5.out.alloc _) ⟨wr.heap.size, 0, none⟩ 1 1 [.int .i64 (k + i)] rfl rfl ?c1 ?c2 ?c3 ?c4 ?c5 ?_)
        case c1 => exact cell_one_new _ _ _
        case c2 => intro u hu; rw [List.mem_singleton.1 hu]; rfl
        case c3 => unfold maxLen; omega
        case c4 => omega
        case c5 => simp; omega
        intro v' w3 hown hg3 _
        obtain ⟨g', cap', rfl⟩ := ownsRow_succ hown
        have HB3 : Hid (Below W.heap.size W w3) := (HB.out.alloc hbs _).grown hg3 (by simp; omega) (fun g e => by have := (HI5.out.lt g e).1; omega)
        have HI3 : Hid (Tr.IO w3 W.heap.size (.slice (some ⟨g', 0, none⟩) (m5 + 1) cap') (Mn.numsB k bs (i + 1))) := by
          show w3.ownsRow W.heap.size 3 1 _ _ _
          rw [HN.out, Tr.ic_app, List.length_append, HM.out]
          exact hown
        clear hown hg3 HI5 HN HM
        go_wp2
        exact ⟨⟨i + 1, rfl, by omega, HB3, HI3⟩, by simp [RowKit.intOf]; omega⟩
    · have t1 : ¬ (i : Int) < (n : Int) := by omega
      obtain rfl : i = n := by omega
      go_wp2
      go_ret
      exact ⟨⟨_, rfl, HI.out⟩, HB.out⟩
end Go.Proofs.YtfockjlegpbooaaGreatDoor
