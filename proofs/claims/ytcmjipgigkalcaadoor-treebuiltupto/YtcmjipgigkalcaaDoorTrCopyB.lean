import Derived.Test.YtcmjipgigkalcaaDoorTrDocC
import Derived.Deep.RegionLaw
import Derived.Deep.AppendLies
import Derived.Laws.MakeOwn
import Derived.Laws.OwnMore
import Derived.Deep.MidRow
/-
  WALKS over tree.copyOf and copyAll.
-/
namespace Go.Proofs.YtcmjipgigkalcaaDoor
open Go.RowKit Go.Lib
namespace Tr
/-- append at a step of a region that draws: something or nothing -/
theorem step_append_at {P : Program} (w : World) {ops : Array Oper} {o : Oper} {a : Act} {K : Act → World → Prop} {Q : Exit → Act → World → Prop} {F : Prop} (hgd : o.guard = none) (s x : Operand) (t : TypeId)
    (ho : o.op = .call { callee := .builtin .append, args := #[s, x], argTypes := #[t, t] })
    (base : Nat) (e : TypeId) (i : TypeInfo) (z : Value) (size bytes : Nat) (ht : P.underlying t = some (.slice e)) (hi : P.info? e = some i) (hz : i.zero = some z)
    (hsize : i.size = size) (hby : i.bytes = bytes) (hzs : z.cells.size = size) (hsz : 0 < size)
    (v : Value) (n : Nat) (xs : List Value) (hs : a.eval s = v) (hown : w.ownsRow base e size v n xs)
    (ad : Addr) (m c : Nat) (news : List Value) (hx : a.eval x = .slice (some ad) m c) (hl : news.length = m * size) (hnews : ∀ j u, news[j]? = some u → w.cell? (ad.add j) = some u) (h1 : ∀ u ∈ news, u.oneCell' = true)
    (h63 : n + m ≤ maxLen) (hbytes : (n + m) * bytes ≤ 140737488355328) (hbase : base ≤ w.heap.size)
    (h : ∀ v' w', w'.ownsRow base e size v' (n + m) (xs ++ news) → w.grownBy w' v.ownBlock → (v' = .slice none 0 0 ↔ v = .slice none 0 0 ∧ m = 0) → (v'.ownBlock = v.ownBlock ∨ v'.ownBlock = some w.heap.size) → K (a.put o.dst v') w') :
    if Region.wanted o (yielded ops a.tmps) = true then Oper.wp P o a w K Q else F := by
  have hw : Region.wanted o (yielded ops a.tmps) = true := by simp [Region.wanted, hgd]
  rw [if_pos hw]
  obtain ⟨v', w', hr, h2, h3, h4, h5⟩ := run_append_own_at (P := P) w base t o.type e i z size bytes ht hi hz hsize hby hzs hsz v n xs hown ad m c news hl hnews h1 h63 hbytes hbase
  unfold Oper.wp execOp
  simp only [ho, resolve, invoke, builtin, Sem.run_bind, Sem.run_pure, Result.andThen_ok, List.map_toArray, List.map_cons, List.map_nil, hs, hx, hr]
  exact h v' w' h2 h3 h4 h5
/-- the cells of attributes -/
def acs (l : List (ByteArray × ByteArray)) : List Value := l.flatMap fun x => [.string x.1, .string x.2]
theorem acs_length : ∀ l, (acs l).length = l.length * 2
  | [] => rfl
  | x :: l => by
    show (.string x.1 :: .string x.2 :: acs l).length = _
    rw [List.length_cons, List.length_cons, acs_length l, List.length_cons]
    omega
theorem acs_get : ∀ (l : List (ByteArray × ByteArray)) (i : Nat) (x : ByteArray × ByteArray), l[i]? = some x → (acs l)[i * 2]? = some (.string x.1) ∧ (acs l)[i * 2 + 1]? = some (.string x.2)
  | [], i, x, h => by simp at h
  | y :: l, 0, x, h => by
    obtain rfl : y = x := by simpa using h
    exact ⟨rfl, rfl⟩
  | y :: l, i + 1, x, h => by
    have := acs_get l i x (by simpa using h)
    show (Value.string y.1 :: .string y.2 :: acs l)[(i + 1) * 2]? = _ ∧ _
    rw [show (i + 1) * 2 = i * 2 + 1 + 1 by omega]
    exact this
theorem acs_one (l : List (ByteArray × ByteArray)) : ∀ u ∈ acs l, u.oneCell' = true := by
  intro u hu
  simp only [acs, List.mem_flatMap] at hu
  obtain ⟨x, _, hu⟩ := hu
  simp at hu
  rcases hu with rfl | rfl <;> rfl
theorem acs_cell {W : World} {l : List (ByteArray × ByteArray)} {b o : Nat} (h : ∀ i x, l[i]? = some x → W.cell? ⟨b, o + i * 2, none⟩ = some (.string x.1) ∧ W.cell? ⟨b, o + i * 2 + 1, none⟩ = some (.string x.2)) (j : Nat) (u : Value) (hu : (acs l)[j]? = some u) : W.cell? (Addr.add ⟨b, o, none⟩ j) = some u := by
  have hj : j < l.length * 2 := by
    have := (List.getElem?_eq_some_iff.1 hu).1
    rwa [acs_length] at this
  obtain ⟨x, hx⟩ : ∃ x, l[j / 2]? = some x := ⟨_, List.getElem?_eq_getElem (by omega)⟩
  have h1 := acs_get l (j / 2) x hx
  have h2 := h (j / 2) x hx
  rw [Go.WideShapes.add_plain]
  rcases Nat.mod_two_eq_zero_or_one j with c | c
  · rw [show j / 2 * 2 = j by omega] at h1 h2
    rw [h1.1] at hu
    cases hu
    exact h2.1
  · rw [show o + j / 2 * 2 + 1 = o + j by omega] at h2
    rw [show j / 2 * 2 + 1 = j by omega] at h1
    rw [h1.2] at hu
    cases hu
    exact h2.2
theorem AtRow.own {W : World} {B n : Nat} {v : Value} {l : List (ByteArray × ByteArray)} (h : W.ownsRow B 67 2 v n (acs l)) (hn : l.length = n) : AtRow W v l := by
  subst hn
  obtain ⟨p, cap, rfl, h1, h2, h3, h4⟩ := owns_sl h
  refine ⟨p, cap, rfl, h1, h2, fun e => (h4 e).2, fun h0 => ?_⟩
  obtain ⟨g, rfl⟩ := h3 h0
  refine ⟨g, 0, rfl, fun i x hx => ?_⟩
  have a := acs_get l i x hx
  have b1 := h.cells (g := g) rfl _ _ a.1
  have b2 := h.cells (g := g) rfl _ _ a.2
  rw [Go.WideShapes.add_plain] at b1 b2
  exact ⟨b1, b2⟩
theorem atInfo : (Tryd.prog.info? 67).map (fun i => (i.zero, i.size, i.bytes)) = some (some (.agg #[.string ⟨#[]⟩, .string ⟨#[]⟩]), 2, 32) := by kernel_rfl
theorem evSize : (Tryd.prog.info? 39).map (·.size) = some 8 := by kernel_rfl
theorem range_of {w : World} {b : Nat} {cur : Array Value} {t : TypeId} (h : w.heap[b]? = some (.cells cur t (0, 0))) : w.rangeAt b 0 cur.toList := by
  intro j v hj
  rw [Nat.zero_add, Lib.cell_of_heap h]
  simpa using hj
theorem there_of {w : World} {b : Nat} {cur : Array Value} {t : TypeId} (h : w.heap[b]? = some (.cells cur t (0, 0))) : w.there b 0 cur.size := fun j hj => by
  rw [Nat.zero_add]
  refine ⟨?_, Lib.frozen_of_heap h j⟩
  rw [Lib.cell_of_heap h]
  simp [hj]
theorem results_cell {P : Program} {fn : Func} {a : Nat} {t : TypeId} (hr : fn.results = #[.cell a t]) (tmps : Array Value) (p : Addr) (hp : tmps[a]?.getD undef = .pointer (some p)) (v : Value) (w : World) (h : (loadVar t p).run P w = .ok v w) : (results fn tmps).run P w = .ok v w := by
  unfold results
  rw [hr]
  simp [asAddr, hp, h]
theorem heap_alloc2 (w : World) (a b : Obj) : ((w.alloc a).alloc b).heap[w.heap.size]? = some a ∧ ((w.alloc a).alloc b).heap[w.heap.size + 1]? = some b ∧ ((w.alloc a).alloc b).heap.size = w.heap.size + 2 := by
  have h1 : (w.alloc a).heap.size = w.heap.size + 1 := by simp
  have h2 : ((w.alloc a).alloc b).heap.size = w.heap.size + 2 := by simp
  refine ⟨(Lib.alloc_old _ _ _ (by omega)).trans (heap_alloc_new w a), ?_, h2⟩
  have := heap_alloc_new (w.alloc a) b
  rw [h1] at this
  exact this
theorem load_box {w : World} {b : Nat} {cur : Array Value} (h : w.heap[b]? = some (.cells cur 39 (0, 0))) (h8 : cur.size = 8) : (loadVar 39 ⟨b, 0, none⟩).run Tryd.prog w = .ok (.agg cur) w := by
  have := run_loadVar_mid (P := Tryd.prog) w b 0 39 cur.toList _ (range_of h) Tryd.underlying39 rfl (by rw [evSize]; simp [h8])
  simpa using this
theorem heap_cells_far {b q : Nat} (hq : q ≠ b) : ∀ (vs : List Value) (o : Nat) (w : World), (w.setCells b o vs).heap[q]? = w.heap[q]?
  | [], _, _ => rfl
  | v :: r, o, w => (heap_cells_far hq r (o + 1) (w.setCell ⟨b, o, none⟩ v)).trans (Below.heap_setCell _ _ _ _ hq)
theorem below_cells {B b : Nat} {a : World} (hb : B ≤ b) : ∀ (vs : List Value) (o : Nat) (w : World), Below B a w → Below B a (w.setCells b o vs)
  | [], _, _, h => h
  | v :: r, o, _, h => below_cells hb r (o + 1) _ (h.setCell (p := ⟨b, o, none⟩) hb v)
/-- attributes that are one's own, whatever they are -/
def Wr (W : World) (v : Value) (n : Nat) : Prop := ∃ xs, W.ownsRow 0 67 2 v n xs
structure AtOwn (W : World) (v : Value) (l : List (ByteArray × ByteArray)) : Prop where
  row : AtRow W v l
  wr : Wr W v l.length
theorem owns_base {w : World} {B B' : Nat} {e : TypeId} {size : Nat} {v : Value} {n : Nat} {ys : List Value} (h : w.ownsRow B e size v n ys) (hB : B' ≤ B) : w.ownsRow B' e size v n ys := by
  refine ⟨h.1, ?_⟩
  rcases h.2 with h1 | ⟨g, cap, cur, hv, hb1, rest⟩
  · exact .inl h1
  · exact .inr ⟨g, cap, cur, hv, Nat.le_trans hB hb1, rest⟩
theorem owns_block {w w' : World} {B : Nat} {e : TypeId} {size : Nat} {v : Value} {n : Nat} {ys : List Value} (h : w.ownsRow B e size v n ys) (hk : ∀ g, v.ownBlock = some g → g < w.heap.size → w'.heap[g]? = w.heap[g]?) : w'.ownsRow B e size v n ys := by
  refine ⟨h.1, ?_⟩
  rcases h.2 with h1 | ⟨g, cap, cur, hv, hb1, hg, rest⟩
  · exact .inl h1
  · exact .inr ⟨g, cap, cur, hv, hb1, (hk g (by rw [hv]; rfl) (Array.getElem?_eq_some_iff.1 hg).1).trans hg, rest⟩
theorem Wr.there {W : World} {v : Value} {n : Nat} (h : Wr W v n) (h0 : 0 < n) : ∃ b o cap, v = .slice (some ⟨b, o, none⟩) n cap ∧ W.there b o (n * 2) := by
  obtain ⟨xs, h⟩ := h
  rcases h.2 with ⟨_, e⟩ | ⟨g, cap, cur, e, _, hh, hc, _, hs, _⟩
  · omega
  · refine ⟨g, 0, cap, e, fun j hj => ?_⟩
    have := there_of hh j (by omega)
    exact this
theorem AtOwn.keep {W W' : World} {v : Value} {l : List (ByteArray × ByteArray)} (h : AtOwn W v l) (hk : ∀ g, v.ownBlock = some g → g < W.heap.size → W'.heap[g]? = W.heap[g]?) : AtOwn W' v l := by
  refine ⟨h.row.keep fun a u hu ha => (World.cell?_of_block (hk a.block ha.symm (block_lt_of_cell hu))).trans hu, ?_⟩
  obtain ⟨xs, hx⟩ := h.wr
  exact ⟨xs, owns_block hx hk⟩
theorem AtOwn.below {W W' : World} {v : Value} {l : List (ByteArray × ByteArray)} {B : Nat} (h : AtOwn W v l) (hb : Below B W W') (hB : W.heap.size ≤ B) : AtOwn W' v l :=
  h.keep fun g _ hg => hb.block g (Nat.lt_of_lt_of_le hg hB)
theorem AtOwn.own {W : World} {B n : Nat} {v : Value} {l : List (ByteArray × ByteArray)} (h : W.ownsRow B 67 2 v n (acs l)) (hn : l.length = n) : AtOwn W v l := by
  refine ⟨AtRow.own h hn, ?_⟩
  subst hn
  exact ⟨_, owns_base h (Nat.zero_le _)⟩
/-- what copyOf answers -/
def CopyE (e : Ev Value) (w : World) (r : Ending) (w' : World) : Prop :=
  ∃ av', r = .returned (.agg (Ev.cs { e with av := av' })) ∧ AtOwn w' av' e.ats ∧ (∀ g, av'.ownBlock = some g → w.heap.size ≤ g) ∧ Below w.heap.size w w'
end Tr
set_option maxRecDepth 100000 in
set_option maxHeartbeats 4000000 in
theorem trCopyOf (e : Tr.Ev Value) (w : World) (hs : e.ats.length ≤ 4398046510976) (hA : Tr.AtRow w e.av e.ats) :
    Calls Tryd.prog 30 #[.agg e.cs] w fun r w' => Tr.CopyE e w r w' := by
  obtain ⟨i0, hi0, hz0, hz1, hz2⟩ := info_parts Tr.atInfo
  obtain ⟨kind, num, dep, nm, av, ats, tx, fr, be⟩ := e
  dsimp only at hs hA
  have HA0 := hide' hA
  obtain ⟨p, cap, rfl, a1, a2, a3, a4⟩ := hA
  show Calls Tryd.prog 30 #[.agg #[.int .i64 kind, .int .i64 num, .int .i64 dep, .string nm, .slice p ats.length cap, .string tx, .int .i64 fr, .int .i64 be]] w _
  have hb := ((Below.refl w.heap.size w).alloc (Nat.le_refl _) (.cells #[.int .i64 kind, .int .i64 num, .int .i64 dep, .string nm, .slice p ats.length cap, .string tx, .int .i64 fr, .int .i64 be] 39)).alloc (by simp) (.cells Tr.ev0 39)
  have HB := hide' hb
  clear hb
  cases p with
  | none =>
    obtain rfl := a3 rfl
    obtain rfl : ats = [] := List.eq_nil_of_length_eq_zero (by omega)
    clear a1 a2 a3 a4 hs
    simp only [List.length_nil] at HA0 HB ⊢
    go_enter Tryd.func30, Tryd.ntmps30
    go_wp2_with fail
    refine bodyPost_ret (Tr.results_cell Tryd.results30 _ ⟨w.heap.size + 1, 0, none⟩ rfl _ _ (Tr.load_box (Tr.heap_alloc2 _ _ _).2.1 rfl)) rfl ?_
    exact ⟨.slice none 0 0, rfl, ⟨HA0.out.below (((Below.refl w.heap.size w).alloc (Nat.le_refl _) _).alloc (by simp) _) (Nat.le_refl _), ⟨[], World.ownsRow_nil _ _ _ _⟩⟩, (fun g hg => by cases hg), ((Below.refl w.heap.size w).alloc (Nat.le_refl _) _).alloc (by simp) _⟩
  | some ad =>
    obtain ⟨MC, hMC, hmk⟩ : ∃ MC : Array Value, MC.size = ats.length * 2 ∧ ∀ W : World, (Instr.makeSlice 37 (.int .i64 0) (.int .i64 (ats.length : Nat))).run Tryd.prog W = .ok (.slice (some ⟨W.heap.size, 0, none⟩) 0 ats.length) (W.alloc (.cells MC 67)) := by
      refine ⟨madeCells (Value.agg #[.string ⟨#[]⟩, .string ⟨#[]⟩]).cells (ats.length * i0.size), by rw [size_madeCells, hz1], fun W => ?_⟩
      have h := run_make (P := Tryd.prog) W 37 67 i0 _ Tryd.underlying37 hi0 hz0 .i64 .i64 0 (ats.length : Nat) (by omega) (by omega) (by rw [hz2]; omega) (by omega)
      simpa using h
    have hl := Tr.acs_length ats
    have hrd : ∀ W : World, Below w.heap.size w W → ∀ j u, (Tr.acs ats)[j]? = some u → W.cell? (ad.add j) = some u := fun W hb j u hu => by
      have h0 : 0 < ats.length := by
        have := (List.getElem?_eq_some_iff.1 hu).1
        rw [hl] at this
        omega
      obtain ⟨b, o, e, hc⟩ := a4 h0
      cases e
      have h1 := Tr.acs_cell hc j u hu
      exact (hb.cell (p := Addr.add ⟨b, o, none⟩ j) (block_lt_of_cell h1)).trans h1
    obtain ⟨n, hn⟩ : ∃ n, ats.length = n := ⟨_, rfl⟩
    simp only [hn] at hs a1 hMC hmk hl HA0 HB ⊢
    have HN := hide' hn
    have ha2 := Tr.heap_alloc2 w (.cells #[.int .i64 kind, .int .i64 num, .int .i64 dep, .string nm, .slice (some ad) n cap, .string tx, .int .i64 fr, .int .i64 be] 39) (.cells #[.int .i64 0, .int .i64 0, .int .i64 0, .string ⟨#[]⟩, .slice none 0 0, .string ⟨#[]⟩, .int .i64 0, .int .i64 0] 39)
    have hbW : Below w.heap.size w ((w.alloc (.cells #[.int .i64 kind, .int .i64 num, .int .i64 dep, .string nm, .slice (some ad) n cap, .string tx, .int .i64 fr, .int .i64 be] 39)).alloc (.cells #[.int .i64 0, .int .i64 0, .int .i64 0, .string ⟨#[]⟩, .slice none 0 0, .string ⟨#[]⟩, .int .i64 0, .int .i64 0] 39)).drew := (((Below.refl w.heap.size w).alloc (Nat.le_refl _) _).alloc (by simp) _).drew
    have hown0 : (((w.alloc (.cells #[.int .i64 kind, .int .i64 num, .int .i64 dep, .string nm, .slice (some ad) n cap, .string tx, .int .i64 fr, .int .i64 be] 39)).alloc (.cells #[.int .i64 0, .int .i64 0, .int .i64 0, .string ⟨#[]⟩, .slice none 0 0, .string ⟨#[]⟩, .int .i64 0, .int .i64 0] 39)).drew.alloc (.cells MC 67)).ownsRow (w.heap.size + 2) 67 2 (.slice (some ⟨w.heap.size + 2, 0, none⟩) 0 n) 0 [] := by
      have h := World.ownsRow_made (e := 67) (size := 2) (base := w.heap.size + 2) ((w.alloc (.cells #[.int .i64 kind, .int .i64 num, .int .i64 dep, .string nm, .slice (some ad) n cap, .string tx, .int .i64 fr, .int .i64 be] 39)).alloc (.cells #[.int .i64 0, .int .i64 0, .int .i64 0, .string ⟨#[]⟩, .slice none 0 0, .string ⟨#[]⟩, .int .i64 0, .int .i64 0] 39)).drew MC n (by rw [show ((w.alloc (.cells #[.int .i64 kind, .int .i64 num, .int .i64 dep, .string nm, .slice (some ad) n cap, .string tx, .int .i64 fr, .int .i64 be] 39)).alloc (.cells #[.int .i64 0, .int .i64 0, .int .i64 0, .string ⟨#[]⟩, .slice none 0 0, .string ⟨#[]⟩, .int .i64 0, .int .i64 0] 39)).drew.heap.size = w.heap.size + 2 from ha2.2.2]; exact Nat.le_refl _) (by unfold maxLen; omega) hMC
      rw [show ((w.alloc (.cells #[.int .i64 kind, .int .i64 num, .int .i64 dep, .string nm, .slice (some ad) n cap, .string tx, .int .i64 fr, .int .i64 be] 39)).alloc (.cells #[.int .i64 0, .int .i64 0, .int .i64 0, .string ⟨#[]⟩, .slice none 0 0, .string ⟨#[]⟩, .int .i64 0, .int .i64 0] 39)).drew.heap.size = w.heap.size + 2 from ha2.2.2] at h
      exact h
    have hbM : Below w.heap.size w (((w.alloc (.cells #[.int .i64 kind, .int .i64 num, .int .i64 dep, .string nm, .slice (some ad) n cap, .string tx, .int .i64 fr, .int .i64 be] 39)).alloc (.cells #[.int .i64 0, .int .i64 0, .int .i64 0, .string ⟨#[]⟩, .slice none 0 0, .string ⟨#[]⟩, .int .i64 0, .int .i64 0] 39)).drew.alloc (.cells MC 67)) := hbW.alloc hbW.size _
    have hnews := hrd (((w.alloc (.cells #[.int .i64 kind, .int .i64 num, .int .i64 dep, .string nm, .slice (some ad) n cap, .string tx, .int .i64 fr, .int .i64 be] 39)).alloc (.cells #[.int .i64 0, .int .i64 0, .int .i64 0, .string ⟨#[]⟩, .slice none 0 0, .string ⟨#[]⟩, .int .i64 0, .int .i64 0] 39)).drew.alloc (.cells MC 67)) hbM
    have hgr : ∀ (w1 : World), (((w.alloc (.cells #[.int .i64 kind, .int .i64 num, .int .i64 dep, .string nm, .slice (some ad) n cap, .string tx, .int .i64 fr, .int .i64 be] 39)).alloc (.cells #[.int .i64 0, .int .i64 0, .int .i64 0, .string ⟨#[]⟩, .slice none 0 0, .string ⟨#[]⟩, .int .i64 0, .int .i64 0] 39)).drew.alloc (.cells MC 67)).grownBy w1 (some (w.heap.size + 2)) → w1.heap[w.heap.size]? = some (.cells #[.int .i64 kind, .int .i64 num, .int .i64 dep, .string nm, .slice (some ad) n cap, .string tx, .int .i64 fr, .int .i64 be] 39 (0, 0)) ∧ w1.heap[w.heap.size + 1]? = some (.cells #[.int .i64 0, .int .i64 0, .int .i64 0, .string ⟨#[]⟩, .slice none 0 0, .string ⟨#[]⟩, .int .i64 0, .int .i64 0] 39 (0, 0)) ∧ Below w.heap.size w w1 ∧ w1.cell? ⟨w.heap.size, 4, none⟩ = some (.slice (some ad) n cap) ∧ w1.frozen? ⟨w.heap.size, 4, none⟩ = false := fun w1 hg => by
      have hsz : (((w.alloc (.cells #[.int .i64 kind, .int .i64 num, .int .i64 dep, .string nm, .slice (some ad) n cap, .string tx, .int .i64 fr, .int .i64 be] 39)).alloc (.cells #[.int .i64 0, .int .i64 0, .int .i64 0, .string ⟨#[]⟩, .slice none 0 0, .string ⟨#[]⟩, .int .i64 0, .int .i64 0] 39)).drew.alloc (.cells MC 67)).heap.size = w.heap.size + 3 := by simp
      suffices h : w1.heap[w.heap.size]? = _ ∧ w1.heap[w.heap.size + 1]? = _ from ⟨h.1, h.2, hbM.grown hg (by rw [hsz]; omega) (fun k hk => by cases hk; omega), by rw [Lib.cell_of_heap h.1]; rfl, Lib.frozen_of_heap h.1 4⟩
      refine ⟨?_, ?_⟩
      · rw [hg.block w.heap.size (by rw [hsz]; omega) (fun e => by have := Option.some.inj e; omega), Lib.alloc_old _ _ _ (by rw [show ((w.alloc (.cells #[.int .i64 kind, .int .i64 num, .int .i64 dep, .string nm, .slice (some ad) n cap, .string tx, .int .i64 fr, .int .i64 be] 39)).alloc (.cells #[.int .i64 0, .int .i64 0, .int .i64 0, .string ⟨#[]⟩, .slice none 0 0, .string ⟨#[]⟩, .int .i64 0, .int .i64 0] 39)).drew.heap.size = w.heap.size + 2 from ha2.2.2]; omega)]
        exact ha2.1
      · rw [hg.block (w.heap.size + 1) (by rw [hsz]; omega) (fun e => by have := Option.some.inj e; omega), Lib.alloc_old _ _ _ (by rw [show ((w.alloc (.cells #[.int .i64 kind, .int .i64 num, .int .i64 dep, .string nm, .slice (some ad) n cap, .string tx, .int .i64 fr, .int .i64 be] 39)).alloc (.cells #[.int .i64 0, .int .i64 0, .int .i64 0, .string ⟨#[]⟩, .slice none 0 0, .string ⟨#[]⟩, .int .i64 0, .int .i64 0] 39)).drew.heap.size = w.heap.size + 2 from ha2.2.2]; omega)]
        exact ha2.2.1
    have hbs : w.heap.size + 2 ≤ (((w.alloc (.cells #[.int .i64 kind, .int .i64 num, .int .i64 dep, .string nm, .slice (some ad) n cap, .string tx, .int .i64 fr, .int .i64 be] 39)).alloc (.cells #[.int .i64 0, .int .i64 0, .int .i64 0, .string ⟨#[]⟩, .slice none 0 0, .string ⟨#[]⟩, .int .i64 0, .int .i64 0] 39)).drew.alloc (.cells MC 67)).heap.size := by simp
    have HGR := hide' hgr
    have HOW := hide' hown0
    have HNW := hide' hnews
    have HBS := hide' hbs
    clear hgr hown0 hnews hbs hbM hbW ha2 hrd hMC a4 a3 HA0 HB hn
    have e1 : 0 + n ≤ maxLen := by unfold maxLen; omega
    have e2 : (0 + n) * 32 ≤ 140737488355328 := by omega
    have E1 := hide' e1
    have E2 := hide' e2
    have HLL := hide' hl
    clear e1 e2 hl
    go_enter Tryd.func30, Tryd.ntmps30
    go_wp2_with fail
    go_region_law (refine Tr.step_append_at (((w.alloc (.cells #[.int .i64 kind, .int .i64 num, .int .i64 dep, .string nm, .slice (some ad) n cap, .string tx, .int .i64 fr, .int .i64 be] 39)).alloc (.cells #[.int .i64 0, .int .i64 0, .int .i64 0, .string ⟨#[]⟩, .slice none 0 0, .string ⟨#[]⟩, .int .i64 0, .int .i64 0] 39)).drew.alloc (.cells MC 67)) rfl (.tmp 9) (.tmp 11) 37 rfl (w.heap.size + 2) 67 i0 (.agg #[.string ⟨#[]⟩, .string ⟨#[]⟩]) 2 32 Tryd.underlying37 hi0 hz0 hz1 hz2 rfl (by decide) (.slice (some ⟨w.heap.size + 2, 0, none⟩) 0 n) 0 [] (by simp [Act.eval]) HOW.out ad n cap (Tr.acs ats) (by simp [Act.eval]) HLL.out HNW.out (Tr.acs_one ats) E1.out E2.out HBS.out ?_; intro v' w1 hown hgrow hnil hat; obtain ⟨pv, cv, rfl, _⟩ := Tr.owns_sl hown; have g0 := HGR.out w1 hgrow; have x4 := g0.2.2.2.1; have f4 := g0.2.2.2.2)
    all_goals
      have b0 : (w1.setCell ⟨w.heap.size, 4, none⟩ (.slice pv n cv)).heap[w.heap.size]? = some (.cells #[.int .i64 kind, .int .i64 num, .int .i64 dep, .string nm, .slice pv n cv, .string tx, .int .i64 fr, .int .i64 be] 39 (0, 0)) := Go.Joins.block_setCell (i := 4) g0.1 _
      have b1 := (Below.heap_setCell w1 ⟨w.heap.size, 4, none⟩ (.slice pv n cv) (w.heap.size + 1) (by show w.heap.size + 1 ≠ w.heap.size; omega)).trans g0.2.1
      have r0 : (w1.setCell ⟨w.heap.size, 4, none⟩ (.slice pv n cv)).rangeAt w.heap.size 0 [.int .i64 kind, .int .i64 num, .int .i64 dep, .string nm, .slice pv n cv, .string tx, .int .i64 fr, .int .i64 be] := Tr.range_of b0
      have r1 : (w1.setCell ⟨w.heap.size, 4, none⟩ (.slice pv n cv)).there (w.heap.size + 1) 0 8 := Tr.there_of b1
      have o1 : (#[.int .i64 kind, .int .i64 num, .int .i64 dep, .string nm, .slice pv n cv, .string tx, .int .i64 fr, .int .i64 be] : Array Value).all (·.oneCell') = true := all_oneCell_toArray (Tr.cs_one (e := ⟨kind, num, dep, nm, .slice pv n cv, ats, tx, fr, be⟩) rfl)
      have O1 := hide' o1
      have B1 := hide' b1
      have R0 := hide' r0
      have R1 := hide' r1
      have G0 := hide' g0
      have HOWN := hide' hown
      have HGW := hide' hgrow
      have HAT := hide' hat
      clear o1 b0 b1 r0 r1 g0 hown hgrow hnil hat HGR HNW HOW HBS x4 f4
      go_wp2_with (first | refine wpList_load_mid rfl 39 (.tmp 1) rfl w.heap.size 0 rfl [.int .i64 kind, .int .i64 num, .int .i64 dep, .string nm, .slice pv n cv, .string tx, .int .i64 fr, .int .i64 be] _ R0.out Tryd.underlying39 rfl Tr.evSize ?_ | refine wpList_store_mid rfl 39 (.tmp 2) (.tmp 14) rfl (w.heap.size + 1) 0 #[.int .i64 kind, .int .i64 num, .int .i64 dep, .string nm, .slice pv n cv, .string tx, .int .i64 fr, .int .i64 be] rfl rfl R1.out Tr.evSize O1.out ?_)
      refine bodyPost_ret (v := .agg #[.int .i64 kind, .int .i64 num, .int .i64 dep, .string nm, .slice pv n cv, .string tx, .int .i64 fr, .int .i64 be]) (Tr.results_cell Tryd.results30 _ ⟨w.heap.size + 1, 0, none⟩ rfl _ _ (run_loadVar_mid _ (w.heap.size + 1) 0 39 [.int .i64 kind, .int .i64 num, .int .i64 dep, .string nm, .slice pv n cv, .string tx, .int .i64 fr, .int .i64 be] _ (World.rangeAt_setCells_same _ _ _ _ R1.out) Tryd.underlying39 rfl Tr.evSize)) rfl ?_
      refine ⟨.slice pv n cv, rfl, ?_, (fun g hg => by have := (HOWN.out.lt g (by rw [Nat.zero_add]; exact hg)).1; omega), Tr.below_cells (Nat.le_succ _) _ _ _ (G0.out.2.2.1.setCell (p := ⟨w.heap.size, 4, none⟩) (Nat.le_refl _) _)⟩
      have h1 := HOWN.out
      rw [Nat.zero_add, List.nil_append] at h1
      refine (Tr.AtOwn.own h1 HN.out).keep fun g hg _ => ?_
      have hlt := (h1.lt g hg).1
      exact (Tr.heap_cells_far (by omega) _ _ _).trans (Below.heap_setCell _ _ _ _ (by show g ≠ w.heap.size; omega))
end Go.Proofs.YtcmjipgigkalcaaDoor
/-
  THE WALK over tree.copyAll.
-/
namespace Go.Proofs.YtcmjipgigkalcaaDoor
open Go.RowKit Go.Lib
namespace Tr
/-- the block L is a row of n events -/
def Blk (W : World) (L n : Nat) : Prop := ∃ cur, W.heap[L]? = some (.cells cur 39 (0, 0)) ∧ cur.size = n * 8
theorem Blk.below {W W' : World} {L n B : Nat} (h : Blk W L n) (hb : Below B W W') (hB : L < B) : Blk W' L n := by
  obtain ⟨cur, h1, h2⟩ := h
  exact ⟨cur, (hb.block L hB).trans h1, h2⟩
theorem Blk.cells {L n b : Nat} : ∀ (vs : List Value) (o : Nat) {W : World}, Blk W L n → Blk (W.setCells b o vs) L n
  | [], _, _, h => h
  | v :: r, o, W, h => by
    refine Blk.cells (b := b) r (o + 1) (W := W.setCell ⟨b, o, none⟩ v) ?_
    obtain ⟨cur, h1, h2⟩ := h
    by_cases c : L = b
    · subst c
      exact ⟨_, Go.Joins.block_setCell (i := o) h1 v, by simpa using h2⟩
    · exact ⟨cur, (Below.heap_setCell _ _ _ _ c).trans h1, h2⟩
/-- the first i of n events are copied into the block L -/
structure Cpy (w : World) (L n i : Nat) (E E' : Nat → Ev Value) (wr : World) : Prop where
  bel : Below w.heap.size w wr
  low : w.heap.size ≤ L
  lt : L < wr.heap.size
  there : wr.there L 0 (n * 8)
  rng : ∀ k, k < i → wr.rangeAt L (k * 8) (E' k).cs.toList
  eq : ∀ k, k < i → E' k = { E k with av := (E' k).av }
  att : ∀ k, k < i → AtOwn wr (E' k).av (E k).ats ∧ ∀ g, (E' k).av.ownBlock = some g → L < g
  blk : Blk wr L n
theorem rangeAt_below {w w' : World} {b o B : Nat} {cs : List Value} (h : w.rangeAt b o cs) (hb : Below B w w') (hB : b < B) : w'.rangeAt b o cs := fun j v hj => (hb.cell (p := ⟨b, o + j, none⟩) hB).trans (h j v hj)
theorem there_below {w w' : World} {b o n B : Nat} (h : w.there b o n) (hb : Below B w w') (hB : b < B) : w'.there b o n := fun j hj => by
  obtain ⟨h1, h2⟩ := h j hj
  refine ⟨by rw [hb.cell (p := ⟨b, o + j, none⟩) hB]; exact h1, ?_⟩
  rw [World.frozen?_of_block (a := ⟨b, o + j, none⟩) (hb.block b hB)]
  exact h2
theorem there_sub {w : World} {b n o m : Nat} (h : w.there b 0 n) (hm : o + m ≤ n) : w.there b o m := fun j hj => by
  have := h (o + j) (by omega)
  rw [Nat.zero_add] at this
  exact this
theorem Cpy.step {w : World} {L n i : Nat} {E E' : Nat → Ev Value} {wr W : World} {av : Value} (h : Cpy w L n i E E' wr) (hb : Below wr.heap.size wr W) (hA : AtOwn W av (E i).ats) (hg : ∀ g, av.ownBlock = some g → wr.heap.size ≤ g) (hi : i < n) :
    Cpy w L n (i + 1) E (fun k => if k = i then { E i with av := av } else E' k) (W.setCells L (i * 8) (Ev.cs { E i with av := av }).toList) := by
  have hlt := h.lt
  have hth := there_below h.there hb hlt
  have hsz : (W.setCells L (i * 8) (Ev.cs { E i with av := av }).toList).heap.size = W.heap.size := by
    generalize (Ev.cs { E i with av := av }).toList = vs
    generalize i * 8 = o
    clear hA hg hi hb hth
    induction vs generalizing o W with
    | nil => rfl
    | cons v r ih => exact (ih (W := W.setCell ⟨L, o, none⟩ v) (o + 1)).trans (by simp [World.setCell])
  have keepA : ∀ {v : Value} {l : List (ByteArray × ByteArray)}, AtOwn W v l → (∀ g, v.ownBlock = some g → L < g) → AtOwn (W.setCells L (i * 8) (Ev.cs { E i with av := av }).toList) v l := fun {v l} hv hL => hv.keep fun g hg _ => by
    have := hL g hg
    exact heap_cells_far (by omega) _ _ _
  refine ⟨below_cells h.low _ _ _ (h.bel.trans (hb.mono h.bel.size)), h.low, by rw [hsz]; have := hb.size; omega, World.there_setCells hth _ _ _, fun k hk => ?_, fun k hk => ?_, fun k hk => ?_, (h.blk.below hb hlt).cells _ _⟩
  · by_cases c : k = i
    · subst c
      rw [if_pos rfl]
      exact World.rangeAt_setCells_same _ _ _ _ (there_sub hth (by show k * 8 + 8 ≤ _; omega))
    · rw [if_neg c]
      exact World.rangeAt_setCells_apart (rangeAt_below (h.rng k (by omega)) hb hlt) _ _ _ (.inr (.inl (by show k * 8 + 8 ≤ _; omega)))
  · by_cases c : k = i
    · subst c
      rw [if_pos rfl]
    · rw [if_neg c]
      exact h.eq k (by omega)
  · by_cases c : k = i
    · subst c
      rw [if_pos rfl]
      have hL : ∀ g, av.ownBlock = some g → L < g := fun g e => by have := hg g e; omega
      exact ⟨keepA hA hL, hL⟩
    · rw [if_neg c]
      have hk2 := h.att k (by omega)
      exact ⟨keepA (hk2.1.below hb (Nat.le_refl _)) hk2.2, hk2.2⟩
theorem Cpy.evs {w : World} {L n : Nat} {E E' : Nat → Ev Value} {wr : World} (h : Cpy w L n n E E' wr) (hn : n ≤ 1466015503658) : Evs wr (.slice (some ⟨L, 0, none⟩) n n) n E' := by
  refine ⟨⟨_, n, rfl, Nat.le_refl _, by omega, (fun e => by cases e), fun _ => ⟨L, 0, rfl, fun i j u hi hu => ?_⟩⟩, fun i hi => ?_⟩
  · rw [Nat.zero_add]
    exact h.rng i hi j u (by rw [Array.getElem?_toList]; exact hu)
  · have := (h.att i hi).1.row
    rw [h.eq i hi]
    exact this
theorem Cpy.owns {w : World} {L n : Nat} {E E' : Nat → Ev Value} {wr : World} (h : Cpy w L n n E E' wr) (hn : n ≤ 1466015503658) : ∃ xs, wr.ownsRow w.heap.size 39 8 (.slice (some ⟨L, 0, none⟩) n n) n xs := by
  obtain ⟨cur, h1, h2⟩ := h.blk
  exact ⟨cur.toList, by simp [h2], .inr ⟨L, n, cur, rfl, h.low, h1, Nat.le_refl _, by unfold maxLen; omega, h2, by rw [← h2, ← Array.length_toList, List.take_length]⟩⟩
/-- what copyAll answers -/
def CopyAllE (E : Nat → Ev Value) (n : Nat) (w : World) (r : Ending) (w' : World) : Prop :=
  ∃ L E', r = .returned (.slice (some ⟨L, 0, none⟩) n n) ∧ Cpy w L n n E E' w'
end Tr
set_option maxRecDepth 100000 in
set_option maxHeartbeats 1000000 in
theorem trCopyAll (v : Value) (n : Nat) (E : Nat → Tr.Ev Value) (w : World) (hE : Tr.Evs w v n E) (hs : ∀ i, i < n → Tr.Small (E i)) (hn : n ≤ 1466015503658) :
    Calls Tryd.prog 25 #[v] w fun r w' => Tr.CopyAllE E n w r w' := by
  obtain ⟨i0, hi0, hz0, hz1, hz2⟩ := info_parts Tr.evInfo
  obtain ⟨MC, hMC, hmk⟩ : ∃ MC : Array Value, MC.size = n * 8 ∧ ∀ W : World, (Instr.makeSlice 22 (.int .i64 (n : Nat)) (.int .i64 (n : Nat))).run Tryd.prog W = .ok (.slice (some ⟨W.heap.size, 0, none⟩) n n) (W.alloc (.cells MC 39)) := by
    refine ⟨madeCells (Value.agg Tr.ev0).cells (n * i0.size), by rw [size_madeCells, hz1], fun W => ?_⟩
    have h := run_make (P := Tryd.prog) W 22 39 i0 _ Tryd.underlying22 hi0 hz0 .i64 .i64 (n : Nat) (n : Nat) (by omega) (by omega) (by rw [hz2]; omega) (by omega)
    simpa using h
  have cC : ∀ (i : Nat) w1, i < n → Below w.heap.size w w1 → _ := fun i w1 h hb => trCopyOf (E i) w1 (hs i h).2.2.1 ((hE.att i h).below hb (Nat.le_refl _))
  have hav : ∀ i, i < n → ∃ pa na ca, (E i).av = .slice pa na ca := fun i h => by
    obtain ⟨pa, ca, e, _⟩ := hE.att i h
    exact ⟨pa, _, ca, e⟩
  have hrow := hE.row.at
  obtain ⟨p0, cap0, rfl, r1, r2, _⟩ := hE.row
  have hb0 := (Below.refl w.heap.size w).alloc (Nat.le_refl _) (.cells MC 39)
  have hst : Tr.Cpy w w.heap.size n 0 E E (w.alloc (.cells MC 39)) := ⟨hb0, Nat.le_refl _, by simp, by rw [← hMC]; exact Tr.there_of (heap_alloc_new w _), fun k hk => absurd hk (by omega), fun k hk => absurd hk (by omega), fun k hk => absurd hk (by omega), MC, heap_alloc_new w _, hMC⟩
  have CC := hide' cC
  have HR := hide' hrow
  have HV := hide' hav
  have HST := hide' hst
  clear hE hs cC hrow hav hst hb0 hMC
  go_enter Tryd.func25, Tryd.ntmps25
  go_wp2_with fail
  go_loopw [11] (fun v wr => ∃ (i : Nat) (E' : Nat → Tr.Ev Value), v = .int .i64 i ∧ i ≤ n ∧ Hid (Tr.Cpy w w.heap.size n i E E' wr)) (fun v _ => n - (RowKit.intOf v).toNat)
  case atStart => exact ⟨0, E, rfl, Nat.zero_le _, HST⟩
  case round =>
    obtain ⟨i, E', rfl, hi, HL⟩ := hrel
    by_cases hlt : i < n
    · have t1 : (i : Int) < (n : Int) := by omega
      obtain ⟨b0, o0, cap0', e0, r1', r2', ka⟩ := HR.out (by omega)
      obtain ⟨rfl, rfl⟩ : p0 = some ⟨b0, o0, none⟩ ∧ cap0 = cap0' := by cases e0; exact ⟨rfl, rfl⟩
      obtain ⟨k0, k1, k2, k3, k4, k5, k6, k7⟩ := ka i hlt
      have kk : ∀ {a : Addr} {u}, w.cell? a = some u → wr.cell? a = some u := fun {a u} hu => (HL.out.bel.cell (p := a) (block_lt_of_cell hu)).trans hu
      have q0 := kk k0
      have q1 := kk k1
      have q2 := kk k2
      have q3 := kk k3
      have q4 := kk k4
      have q5 := kk k5
      have q6 := kk k6
      have q7 := kk k7
      have hbA := HL.out.bel.alloc HL.out.bel.size (.cells (E i).cs 39)
      have hrA : Below wr.heap.size wr (wr.alloc (.cells (E i).cs 39)) := (Below.refl _ _).alloc (Nat.le_refl _) _
      have hbx := Tr.Box.new wr (E i) 39
      have cCi := CC.out i _ hlt hbA
      have hav := HV.out i hlt
      have hth := HL.out.there
      have hlw := HL.out.lt
      obtain ⟨e, he⟩ : ∃ e, E i = e := ⟨_, rfl⟩
      simp only [he] at q0 q1 q2 q3 q4 q5 q6 q7 hav hbA hrA hbx cCi
      have HE := hide' he
      have HTH := hide' hth
      have HLW := hide' hlw
      clear k0 k1 k2 k3 k4 k5 k6 k7 kk ka CC HR HV he e0 hth hlw
      obtain ⟨kind, num, dep, nm, av, ats, tx, fr, be⟩ := e
      dsimp only at hav
      obtain ⟨pa, na, ca, rfl⟩ := hav
      simp only [Tr.Ev.cs] at hbA hrA hbx cCi
      dsimp only at q0 q1 q2 q3 q4 q5 q6 q7
      obtain ⟨z0, z1, z2, z3, z4, z5, z6, z7⟩ := hbx
      have HBA := hide' hbA
      have HRA := hide' hrA
      have cD : Calls _ _ _ _ (fun r w' => ∃ pa' ca' CA, r = .returned (.agg CA) ∧ Hid (CA = #[.int .i64 kind, .int .i64 num, .int .i64 dep, .string nm, .slice pa' ats.length ca', .string tx, .int .i64 fr, .int .i64 be]) ∧ Tr.AtOwn w' (.slice pa' ats.length ca') ats ∧ (∀ g, (Value.slice pa' ats.length ca').ownBlock = some g → wr.heap.size ≤ g) ∧ Below wr.heap.size wr w') := Calls.mono cCi (fun r w' h => by
        obtain ⟨av', h1, h2, h3, h4⟩ := h
        obtain ⟨pa', ca', e', _⟩ := h2.row
        subst e'
        exact ⟨pa', ca', _, h1, rfl, h2, fun g hg => by have := h3 g hg; simp at this; omega, hrA.trans (h4.mono hrA.size)⟩)
      have CC := hide' cD
      have HLT := hide' hlt
      clear hbA hrA cCi cD hlt
      go_wp2_with fail
      refine CC.out.mono ?_
      rintro r w1 ⟨pa', ca', CA, rfl, HCA, hA1, hg1, hb1⟩
      have hT : w1.there w.heap.size (i * 8) CA.size := by
        rw [HCA.out]
        exact Tr.there_sub (m := 8) (Tr.there_below HTH.out hb1 HLW.out) (by have := HLT.out; omega)
      have o1 : CA.all (·.oneCell') = true := by
        rw [HCA.out]
        exact all_oneCell_toArray (Tr.cs_one (e := ⟨kind, num, dep, nm, .slice pa' ats.length ca', ats, tx, fr, be⟩) rfl)
      have HA1 := hide' hA1
      have HG1 := hide' hg1
      have HB1 := hide' hb1
      have i1 : (Tryd.prog.info? 39).map (·.size) = some CA.size := by rw [HCA.out]; exact Tr.evSize
      have I1 := hide' i1
      have HT := hide' hT
      have O1 := hide' o1
      clear i1 hT o1 hA1 hg1 hb1 CC HTH z0 z1 z2 z3 z4 z5 z6 z7 q0 q1 q2 q3 q4 q5 q6 q7
      go_wp2_with (first | refine wpList_store_mid rfl 39 (.tmp 20) (.tmp 19) rfl w.heap.size (i * 8) CA rfl rfl HT.out I1.out O1.out ?_)
      have hS := HL.out.step (av := .slice pa' ats.length ca') HB1.out (by rw [HE.out]; exact HA1.out) HG1.out HLT.out
      rw [HE.out] at hS
      rw [HCA.out]
      exact ⟨⟨i + 1, _, rfl, HLT.out, hS⟩, by have := HLT.out; simp [RowKit.intOf]; omega⟩
    · have t1 : ¬ (i : Int) < (n : Int) := by omega
      obtain rfl : i = n := by omega
      clear CC HR HV HST
      go_wp2_with fail
      go_ret
      exact ⟨w.heap.size, E', rfl, HL.out⟩
end Go.Proofs.YtcmjipgigkalcaaDoor
