/-
  WALKS over tree.copyOf and copyAll.
-/
import Derived.Test.YtfockjlegpbooaaGreatDoorTrDocC
import Derived.Deep.RegionLaw
import Derived.Deep.AppendLies
import Derived.Laws.MakeOwn
import Derived.Laws.OwnMore
import Derived.Deep.MidRow
namespace Go.Proofs.YtfockjlegpbooaaGreatDoor
open Go.RowKit Go.Lib
namespace Tr
/-- append at a step of a region that draws: something or nothing -/
theorem step_append_at {P : Program} (w : World) {ops : Array Oper} {o : Oper} {a : Act} {K : Act → World → Prop} {Q : Exit → Act → World → Prop} {F : Prop} (hgd : o.guard = none) (s x : Operand) (t : TypeId)
    (ho : o.op = .call { callee := .builtin .append, args := #[s, x], argTypes := #[t, t] })
    (base : Nat) (e : TypeId) (i : TypeInfo) (z : Value) (size bytes : Nat) (ht : P.underlying t = some (.slice e)) (hi : P.info? e = some i) (hz : i.zero = some z)
    (hsize : i.size = size) (hby : i.bytes = bytes) (hzs : z.cells.size = size) (hsz : 0 < size)
    (v : Value) (n : Nat) (xs : List Value) (hs : a.eval s = v) (hown : w.ownsRow base e size v n xs)
    (ad : Addr) (m c : Nat) (news : List Value) (hx : a.eval x = .slice (some ad) m c) (hl : news.length = m * size) (hnews : ∀ j u, news[j]? = some u → w.cell? (ad.add j) = some u) (h1 : ∀ u ∈ news, u.oneCell' = true)
    (h63 : n + m ≤ maxLen) (hbytes : (n + m) * bytes ≤ 140737488355328) (hbase : base ≤ w.heap.size)
    (h : ∀ v' w', w'.ownsRow base e size v' (n + m) (xs ++ news) → w.grownBy w' v.ownBlock → (v' = .slice none 0 0 ↔ v = .slice none 0 0 ∧ m = 0) → (v'.ownBlock = v.ownBlock ∨ v'.ownBlock = some w.heap.size) → K (a.put o.dst v') w') :
    if Region.wanted o (yielded ops a.tmps) = true then Oper.wp P o a w K Q else F := by
  have hw : Region.wanted o (yielded ops a.tmps) = true := by simp [Region.wanted, hgd]
  rw [if_pos hw]
  obtain ⟨v', w', hr, h2, h3, h4, h5⟩ := run_append_own_at (P := P) w base t o.type e i z size bytes ht hi hz hsize hby hzs hsz v n xs hown ad m c news hl hnews h1 h63 hbytes hbase
  unfold Oper.wp execOp
  simp only [ho, resolve, invoke, builtin, Sem.run_bind, Sem.run_pure, Result.andThen_ok, List.map_toArray, List.map_cons, List.map_nil, hs, hx, hr]
  exact h v' w' h2 h3 h4 h5
/-- the cells of attributes -/
def acs (l : List (ByteArray × ByteArray)) : List Value := l.flatMap fun x => [.string x.1, .string x.2]
theorem acs_length : ∀ l, (acs l).length = l.length * 2
  | [] => rfl
  | x :: l => by
    show (.string x.1 :: .string x.2 :: acs l).length = _
    rw [List.length_cons, List.length_cons, acs_length l, List.length_cons]
    omega
theorem acs_get : ∀ (l : List (ByteArray × ByteArray)) (i : Nat) (x : ByteArray × ByteArray), l[i]? = some x → (acs l)[i * 2]? = some (.string x.1) ∧ (acs l)[i * 2 + 1]? = some (.string x.2)
  | [], i, x, h => by simp at h
  | y :: l, 0, x, h => by
    obtain rfl : y = x := by simpa using h
    exact ⟨rfl, rfl⟩
  | y :: l, i + 1, x, h => by
    have := acs_get l i x (by simpa using h)
    show (Value.string y.1 :: .string y.2 :: acs l)[(i + 1) * 2]? = _ ∧ _
    rw [show (i + 1) * 2 = i * 2 + 1 + 1 by omega]
    exact this
theorem acs_one (l : List (ByteArray × ByteArray)) : ∀ u ∈ acs l, u.oneCell' = true := by
  intro u hu
  simp only [acs, List.mem_flatMap] at hu
  obtain ⟨x, _, hu⟩ := hu
  simp at hu
  rcases hu with rfl | rfl <;> rfl
theorem acs_cell {W : World} {l : List (ByteArray × ByteArray)} {b o : Nat} (h : ∀ i x, l[i]? = some x → W.cell? ⟨b, o + i * 2, none⟩ = some (.string x.1) ∧ W.cell? ⟨b, o + i * 2 + 1, none⟩ = some (.string x.2)) (j : Nat) (u : Value) (hu : (acs l)[j]? = some u) : W.cell? (Addr.add ⟨b, o, none⟩ j) = some u := by
  have hj : j < l.length * 2 := by
    have := (List.getElem?_eq_some_iff.1 hu).1
    rwa [acs_length] at this
  obtain ⟨x, hx⟩ : ∃ x, l[j / 2]? = some x := ⟨_, List.getElem?_eq_getElem (by omega)⟩
  have h1 := acs_get l (j / 2) x hx
  have h2 := h (j / 2) x hx
  rw [Go.WideShapes.add_plain]
  rcases Nat.mod_two_eq_zero_or_one j with c | c
  · rw [show j / 2 * 2 = j by omega] at h1 h2
    rw [h1.1] at hu
    cases hu
    exact h2.1
  · rw [show o + j / 2 * 2 + 1 = o + j by omega] at h2
    rw [show j / 2 * 2 + 1 = j by omega] at h1
    rw [h1.2] at hu
    cases hu
    exact h2.2
theorem AtRow.own {W : World} {B n : Nat} {v : Value} {l : List (ByteArray × ByteArray)} (h : W.ownsRow B 123 2 v n (acs l)) (hn : l.length = n) : AtRow W v l := by
  subst hn
  obtain ⟨p, cap, rfl, h1, h2, h3, h4⟩ := owns_sl h
  refine ⟨p, cap, rfl, h1, h2, fun e => (h4 e).2, fun h0 => ?_⟩
  obtain ⟨g, rfl⟩ := h3 h0
  refine ⟨g, 0, rfl, fun i x hx => ?_⟩
  have a := acs_get l i x hx
  have b1 := h.cells (g := g) rfl _ _ a.1
  have b2 := h.cells (g := g) rfl _ _ a.2
  rw [Go.WideShapes.add_plain] at b1 b2
  exact ⟨b1, b2⟩
theorem atInfo : (Tryz.prog.info? 123).map (fun i => (i.zero, i.size, i.bytes)) = some (some (.agg #[.string ⟨#[]⟩, .string ⟨#[]⟩]), 2, 32) := by kernel_rfl
theorem evSize : (Tryz.prog.info? 71).map (·.size) = some 8 := by kernel_rfl
theorem range_of {w : World} {b : Nat} {cur : Array Value} {t : TypeId} (h : w.heap[b]? = some (.cells cur t (0, 0))) : w.rangeAt b 0 cur.toList := by
  intro j v hj
  rw [Nat.zero_add, Lib.cell_of_heap h]
  simpa using hj
theorem there_of {w : World} {b : Nat} {cur : Array Value} {t : TypeId} (h : w.heap[b]? = some (.cells cur t (0, 0))) : w.there b 0 cur.size := fun j hj => by
  rw [Nat.zero_add]
  refine ⟨?_, Lib.frozen_of_heap h j⟩
  rw [Lib.cell_of_heap h]
  simp [hj]
theorem results_cell {P : Program} {fn : Func} {a : Nat} {t : TypeId} (hr : fn.results = #[.cell a t]) (tmps : Array Value) (p : Addr) (hp : tmps[a]?.getD undef = .pointer (some p)) (v : Value) (w : World) (h : (loadVar t p).run P w = .ok v w) : (results fn tmps).run P w = .ok v w := by
  unfold results
  rw [hr]
  simp [asAddr, hp, h]
theorem heap_alloc2 (w : World) (a b : Obj) : ((w.alloc a).alloc b).heap[w.heap.size]? = some a ∧ ((w.alloc a).alloc b).heap[w.heap.size + 1]? = some b ∧ ((w.alloc a).alloc b).heap.size = w.heap.size + 2 := by
  have h1 : (w.alloc a).heap.size = w.heap.size + 1 := by simp
  have h2 : ((w.alloc a).alloc b).heap.size = w.heap.size + 2 := by simp
  refine ⟨(Lib.alloc_old _ _ _ (by omega)).trans (heap_alloc_new w a), ?_, h2⟩
  have := heap_alloc_new (w.alloc a) b
  rw [h1] at this
  exact this
theorem load_box {w : World} {b : Nat} {cur : Array Value} (h : w.heap[b]? = some (.cells cur 71 (0, 0))) (h8 : cur.size = 8) : (loadVar 71 ⟨b, 0, none⟩).run Tryz.prog w = .ok (.agg cur) w := by
  have := run_loadVar_mid (P := Tryz.prog) w b 0 71 cur.toList _ (range_of h) Tryz.underlying71 rfl (by rw [evSize]; simp [h8])
  simpa using this
theorem heap_cells_far {b q : Nat} (hq : q ≠ b) : ∀ (vs : List Value) (o : Nat) (w : World), (w.setCells b o vs).heap[q]? = w.heap[q]?
  | [], _, _ => rfl
  | v :: r, o, w => (heap_cells_far hq r (o + 1) (w.setCell ⟨b, o, none⟩ v)).trans (Below.heap_setCell _ _ _ _ hq)
theorem below_cells {B b : Nat} {a : World} (hb : B ≤ b) : ∀ (vs : List Value) (o : Nat) (w : World), Below B a w → Below B a (w.setCells b o vs)
  | [], _, _, h => h
  | v :: r, o, _, h => below_cells hb r (o + 1) _ (h.setCell (p := ⟨b, o, none⟩) hb v)
/-- attributes that are one's own, whatever they are -/
def Wr (W : World) (v : Value) (n : Nat) : Prop := ∃ xs, W.ownsRow 0 123 2 v n xs
structure AtOwn (W : World) (v : Value) (l : List (ByteArray × ByteArray)) : Prop where
  row : AtRow W v l
  wr : Wr W v l.length
theorem owns_base {w : World} {B B' : Nat} {e : TypeId} {size : Nat} {v : Value} {n : Nat} {ys : List Value} (h : w.ownsRow B e size v n ys) (hB : B' ≤ B) : w.ownsRow B' e size v n ys := by
  refine ⟨h.1, ?_⟩
  rcases h.2 with h1 | ⟨g, cap, cur, hv, hb1, rest⟩
  · exact .inl h1
  · exact .inr ⟨g, cap, cur, hv, Nat.le_trans hB hb1, rest⟩
theorem owns_block {w w' : World} {B : Nat} {e : TypeId} {size : Nat} {v : Value} {n : Nat} {ys : List Value} (h : w.ownsRow B e size v n ys) (hk : ∀ g, v.ownBlock = some g → g < w.heap.size → w'.heap[g]? = w.heap[g]?) : w'.ownsRow B e size v n ys := by
  refine ⟨h.1, ?_⟩
  rcases h.2 with h1 | ⟨g, cap, cur, hv, hb1, hg, rest⟩
  · exact .inl h1
  · exact .inr ⟨g, cap, cur, hv, hb1, (hk g (by rw [hv]; rfl) (Array.getElem?_eq_some_iff.1 hg).1).trans hg, rest⟩
theorem Wr.there {W : World} {v : Value} {n : Nat} (h : Wr W v n) (h0 : 0 < n) : ∃ b o cap, v = .slice (some ⟨b, o, none⟩) n cap ∧ W.there b o (n * 2) := by
  obtain ⟨xs, h⟩ := h
  rcases h.2 with ⟨_, e⟩ | ⟨g, cap, cur, e, _, hh, hc, _, hs, _⟩
  · omega
  · refine ⟨g, 0, cap, e, fun j hj => ?_⟩
    have := there_of hh j (by omega)
    exact this
theorem AtOwn.keep {W W' : World} {v : Value} {l : List (ByteArray × ByteArray)} (h : AtOwn W v l) (hk : ∀ g, v.ownBlock = some g → g < W.heap.size → W'.heap[g]? = W.heap[g]?) : AtOwn W' v l := by
  refine ⟨h.row.keep fun a u hu ha => (World.cell?_of_block (hk a.block ha.symm (block_lt_of_cell hu))).trans hu, ?_⟩
  obtain ⟨xs, hx⟩ := h.wr
  exact ⟨xs, owns_block hx hk⟩
theorem AtOwn.below {W W' : World} {v : Value} {l : List (ByteArray × ByteArray)} {B : Nat} (h : AtOwn W v l) (hb : Below B W W') (hB : W.heap.size ≤ B) : AtOwn W' v l :=
  h.keep fun g _ hg => hb.block g (Nat.lt_of_lt_of_le hg hB)
theorem AtOwn.own {W : World} {B n : Nat} {v : Value} {l : List (ByteArray × ByteArray)} (h : W.ownsRow B 123 2 v n (acs l)) (hn : l.length = n) : AtOwn W v l := by
  refine ⟨AtRow.own h hn, ?_⟩
  subst hn
  exact ⟨_, owns_base h (Nat.zero_le _)⟩
/-- what copyOf answers -/
def CopyE (e : Ev Value) (w : World) (r : Ending) (w' : World) : Prop :=
  ∃ av', r = .returned (.agg (Ev.cs { e with av := av' })) ∧ AtOwn w' av' e.ats ∧ (∀ g, av'.ownBlock = some g → w.heap.size ≤ g) ∧ Below w.heap.size w w'
end Tr
set_option maxRecDepth 100000 in
set_option maxHeartbeats 4000000 in
theorem trCopyOf (e : Tr.Ev Value) (w : World) (hs : e.ats.length ≤ 4398046510976) (hA : Tr.AtRow w e.av e.ats) :
    Calls Tryz.prog 57 #[.agg e.cs] w fun r w' => Tr.CopyE e w r w' := by
  obtain ⟨i0, hi0, hz0, hz1, hz2⟩ := info_parts Tr.atInfo
  obtain ⟨kind, num, dep, nm, av, ats, tx, fr, be⟩ := e
  dsimp only at hs hA
  have HA0 := hide' hA
  obtain ⟨p, cap, rfl, a1, a2, a3, a4⟩ := hA
  show Calls Tryz.prog 57 #[.agg #[.int .i64 kind, .int .i64 num, .int .i64 dep, .string nm, .slice p ats.length cap, .string tx, .int .i64 fr, .int .i64 be]] w _
  have hb := ((Below.refl w.heap.size w).alloc (Nat.le_refl _) (.cells #[.int .i64 kind, .int .i64 num, .int .i64 dep, .string nm, .slice p ats.length cap, .string tx, .int .i64 fr, .int .i64 be] 71)).alloc (by simp) (.cells Tr.ev0 71)
  have HB := hide' hb
  clear hb
  cases p with
  | none =>
    obtain rfl := a3 rfl
    obtain rfl : ats = [] := List.eq_nil_of_length_eq_zero (by omega)
    clear a1 a2 a3 a4 hs
    simp only [List.length_nil] at HA0 HB ⊢
    go_enter Tryz.func57, Tryz.ntmps57
    go_wp2_with fail
    refine bodyPost_ret (Tr.results_cell Tryz.results57 _ ⟨w.heap.size + 1, 0, none⟩ rfl _ _ (Tr.load_box (Tr.heap_alloc2 _ _ _).2.1 rfl)) rfl ?_
    exact ⟨.slice none 0 0, rfl, ⟨HA0.out.below (((Below.refl w.heap.size w).alloc (Nat.le_refl _) _).alloc (by simp) _) (Nat.le_refl _), ⟨[], World.ownsRow_nil _ _ _ _⟩⟩, (fun g hg => by cases hg), ((Below.refl w.heap.size w).alloc (Nat.le_refl _) _).alloc (by simp) _⟩
  | some ad =>
    obtain ⟨MC, hMC, hmk⟩ : ∃ MC : Array Value, MC.size = ats.length * 2 ∧ ∀ W : World, (Instr.makeSlice 69 (.int .i64 0) (.int .i64 (ats.length : Nat))).run Tryz.prog W = .ok (.slice (some ⟨W.heap.size, 0, none⟩) 0 ats.length) (W.alloc (.cells MC 123)) := by
      refine ⟨madeCells (Value.agg #[.string ⟨#[]⟩, .string ⟨#[]⟩]).cells (ats.length * i0.size), by rw [size_madeCells, hz1], fun W => ?_⟩
      have h := run_make (P := Tryz.prog) W 69 123 i0 _ Tryz.underlying69 hi0 hz0 .i64 .i64 0 (ats.length : Nat) (by omega) (by omega) (by rw [hz2]; omega) (by omega)
      simpa using h
    have hl := Tr.acs_length ats
    have hrd : ∀ W : World, Below w.heap.size w W → ∀ j u, (Tr.acs ats)[j]? = some u → W.cell? (ad.add j) = some u := fun W hb j u hu => by
      have h0 : 0 < ats.length := by
        have := (List.getElem?_eq_some_iff.1 hu).1
        rw [hl] at this
        omega
      obtain ⟨b, o, e, hc⟩ := a4 h0
      cases e
      have h1 := Tr.acs_cell hc j u hu
      exact (hb.cell (p := Addr.add ⟨b, o, none⟩ j) (block_lt_of_cell h1)).trans h1
    obtain ⟨n, hn⟩ : ∃ n, ats.length = n := ⟨_, rfl⟩
    simp only [hn] at hs a1 hMC hmk hl HA0 HB ⊢
    have HN := hide' hn
    have ha2 := Tr.heap_alloc2 w (.cells #[.int .i64 kind, .int .i64 num, .int .i64 dep, .string nm, .slice (some ad) n cap, .string tx, .int .i64 fr, .int .i64 be] 71) (.cells #[.int .i64 0, .int .i64 0, .int .i64 0, .string ⟨#[]⟩, .slice none 0 0, .string ⟨#[]⟩, .int .i64 0, .int .i64 0] 71)
    have hbW : Below w.heap.size w ((w.alloc (.cells #[.int .i64 kind, .int .i64 num, .int .i64 dep, .string nm, .slice (some ad) n cap, .string tx, .int .i64 fr, .int .i64 be] 71)).alloc (.cells #[.int .i64 0, .int .i64 0, .int .i64 0, .string ⟨#[]⟩, .slice none 0 0, .string ⟨#[]⟩, .int .i64 0, .int .i64 0] 71)).drew := (((Below.refl w.heap.size w).alloc (Nat.le_refl _) _).alloc (by simp) _).drew
    have hown0 : (((w.alloc (.cells #[.int .i64 kind, .int .i64 num, .int .i64 dep, .string nm, .slice (some ad) n cap, .string tx, .int .i64 fr, .int .i64 be] 71)).alloc (.cells #[.int .i64 0, .int .i64 0, .int .i64 0, .string ⟨#[]⟩, .slice none 0 0, .string ⟨#[]⟩, .int .i64 0, .int .i64 0] 71)).drew.alloc (.cells MC 123)).ownsRow (w.heap.size + 2) 123 2 (.slice (some ⟨w.heap.size + 2, 0, none⟩) 0 n) 0 [] := by
      have h := World.ownsRow_made (e := 123) (size := 2) (base := w.heap.size + 2) ((w.alloc (.cells #[.int .i64 kind, .int .i64 num, .int .i64 dep, .string nm, .slice (some ad) n cap, .string tx, .int .i64 fr, .int .i64 be] 71)).alloc (.cells #[.int .i64 0, .int .i64 0, .int .i64 0, .string ⟨#[]⟩, .slice none 0 0, .string ⟨#[]⟩, .int .i64 0, .int .i64 0] 71)).drew MC n (by rw [show ((w.alloc (.cells #[.int .i64 kind, .int .i64 num, .int .i64 dep, .string nm, .slice (some ad) n cap, .string tx, .int .i64 fr, .int .i64 be] 71)).alloc (.cells #[.int .i64 0, .int .i64 0, .int .i64 0, .string ⟨#[]⟩, .slice none 0 0, .string ⟨#[]⟩, .int .i64 0, .int .i64 0] 71)).drew.heap.size = w.heap.size + 2 from ha2.2.2]; exact Nat.le_refl _) (by unfold maxLen; omega) hMC
      rw [show ((w.alloc (.cells #[.int .i64 kind, .int .i64 num, .int .i64 dep, .string nm, .slice (some ad) n cap, .string tx, .int .i64 fr, .int .i64 be] 71)).alloc (.cells #[.int .i64 0, .int .i64 0, .int .i64 0, .string ⟨#[]⟩, .slice none 0 0, .string ⟨#[]⟩, .int .i64 0, .int .i64 0] 71)).drew.heap.size = w.heap.size + 2 from ha2.2.2] at h
      exact h
    have hbM : Below w.heap.size w (((w.alloc (.cells #[.int .i64 kind, .int .i64 num, .int .i64 dep, .string nm, .slice (some ad) n cap, .string tx, .int .i64 fr, .int .i64 be] 71)).alloc (.cells #[.int .i64 0, .int .i64 0, .int .i64 0, .string ⟨#[]⟩, .slice none 0 0, .string ⟨#[]⟩, .int .i64 0, .int .i64 0] 71)).drew.alloc (.cells MC 123)) := hbW.alloc hbW.size _
    have hnews := hrd (((w.alloc (.cells #[.int .i64 kind, .int .i64 num, .int .i64 dep, .string nm, .slice (some ad) n cap, .string tx, .int .i64 fr, .int .i64 be] 71)).alloc (.cells #[.int .i64 0, .int .i64 0, .int .i64 0, .string ⟨#[]⟩, .slice none 0 0, .string ⟨#[]⟩, .int .i64 0, .int .i64 0] 71)).drew.alloc (.cells MC 123)) hbM
    have hgr : ∀ (w1 : World), (((w.alloc (.cells #[.int .i64 kind, .int .i64 num, .int .i64 dep, .string nm, .slice (some ad) n cap, .string tx, .int .i64 fr, .int .i64 be] 71)).alloc (.cells #[.int .i64 0, .int .i64 0, .int .i64 0, .string ⟨#[]⟩, .slice none 0 0, .string ⟨#[]⟩, .int .i64 0, .int .i64 0] 71)).drew.alloc (.cells MC 123)).grownBy w1 (some (w.heap.size + 2)) → w1.heap[w.heap.size]? = some (.cells #[.int .i64 kind, .int .i64 num, .int .i64 dep, .string nm, .slice (some ad) n cap, .string tx, .int .i64 fr, .int .i64 be] 71 (0, 0)) ∧ w1.heap[w.heap.size + 1]? = some (.cells #[.int .i64 0, .int .i64 0, .int .i64 0, .string ⟨#[]⟩, .slice none 0 0, .string ⟨#[]⟩, .int .i64 0, .int .i64 0] 71 (0, 0)) ∧ Below w.heap.size w w1 ∧ w1.cell? ⟨w.heap.size, 4, none⟩ = some (.slice (some ad) n cap) ∧ w1.frozen? ⟨w.heap.size, 4, none⟩ = false := fun w1 hg => by
      have hsz : (((w.alloc (.cells #[.int .i64 kind, .int .i64 num, .int .i64 dep, .string nm, .slice (some ad) n cap, .string tx, .int .i64 fr, .int .i64 be] 71)).alloc (.cells #[.int .i64 0, .int .i64 0, .int .i64 0, .string ⟨#[]⟩, .slice none 0 0, .string ⟨#[]⟩, .int .i64 0, .int .i64 0] 71)).drew.alloc (.cells MC 123)).heap.size = w.heap.size + 3 := by simp
      suffices h : w1.heap[w.heap.size]? = _ ∧ w1.heap[w.heap.size + 1]? = _ from ⟨h.1, h.2, hbM.grown hg (by rw [hsz]; omega) (fun k hk => by cases hk; omega), by rw [Lib.cell_of_heap h.1]; rfl, Lib.frozen_of_heap h.1 4⟩
      refine ⟨?_, ?_⟩
      · rw [hg.block w.heap.size (by rw [hsz]; omega) (fun e => by have := Option.some.inj e; omega), Lib.alloc_old _ _ _ (by rw [show ((w.alloc (.cells #[.int .i64 kind, .int .i64 num, .int .i64 dep, .string nm, .slice (some ad) n cap, .string tx, .int .i64 fr, .int .i64 be] 71)).alloc (.cells #[.int .i64 0, .int .i64 0, .int .i64 0, .string ⟨#[]⟩, .slice none 0 0, .string ⟨#[]⟩, .int .i64 0, .int .i64 0] 71)).drew.heap.size = w.heap.size + 2 from ha2.2.2]; omega)]
        exact ha2.1
      · rw [hg.block (w.heap.size + 1) (by rw [hsz]; omega) (fun e => by have := Option.some.inj e; omega), Lib.alloc_old _ _ _ (by rw [show ((w.alloc (.cells #[.int .i64 kind, .int .i64 num, .int .i64 dep, .string nm, .slice (some ad) n cap, .string tx, .int .i64 fr, .int .i64 be] 71)).alloc (.cells #[.int .i64 0, .int .i64 0, .int .i64 0, .string ⟨#[]⟩, .slice none 0 0, .string ⟨#[]⟩, .int .i64 0, .int .i64 0] 71)).drew.heap.size = w.heap.size + 2 from ha2.2.2]; omega)]
        exact ha2.2.1
    have hbs : w.heap.size + 2 ≤ (((w.alloc (.cells #[.int .i64 kind, .int .i64 num, .int .i64 dep, .string nm, .slice (some ad) n cap, .string tx, .int .i64 fr, .int .i64 be] 71)).alloc (.cells #[.int .i64 0, .int .i64 0, .int .i64 0, .string ⟨#[]⟩, .slice none 0 0, .string ⟨#[]⟩, .int .i64 0, .int .i64 0] 71)).drew.alloc (.cells MC 123)).heap.size := by simp
    have HGR := hide' hgr
    have HOW := hide' hown0
    have HNW := hide' hnews
    have HBS := hide' hbs
    clear hgr hown0 hnews hbs hbM hbW ha2 hrd hMC a4 a3 HA0 HB hn
    have e1 : 0 + n ≤ maxLen := by unfold maxLen; omega
    have e2 : (0 + n) * 32 ≤ 140737488355328 := by omega
    have E1 := hide' e1
    have E2 := hide' e2
    have HLL := hide' hl
    clear e1 e2 hl
    go_enter Tryz.func57, Tryz.ntmps57
    go_wp2_with fail
    go_region_law (refine Tr.step_append_at (((w.alloc (.cells #[.int .i64 kind, .int .i64 num, .int .i64 dep, .string nm, .slice (some ad) n cap, .string tx, .int .i64 fr, .int .i64 be] 71)).alloc (.cells #[.int .i64 0, .int .i64 0, .int .i64 0, .string ⟨#[]⟩, .slice none 0 0, .string ⟨#[]⟩, .int .i64 0, .int .i64 0] 71)).drew.alloc (.cells MC 123)) rfl (.tmp 9) (.tmp 11) 69 rfl (w.heap.size + 2) 123 i0 (.agg #[.string ⟨#[]⟩, .string ⟨#[]⟩]) 2 32 Tryz.underlying69 hi0 hz0 hz1 hz2 rfl (by decide) (.slice (some ⟨w.heap.size + 2, 0, none⟩) 0 n) 0 [] (by simp [Act.eval]) HOW.out ad n cap (Tr.acs ats) (by simp [Act.eval]) HLL.out HNW.out (Tr.acs_one ats) E1.out E2.out HBS.out ?_; intro v' w1 hown hgrow hnil hat; obtain ⟨pv, cv, rfl, _⟩ := Tr.owns_sl hown; have g0 := HGR.out w1 hgrow; have x4 := g0.2.2.2.1; have f4 := g0.2.2.2.2)
    all_goals
      have b0 : (w1.setCell ⟨w.heap.size, 4, none⟩ (.slice pv n cv)).heap[w.heap.size]? = some (.cells #[.int .i64 kind, .int .i64 num, .int .i64 dep, .string nm, .slice pv n cv, .string tx, .int .i64 fr, .int .i64 be] 71 (0, 0)) := Go.Joins.block_setCell (i := 4) g0.1 _
      have b1 := (Below.heap_setCell w1 ⟨w.heap.size, 4, none⟩ (.slice pv n cv) (w.heap.size + 1) (by show w.heap.size + 1 ≠ w.heap.size; omega)).trans g0.2.1
      have r0 : (w1.setCell ⟨w.heap.size, 4, none⟩ (.slice pv n cv)).rangeAt w.heap.size 0 [.int .i64 kind, .int .i64 num, .int .i64 dep, .string nm, .slice pv n cv, .string tx, .int .i64 fr, .int .i64 be] := Tr.range_of b0
      have r1 : (w1.setCell ⟨w.heap.size, 4, none⟩ (.slice pv n cv)).there (w.heap.size + 1) 0 8 := Tr.there_of b1
      have o1 : (#[.int .i64 kind, .int .i64 num, .int .i64 dep, .string nm, .slice pv n cv, .string tx, .int .i64 fr, .int .i64 be] : Array Value).all (·.oneCell') = true := all_oneCell_toArray (Tr.cs_one (e := ⟨kind, num, dep, nm, .slice pv n cv, ats, tx, fr, be⟩) rfl)
      have O1 := hide' o1
      have B1 := hide' b1
      have R0 := hide' r0
      have R1 := hide' r1
      have G0 := hide' g0
      have HOWN := hide' hown
      have HGW := hide' hgrow
      have HAT := hide' hat
      clear o1 b0 b1 r0 r1 g0 hown hgrow hnil hat HGR HNW HOW HBS x4 f4
      go_wp2_with (first | refine wpList_load_mid rfl 71 (.tmp 1) rfl w.heap.size 0 rfl [.int .i64 kind, .int .i64 num, .int .i64 dep, .string nm, .slice pv n cv, .string tx, .int .i64 fr, .int .i64 be] _ R0.out Tryz.underlying71 rfl Tr.evSize ?_ | refine wpList_store_mid rfl 71 (.tmp 2) (.tmp 14) rfl (w.heap.size + 1) 0 #[.int .i64 kind, .int .i64 num, .int .i64 dep, .string nm, .slice pv n cv, .string tx, .int .i64 fr, .int .i64 be] rfl rfl R1.out Tr.evSize O1.out ?_)
      refine bodyPost_ret (v := .agg #[.int .i64 kind, .int .i64 num, .int .i64 dep, .string nm, .slice pv n cv, .string tx, .int .i64 fr, .int .i64 be]) (Tr.results_cell Tryz.results57 _ ⟨w.heap.size + 1, 0, none⟩ rfl _ _ (run_loadVar_mid _ (w.heap.size + 1) 0 71 [.int .i64 kind, .int .i64 num, .int .i64 dep, .string nm, .slice pv n cv, .string tx, .int .i64 fr, .int .i64 be] _ (World.rangeAt_setCells_same _ _ _ _ R1.out) Tryz.underlying71 rfl Tr.evSize)) rfl ?_
      refine ⟨.slice pv n cv, rfl, ?_, (fun g hg => by have := (HOWN.out.lt g (by rw [Nat.zero_add]; exact hg)).1; omega), Tr.below_cells (Nat.le_succ _) _ _ _ (G0.out.2.2.1.setCell (p := ⟨w.heap.size, 4, none⟩) (Nat.le_refl _) _)⟩
      have h1 := HOWN.out
      rw [Nat.zero_add, List.nil_append] at h1
      refine (Tr.AtOwn.own h1 HN.out).keep fun g hg _ => ?_
      have hlt := (h1.lt g hg).1
      exact (Tr.heap_cells_far (by omega) _ _ _).trans (Below.heap_setCell _ _ _ _ (by show g ≠ w.heap.size; omega))
end Go.Proofs.YtfockjlegpbooaaGreatDoor
