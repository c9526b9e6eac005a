/-
  THE WALK over tree.copyAll.
-/
import Derived.Test.YtfockjlegpbooaaGreatDoorTrCopy
namespace Go.Proofs.YtfockjlegpbooaaGreatDoor
open Go.RowKit Go.Lib
namespace Tr
/-- the block L is a row of n events -/
def Blk (W : World) (L n : Nat) : Prop := ∃ cur, W.heap[L]? = some (.cells cur 71 (0, 0)) ∧ cur.size = n * 8
theorem Blk.below {W W' : World} {L n B : Nat} (h : Blk W L n) (hb : Below B W W') (hB : L < B) : Blk W' L n := by
  obtain ⟨cur, h1, h2⟩ := h
  exact ⟨cur, (hb.block L hB).trans h1, h2⟩
theorem Blk.cells {L n b : Nat} : ∀ (vs : List Value) (o : Nat) {W : World}, Blk W L n → Blk (W.setCells b o vs) L n
  | [], _, _, h => h
  | v :: r, o, W, h => by
    refine Blk.cells (b := b) r (o + 1) (W := W.setCell ⟨b, o, none⟩ v) ?_
    obtain ⟨cur, h1, h2⟩ := h
    by_cases c : L = b
    · subst c
      exact ⟨_, Go.Joins.block_setCell (i := o) h1 v, by simpa using h2⟩
    · exact ⟨cur, (Below.heap_setCell _ _ _ _ c).trans h1, h2⟩
/-- the first i of n events are copied into the block L -/
structure Cpy (w : World) (L n i : Nat) (E E' : Nat → Ev Value) (wr : World) : Prop where
  bel : Below w.heap.size w wr
  low : w.heap.size ≤ L
  lt : L < wr.heap.size
  there : wr.there L 0 (n * 8)
  rng : ∀ k, k < i → wr.rangeAt L (k * 8) (E' k).cs.toList
  eq : ∀ k, k < i → E' k = { E k with av := (E' k).av }
  att : ∀ k, k < i → AtOwn wr (E' k).av (E k).ats ∧ ∀ g, (E' k).av.ownBlock = some g → L < g
  blk : Blk wr L n
theorem rangeAt_below {w w' : World} {b o B : Nat} {cs : List Value} (h : w.rangeAt b o cs) (hb : Below B w w') (hB : b < B) : w'.rangeAt b o cs := fun j v hj => (hb.cell (p := ⟨b, o + j, none⟩) hB).trans (h j v hj)
theorem there_below {w w' : World} {b o n B : Nat} (h : w.there b o n) (hb : Below B w w') (hB : b < B) : w'.there b o n := fun j hj => by
  obtain ⟨h1, h2⟩ := h j hj
  refine ⟨by rw [hb.cell (p := ⟨b, o + j, none⟩) hB]; exact h1, ?_⟩
  rw [World.frozen?_of_block (a := ⟨b, o + j, none⟩) (hb.block b hB)]
  exact h2
theorem there_sub {w : World} {b n o m : Nat} (h : w.there b 0 n) (hm : o + m ≤ n) : w.there b o m := fun j hj => by
  have := h (o + j) (by omega)
  rw [Nat.zero_add] at this
  exact this
theorem Cpy.step {w : World} {L n i : Nat} {E E' : Nat → Ev Value} {wr W : World} {av : Value} (h : Cpy w L n i E E' wr) (hb : Below wr.heap.size wr W) (hA : AtOwn W av (E i).ats) (hg : ∀ g, av.ownBlock = some g → wr.heap.size ≤ g) (hi : i < n) :
    Cpy w L n (i + 1) E (fun k => if k = i then { E i with av := av } else E' k) (W.setCells L (i * 8) (Ev.cs { E i with av := av }).toList) := by
  have hlt := h.lt
  have hth := there_below h.there hb hlt
  have hsz : (W.setCells L (i * 8) (Ev.cs { E i with av := av }).toList).heap.size = W.heap.size := by
    generalize (Ev.cs { E i with av := av }).toList = vs
    generalize i * 8 = o
    clear hA hg hi hb hth
    induction vs generalizing o W with
    | nil => rfl
    | cons v r ih => exact (ih (W := W.setCell ⟨L, o, none⟩ v) (o + 1)).trans (by simp [World.setCell])
  have keepA : ∀ {v : Value} {l : List (ByteArray × ByteArray)}, AtOwn W v l → (∀ g, v.ownBlock = some g → L < g) → AtOwn (W.setCells L (i * 8) (Ev.cs { E i with av := av }).toList) v l := fun {v l} hv hL => hv.keep fun g hg _ => by
    have := hL g hg
    exact heap_cells_far (by omega) _ _ _
  refine ⟨below_cells h.low _ _ _ (h.bel.trans (hb.mono h.bel.size)), h.low, by rw [hsz]; have := hb.size; omega, World.there_setCells hth _ _ _, fun k hk => ?_, fun k hk => ?_, fun k hk => ?_, (h.blk.below hb hlt).cells _ _⟩
  · by_cases c : k = i
    · subst c
      rw [if_pos rfl]
      exact World.rangeAt_setCells_same _ _ _ _ (there_sub hth (by show k * 8 + 8 ≤ _; omega))
    · rw [if_neg c]
      exact World.rangeAt_setCells_apart (rangeAt_below (h.rng k (by omega)) hb hlt) _ _ _ (.inr (.inl (by show k * 8 + 8 ≤ _; omega)))
  · by_cases c : k = i
    · subst c
      rw [if_pos rfl]
    · rw [if_neg c]
      exact h.eq k (by omega)
  · by_cases c : k = i
    · subst c
      rw [if_pos rfl]
      have hL : ∀ g, av.ownBlock = some g → L < g := fun g e => by have := hg g e; omega
      exact ⟨keepA hA hL, hL⟩
    · rw [if_neg c]
      have hk2 := h.att k (by omega)
      exact ⟨keepA (hk2.1.below hb (Nat.le_refl _)) hk2.2, hk2.2⟩
theorem Cpy.evs {w : World} {L n : Nat} {E E' : Nat → Ev Value} {wr : World} (h : Cpy w L n n E E' wr) (hn : n ≤ 1466015503658) : Evs wr (.slice (some ⟨L, 0, none⟩) n n) n E' := by
  refine ⟨⟨_, n, rfl, Nat.le_refl _, by omega, (fun e => by cases e), fun _ => ⟨L, 0, rfl, fun i j u hi hu => ?_⟩⟩, fun i hi => ?_⟩
  · rw [Nat.zero_add]
    exact h.rng i hi j u (by rw [Array.getElem?_toList]; exact hu)
  · have := (h.att i hi).1.row
    rw [h.eq i hi]
    exact this
theorem Cpy.owns {w : World} {L n : Nat} {E E' : Nat → Ev Value} {wr : World} (h : Cpy w L n n E E' wr) (hn : n ≤ 1466015503658) : ∃ xs, wr.ownsRow w.heap.size 71 8 (.slice (some ⟨L, 0, none⟩) n n) n xs := by
  obtain ⟨cur, h1, h2⟩ := h.blk
  exact ⟨cur.toList, by simp [h2], .inr ⟨L, n, cur, rfl, h.low, h1, Nat.le_refl _, by unfold maxLen; omega, h2, by rw [← h2, ← Array.length_toList, List.take_length]⟩⟩
/-- what copyAll answers -/
def CopyAllE (E : Nat → Ev Value) (n : Nat) (w : World) (r : Ending) (w' : World) : Prop :=
  ∃ L E', r = .returned (.slice (some ⟨L, 0, none⟩) n n) ∧ Cpy w L n n E E' w'
end Tr
set_option maxRecDepth 100000 in
set_option maxHeartbeats 1000000 in
theorem trCopyAll (v : Value) (n : Nat) (E : Nat → Tr.Ev Value) (w : World) (hE : Tr.Evs w v n E) (hs : ∀ i, i < n → Tr.Small (E i)) (hn : n ≤ 1466015503658) :
    Calls Tryz.prog 29 #[v] w fun r w' => Tr.CopyAllE E n w r w' := by
  obtain ⟨i0, hi0, hz0, hz1, hz2⟩ := info_parts Tr.evInfo
  obtain ⟨MC, hMC, hmk⟩ : ∃ MC : Array Value, MC.size = n * 8 ∧ ∀ W : World, (Instr.makeSlice 22 (.int .i64 (n : Nat)) (.int .i64 (n : Nat))).run Tryz.prog W = .ok (.slice (some ⟨W.heap.size, 0, none⟩) n n) (W.alloc (.cells MC 71)) := by
    refine ⟨madeCells (Value.agg Tr.ev0).cells (n * i0.size), by rw [size_madeCells, hz1], fun W => ?_⟩
    have h := run_make (P := Tryz.prog) W 22 71 i0 _ Tryz.underlying22 hi0 hz0 .i64 .i64 (n : Nat) (n : Nat) (by omega) (by omega) (by rw [hz2]; omega) (by omega)
    simpa using h
  have cC : ∀ (i : Nat) w1, i < n → Below w.heap.size w w1 → _ := fun i w1 h hb => trCopyOf (E i) w1 (hs i h).2.2.1 ((hE.att i h).below hb (Nat.le_refl _))
  have hav : ∀ i, i < n → ∃ pa na ca, (E i).av = .slice pa na ca := fun i h => by
    obtain ⟨pa, ca, e, _⟩ := hE.att i h
    exact ⟨pa, _, ca, e⟩
  have hrow := hE.row.at
  obtain ⟨p0, cap0, rfl, r1, r2, _⟩ := hE.row
  have hb0 := (Below.refl w.heap.size w).alloc (Nat.le_refl _) (.cells MC 71)
  have hst : Tr.Cpy w w.heap.size n 0 E E (w.alloc (.cells MC 71)) := ⟨hb0, Nat.le_refl _, by simp, by rw [← hMC]; exact Tr.there_of (heap_alloc_new w _), fun k hk => absurd hk (by omega), fun k hk => absurd hk (by omega), fun k hk => absurd hk (by omega), MC, heap_alloc_new w _, hMC⟩
  have CC := hide' cC
  have HR := hide' hrow
  have HV := hide' hav
  have HST := hide' hst
  clear hE hs cC hrow hav hst hb0 hMC
  go_enter Tryz.func29, Tryz.ntmps29
  go_wp2_with fail
  go_loopw [11] (fun v wr => ∃ (i : Nat) (E' : Nat → Tr.Ev Value), v = .int .i64 i ∧ i ≤ n ∧ Hid (Tr.Cpy w w.heap.size n i E E' wr)) (fun v _ => n - (RowKit.intOf v).toNat)
  case atStart => exact ⟨0, E, rfl, Nat.zero_le _, HST⟩
  case round =>
    obtain ⟨i, E', rfl, hi, HL⟩ := hrel
    by_cases hlt : i < n
    · have t1 : (i : Int) < (n : Int) := by omega
      obtain ⟨b0, o0, cap0', e0, r1', r2', ka⟩ := HR.out (by omega)
      obtain ⟨rfl, rfl⟩ : p0 = some ⟨b0, o0, none⟩ ∧ cap0 = cap0' := by cases e0; exact ⟨rfl, rfl⟩
      obtain ⟨k0, k1, k2, k3, k4, k5, k6, k7⟩ := ka i hlt
      have kk : ∀ {a : Addr} {u}, w.cell? a = some u → wr.cell? a = some u := fun {a u} hu => (HL.out.bel.cell (p := a) (block_lt_of_cell hu)).trans hu
      have q0 := kk k0
      have q1 := kk k1
      have q2 := kk k2
      have q3 := kk k3
      have q4 := kk k4
      have q5 := kk k5
      have q6 := kk k6
      have q7 := kk k7
      have hbA := HL.out.bel.alloc HL.out.bel.size (.cells (E i).cs 71)
      have hrA : Below wr.heap.size wr (wr.alloc (.cells (E i).cs 71)) := (Below.refl _ _).alloc (Nat.le_refl _) _
      have hbx := Tr.Box.new wr (E i) 71
      have cCi := CC.out i _ hlt hbA
      have hav := HV.out i hlt
      have hth := HL.out.there
      have hlw := HL.out.lt
      obtain ⟨e, he⟩ : ∃ e, E i = e := ⟨_, rfl⟩
      simp only [he] at q0 q1 q2 q3 q4 q5 q6 q7 hav hbA hrA hbx cCi
      have HE := hide' he
      have HTH := hide' hth
      have HLW := hide' hlw
      clear k0 k1 k2 k3 k4 k5 k6 k7 kk ka CC HR HV he e0 hth hlw
      obtain ⟨kind, num, dep, nm, av, ats, tx, fr, be⟩ := e
      dsimp only at hav
      obtain ⟨pa, na, ca, rfl⟩ := hav
      simp only [Tr.Ev.cs] at hbA hrA hbx cCi
      dsimp only at q0 q1 q2 q3 q4 q5 q6 q7
      obtain ⟨z0, z1, z2, z3, z4, z5, z6, z7⟩ := hbx
      have HBA := hide' hbA
      have HRA := hide' hrA
      have cD : Calls _ _ _ _ (fun r w' => ∃ pa' ca' CA, r = .returned (.agg CA) ∧ Hid (CA = #[.int .i64 kind, .int .i64 num, .int .i64 dep, .string nm, .slice pa' ats.length ca', .string tx, .int .i64 fr, .int .i64 be]) ∧ Tr.AtOwn w' (.slice pa' ats.length ca') ats ∧ (∀ g, (Value.slice pa' ats.length ca').ownBlock = some g → wr.heap.size ≤ g) ∧ Below wr.heap.size wr w') := Calls.mono cCi (fun r w' h => by
        obtain ⟨av', h1, h2, h3, h4⟩ := h
        obtain ⟨pa', ca', e', _⟩ := h2.row
        subst e'
        exact ⟨pa', ca', _, h1, rfl, h2, fun g hg => by have := h3 g hg; simp at this; omega, hrA.trans (h4.mono hrA.size)⟩)
      have CC := hide' cD
      have HLT := hide' hlt
      clear hbA hrA cCi cD hlt
      go_wp2_with fail
      refine CC.out.mono ?_
      rintro r w1 ⟨pa', ca', CA, rfl, HCA, hA1, hg1, hb1⟩
      have hT : w1.there w.heap.size (i * 8) CA.size := by
        rw [HCA.out]
        exact Tr.there_sub (m := 8) (Tr.there_below HTH.out hb1 HLW.out) (by have := HLT.out; omega)
      have o1 : CA.all (·.oneCell') = true := by
        rw [HCA.out]
        exact all_oneCell_toArray (Tr.cs_one (e := ⟨kind, num, dep, nm, .slice pa' ats.length ca', ats, tx, fr, be⟩) rfl)
      have HA1 := hide' hA1
      have HG1 := hide' hg1
      have HB1 := hide' hb1
      have i1 : (Tryz.prog.info? 71).map (·.size) = some CA.size := by rw [HCA.out]; exact Tr.evSize
      have I1 := hide' i1
      have HT := hide' hT
      have O1 := hide' o1
      clear i1 hT o1 hA1 hg1 hb1 CC HTH z0 z1 z2 z3 z4 z5 z6 z7 q0 q1 q2 q3 q4 q5 q6 q7
      go_wp2_with (first | refine wpList_store_mid rfl 71 (.tmp 20) (.tmp 19) rfl w.heap.size (i * 8) CA rfl rfl HT.out I1.out O1.out ?_)
      have hS := HL.out.step (av := .slice pa' ats.length ca') HB1.out (by rw [HE.out]; exact HA1.out) HG1.out HLT.out
      rw [HE.out] at hS
      rw [HCA.out]
      exact ⟨⟨i + 1, _, rfl, HLT.out, hS⟩, by have := HLT.out; simp [RowKit.intOf]; omega⟩
    · have t1 : ¬ (i : Int) < (n : Int) := by omega
      obtain rfl : i = n := by omega
      clear CC HR HV HST
      go_wp2_with fail
      go_ret
      exact ⟨w.heap.size, E', rfl, HL.out⟩
end Go.Proofs.YtfockjlegpbooaaGreatDoor
