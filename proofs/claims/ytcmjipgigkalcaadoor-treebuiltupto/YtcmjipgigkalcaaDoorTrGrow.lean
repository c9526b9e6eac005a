/-
  THE WALK over tree.grow.
-/
import Derived.Test.YtcmjipgigkalcaaDoorTrCopyB
namespace Go.Proofs.YtcmjipgigkalcaaDoor
open Go.RowKit Go.Lib
namespace Tr
/-- the cells of nodes -/
def Nd.cs (d : Nd) : List Value := [.int .i64 d.par, .int .i64 d.beh, .int .i64 d.fst, .int .i64 d.fin]
def ncs (l : List Nd) : List Value := l.flatMap Nd.cs
theorem ncs_length : ∀ l, (ncs l).length = l.length * 4
  | [] => rfl
  | d :: l => by
    show (d.cs ++ ncs l).length = _
    rw [List.length_append, ncs_length l, List.length_cons]
    show 4 + _ = _
    omega
theorem ncs_app (l : List Nd) (d : Nd) : ncs (l ++ [d]) = ncs l ++ d.cs := by simp [ncs]
theorem ncs_get : ∀ (l : List Nd) (k : Nat) (d : Nd) (j : Nat), l[k]? = some d → j < 4 → (ncs l)[k * 4 + j]? = d.cs[j]?
  | [], k, d, j, h, _ => by simp at h
  | a :: l, 0, d, j, h, hj => by
    obtain rfl : a = d := by simpa using h
    show (a.cs ++ ncs l)[0 * 4 + j]? = _
    rw [List.getElem?_append_left (by show _ < 4; omega), Nat.zero_mul, Nat.zero_add]
  | a :: l, k + 1, d, j, h, hj => by
    show (a.cs ++ ncs l)[(k + 1) * 4 + j]? = _
    rw [List.getElem?_append_right (by show 4 ≤ _; omega)]
    have := ncs_get l k d j (by simpa using h) hj
    rw [← this]
    congr 1
    show (k + 1) * 4 + j - 4 = _
    omega
theorem ncs_set : ∀ (l : List Nd) (k : Nat) (d : Nd) (b z : Int), l[k]? = some d → ((ncs l).set (k * 4 + 1) (.int .i64 b)).set (k * 4 + 3) (.int .i64 z) = ncs (l.set k ⟨d.par, b, d.fst, z⟩)
  | [], k, d, b, z, h => by simp at h
  | a :: l, 0, d, b, z, h => by
    obtain rfl : a = d := by simpa using h
    rfl
  | a :: l, k + 1, d, b, z, h => by
    have ih := ncs_set l k d b z (by simpa using h)
    show ((a.cs ++ ncs l).set ((k + 1) * 4 + 1) _).set ((k + 1) * 4 + 3) _ = a.cs ++ ncs (l.set k _)
    rw [← ih]
    rw [List.set_append_right _ _ (by show 4 ≤ _; omega), List.set_append_right _ _ (by show 4 ≤ _; omega)]
    congr 2
    · congr 1
      show (k + 1) * 4 + 1 - 4 = _
      omega
    · show (k + 1) * 4 + 3 - 4 = _
      omega
theorem ncs_one (d : Nd) : ∀ u ∈ d.cs, u.oneCell' = true := by
  intro u hu
  simp [Nd.cs] at hu
  rcases hu with rfl | rfl | rfl | rfl <;> rfl
theorem ndInfo : (Tryd.prog.info? 65).map (fun i => (i.zero, i.size, i.bytes)) = some (some (.agg #[.int .i64 0, .int .i64 0, .int .i64 0, .int .i64 0]), 4, 32) := by kernel_rfl
theorem doc_all {V : Type} {ok : Ev V → Bool} {E : Nat → Ev V} {n : Nat} (h : doc ok E n = true) (i : Nat) (hi : i ≤ n) : ∃ s, drun ok E i = some s := by
  cases c : drun ok E i with
  | some s => exact ⟨s, rfl⟩
  | none =>
    have h4 := drun_stop c (n - i)
    rw [show i + (n - i) = n by omega] at h4
    unfold doc at h
    rw [h4] at h
    cases h
/-- a tree as it grows -/
structure GW (w : World) (v nv : Value) (g : Gs) (wr : World) : Prop where
  blk : wr.heap[w.heap.size]? = some (.cells #[v, nv] 61 (0, 0))
  row : wr.ownsRow (w.heap.size + 1) 65 4 nv g.ns.length (ncs g.ns)
  bel : Below w.heap.size w wr
theorem owns_far {w : World} {B : Nat} {e : TypeId} {size : Nat} {v : Value} {n : Nat} {ys : List Value} (h : w.ownsRow B e size v n ys) (a : Addr) (u : Value) (ha : a.block < B) : (w.setCell a u).ownsRow B e size v n ys := by
  refine ⟨h.1, ?_⟩
  rcases h.2 with h1 | ⟨g, cap, cur, hv, hb1, hg, rest⟩
  · exact .inl h1
  · exact .inr ⟨g, cap, cur, hv, hb1, (Below.heap_setCell _ _ _ _ (by omega)).trans hg, rest⟩
/-- a node more -/
theorem GW.push {w wr wB w3 : World} {v nv v' : Value} {g : Gs} {d : Nd} (l : Int) {m : Nat} (h : GW w v nv g wr) (hb : Below wr.heap.size wr wB) (hm : g.ns.length = m) (hown : w3.ownsRow (w.heap.size + 1) 65 4 v' (m + 1) (ncs g.ns ++ d.cs)) (hg : wB.grownBy w3 nv.ownBlock) :
    GW w v v' ⟨g.ns ++ [d], l⟩ (w3.setCell ⟨w.heap.size, 1, none⟩ v') ∧ w3.cell? ⟨w.heap.size, 1, none⟩ = some nv ∧ w3.frozen? ⟨w.heap.size, 1, none⟩ = false ∧ (∀ k, wr.heap.size ≤ k → k < wB.heap.size → w3.heap[k]? = wB.heap[k]?) := by
  have hD : w.heap.size < wr.heap.size := (Array.getElem?_eq_some_iff.1 h.blk).1
  have hlt := h.row.lt
  have hblk : w3.heap[w.heap.size]? = some (.cells #[v, nv] 61 (0, 0)) := by
    rw [hg.block w.heap.size (by have := hb.size; omega) (fun e => by have := (hlt _ e.symm).1; omega), hb.block w.heap.size hD]
    exact h.blk
  have hbel : Below w.heap.size w w3 := (h.bel.trans (hb.mono h.bel.size)).grown hg (by have := hb.size; omega) (fun k hk => by have := (hlt k hk).1; omega)
  refine ⟨⟨Go.Joins.block_setCell (i := 1) hblk _, ?_, hbel.setCell (p := ⟨w.heap.size, 1, none⟩) (Nat.le_refl _) _⟩, by rw [Lib.cell_of_heap hblk]; rfl, Lib.frozen_of_heap hblk 1, fun k h1 h2 => hg.block k h2 (fun e => by have := (hlt _ e.symm).2; omega)⟩
  rw [ncs_app, List.length_append, hm]
  exact owns_far hown _ _ (Nat.lt_succ_self _)
/-- a node closed -/
theorem GW.shut {w wr wB : World} {v : Value} {q cap k m : Nat} {g : Gs} {d : Nd} {b z : Int} (l : Int) (h : GW w v (.slice (some ⟨q, 0, none⟩) g.ns.length cap) g wr) (hb : Below wr.heap.size wr wB) (hm : g.ns.length = m) (hk : g.ns[k]? = some d) :
    GW w v (.slice (some ⟨q, 0, none⟩) m cap) ⟨g.ns.set k ⟨d.par, b, d.fst, z⟩, l⟩ ((wB.setCell ⟨q, k * 4 + 1, none⟩ (.int .i64 b)).setCell ⟨q, k * 4 + 3, none⟩ (.int .i64 z)) := by
  have hD : w.heap.size < wr.heap.size := (Array.getElem?_eq_some_iff.1 h.blk).1
  have hq := (h.row.lt q rfl).1
  have r1 := keepB h.row hb (Nat.le_refl _)
  have r2 := (r1.stored (k * 4 + 1) (.int .i64 b)).1
  have r3 := (r2.stored (k * 4 + 3) (.int .i64 z)).1
  rw [ncs_set _ _ _ _ _ hk] at r3
  refine ⟨?_, ?_, (((h.bel.trans (hb.mono h.bel.size)).setCell (p := ⟨q, k * 4 + 1, none⟩) (by show w.heap.size ≤ q; omega) _).setCell (p := ⟨q, k * 4 + 3, none⟩) (by show w.heap.size ≤ q; omega) _)⟩
  · rw [Below.heap_setCell _ _ _ _ (by show w.heap.size ≠ q; omega), Below.heap_setCell _ _ _ _ (by show w.heap.size ≠ q; omega), hb.block _ hD, ← hm]
    exact h.blk
  · rw [List.length_set, hm]
    rw [hm] at r3
    exact r3
end Tr
set_option maxRecDepth 100000 in
set_option maxHeartbeats 4000000 in
theorem trGrow (v : Value) (n : Nat) (E : Nat → Tr.Ev Value) (w : World) (hE : Tr.Evs w v n E) (hd : Tr.doc Tr.okB E n = true) (hn : n ≤ 1466015503658) :
    Calls Tryd.prog 24 #[v] w fun r w' => r = .returned (.pointer (some ⟨w.heap.size, 0, none⟩)) ∧ ∃ nv, Tr.GW w v nv (Tr.grun E n) w' := by
  obtain ⟨i0, hi0, hz0, hz1, hz2⟩ := info_parts Tr.ndInfo
  have hav : ∀ i, i < n → ∃ pa na ca, (E i).av = .slice pa na ca := fun i h => by
    obtain ⟨pa, ca, e, _⟩ := hE.att i h
    exact ⟨pa, _, ca, e⟩
  have hrow := hE.row.at
  obtain ⟨p0, cap0, rfl, r1, r2, _⟩ := hE.row
  have hb0 := (Below.refl w.heap.size w).alloc (Nat.le_refl _) (.cells #[.slice p0 n cap0, .slice none 0 0] 61)
  have hst : Tr.GW w (.slice p0 n cap0) (.slice none 0 0) (Tr.grun E 0) (w.alloc (.cells #[.slice p0 n cap0, .slice none 0 0] 61)) := ⟨heap_alloc_new w _, World.ownsRow_nil _ _ _ _, hb0⟩
  have HR := hide' hrow
  have HV := hide' hav
  have HST := hide' hst
  have HDC := hide' hd
  clear hE hrow hav hst hb0 hd
  go_enter Tryd.func24, Tryd.ntmps24
  go_wp2_with fail
  go_loopw [4, 13] (fun a v wr => ∃ (i : Nat) (nv : Value), v = .int .i64 i ∧ i ≤ n ∧ a = .int .i64 (Tr.grun E i).last ∧ Hid (Tr.GW w (.slice p0 n cap0) nv (Tr.grun E i) wr)) (fun _ v _ => n - (RowKit.intOf v).toNat)
  case atStart => exact ⟨0, .slice none 0 0, rfl, Nat.zero_le _, rfl, HST⟩
  case round =>
    obtain ⟨i, nv, rfl, hi, rfl, HL⟩ := hrel
    obtain ⟨p, cap, rfl, hmc, hcm, hg, hpn⟩ := Tr.owns_sl HL.out.row
    obtain ⟨s, hs⟩ := Tr.doc_all HDC.out i hi
    have hgi := Tr.grun_inv i s hs
    obtain ⟨g, hgg⟩ : ∃ g, Tr.grun E i = g := ⟨_, rfl⟩
    simp only [hgg] at HL hgi hmc hg hpn ⊢
    obtain ⟨m, hm⟩ : ∃ m, g.ns.length = m := ⟨_, rfl⟩
    have hm2 : m ≤ 1466015503658 := by have := hgi.ndi; have := hgi.len; omega
    simp only [hm] at hmc hg hpn ⊢
    obtain ⟨last, hla⟩ : ∃ l, g.last = l := ⟨_, rfl⟩
    simp only [hla]
    have hD : w.heap.size < wr.heap.size := (Array.getElem?_eq_some_iff.1 HL.out.blk).1
    have d0 : wr.cell? ⟨w.heap.size, 0, none⟩ = some (.slice p0 n cap0) := by rw [Lib.cell_of_heap HL.out.blk]; rfl
    have d1 : wr.cell? ⟨w.heap.size, 1, none⟩ = some (.slice p m cap) := by rw [Lib.cell_of_heap HL.out.blk, hm]; rfl
    have f1 : wr.frozen? ⟨w.heap.size, 1, none⟩ = false := Lib.frozen_of_heap HL.out.blk 1
    have HM := hide' hm
    have HLA := hide' hla
    have HG := hide' hg
    have HGG := hide' hgg
    have HGI := hide' hgi
    have HSS := hide' hs
    have HDW := hide' hD
    clear hm hla hg hgg hgi hs hD
    by_cases hlt : i < n
    · have t1 : (i : Int) < (n : Int) := by omega
      obtain ⟨b0, o0, cap0', e0, r1', r2', ka⟩ := HR.out (by omega)
      obtain ⟨rfl, rfl⟩ : p0 = some ⟨b0, o0, none⟩ ∧ cap0 = cap0' := by cases e0; exact ⟨rfl, rfl⟩
      obtain ⟨k0, k1, k2, k3, k4, k5, k6, k7⟩ := ka i hlt
      have kk : ∀ {a : Addr} {u}, w.cell? a = some u → wr.cell? a = some u := fun {a u} hu => (HL.out.bel.cell (p := a) (block_lt_of_cell hu)).trans hu
      have q0 := kk k0
      have q1 := kk k1
      have q2 := kk k2
      have q3 := kk k3
      have q4 := kk k4
      have q5 := kk k5
      have q6 := kk k6
      have q7 := kk k7
      have hav := HV.out i hlt
      obtain ⟨s', hs'⟩ := Tr.doc_all HDC.out (i + 1) hlt
      have hstp : Tr.dstep Tr.okB E s i = some s' := by
        unfold Tr.drun at hs'
        rw [HSS.out] at hs'
        exact hs'
      have hgs : Tr.grun E (i + 1) = Tr.gstep E g i := by
        show Tr.gstep E (Tr.grun E i) i = _
        rw [HGG.out]
      unfold Tr.dstep at hstp
      unfold Tr.gstep at hgs
      obtain ⟨e, he⟩ : ∃ e, E i = e := ⟨_, rfl⟩
      simp only [he] at q0 q1 q2 q3 q4 q5 q6 q7 hav hstp hgs
      have HE := hide' he
      clear k0 k1 k2 k3 k4 k5 k6 k7 kk ka HR HV he e0
      obtain ⟨kind, num, dep, nm, av, ats, tx, fr, be⟩ := e
      dsimp only at hav
      obtain ⟨pa, na, ca, rfl⟩ := hav
      dsimp only at q0 q1 q2 q3 q4 q5 q6 q7 hstp hgs
      have HGS := hide' hgs
      have HSP := hide' hstp
      have HLT := hide' hlt
      clear hgs hstp hlt hs'
      have HBA := hide' (HL.out.bel.alloc HL.out.bel.size (.cells #[.int .i64 kind, .int .i64 num, .int .i64 dep, .string nm, .slice pa na ca, .string tx, .int .i64 fr, .int .i64 be] 39))
      by_cases k0 : kind = 0
      · subst k0
        have hgs := HGS.out
        rw [if_pos rfl, HLA.out] at hgs
        have hrA : Below wr.heap.size wr (wr.alloc (.cells #[.int .i64 0, .int .i64 num, .int .i64 dep, .string nm, .slice pa na ca, .string tx, .int .i64 fr, .int .i64 be] 39)) := (Below.refl _ _).alloc (Nat.le_refl _) _
        have own := (Tr.keepB HL.out.row hrA (Nat.le_refl _)).alloc (.cells #[.int .i64 last, .int .i64 0, .int .i64 (i : Nat), .int .i64 0] 65)
        rw [HM.out] at own
        have OWN := hide' own
        have HL2 : Hid ((Tr.grun E (i + 1)).last = num) := by rw [hgs]; exact rfl
        have HGS2 := hide' hgs
        have HRA := hide' (hrA.alloc hrA.size (.cells #[.int .i64 last, .int .i64 0, .int .i64 (i : Nat), .int .i64 0] 65))
        clear own hgs hrA HSP HGS
        have hDW := HDW.out
        go_wp2_with (at_builtin; refine wpList_append_own _ rfl _ _ 59 rfl (w.heap.size + 1) 65 i0 (.agg #[.int .i64 0, .int .i64 0, .int .i64 0, .int .i64 0]) 4 32 Tryd.underlying59 hi0 hz0 hz1 hz2 rfl (by decide) _ m (Tr.ncs g.ns) rfl OWN.out ⟨wr.heap.size + 1, 0, none⟩ 1 1 (Tr.Nd.cs ⟨last, 0, i, 0⟩) rfl rfl ?c1 (Tr.ncs_one _) ?c3 ?c4 ?c5 ?_)
        case c1 =>
          intro j u hj
          match j, hj with
          | 0, hj | 1, hj | 2, hj | 3, hj => simp [Tr.Nd.cs] at hj; subst hj; simp [Addr.add]
        case c3 => unfold maxLen; omega
        case c4 => omega
        case c5 => have := HDW.out; simp; omega
        intro v' w3 hown' hgrow _
        obtain ⟨pv, cv, rfl, _⟩ := Tr.owns_sl hown'
        obtain ⟨hG, y1, y2, y3⟩ := HL.out.push num HRA.out HM.out hown' (by rw [HM.out]; exact hgrow)
        rw [HM.out] at y1
        have y4 : w3.cell? ⟨wr.heap.size, 1, none⟩ = some (.int .i64 num) := by
          have h1 := y3 wr.heap.size (Nat.le_refl _) (by simp; omega)
          rw [World.cell?_of_block (a := ⟨wr.heap.size, 1, none⟩) h1]
          simp
        have hne : ¬ wr.heap.size = w.heap.size := by omega
        have hne2 : ¬ w.heap.size = wr.heap.size := by omega
        rw [← HGS2.out] at hG
        have HGW := hide' hG
        clear hG hown' hgrow y3 OWN HRA HGS2
        go_wp2_with fail
        refine ⟨⟨i + 1, _, rfl, HLT.out, ?_, HGW⟩, by have := HLT.out; simp [RowKit.intOf]; omega⟩
        rw [HL2.out]
      have hfa : (kind = 1 ∧ num = m) ∨ (kind = 2 ∧ ∃ o, s.op.getLast? = some o) := by
        have h := HSP.out
        split at h
        · cases h
        split at h
        · next k1 =>
          split at h
          · next c =>
            have hl := HGI.out.len
            rw [HM.out] at hl
            exact .inl ⟨k1, by rw [c.2.2.1, hl]⟩
          · cases h
        · split at h
          · next k2 =>
            split at h
            · cases h
            · next o ho => exact .inr ⟨k2, o, ho⟩
          · cases h
      rcases hfa with ⟨k1, hnum⟩ | ⟨k2, o, ho⟩
      · subst k1
        obtain rfl := hnum
        have hgs := HGS.out
        rw [if_neg k0, if_pos rfl, HLA.out] at hgs
        clear k0
        have hrA : Below wr.heap.size wr (wr.alloc (.cells #[.int .i64 1, .int .i64 (m : Int), .int .i64 dep, .string nm, .slice pa na ca, .string tx, .int .i64 fr, .int .i64 be] 39)).drew := ((Below.refl _ _).alloc (Nat.le_refl _) _).drew
        have own := (Tr.keepB HL.out.row hrA (Nat.le_refl _)).alloc (.cells #[.int .i64 last, .int .i64 ((m : Int) + 1), .int .i64 (i : Nat), .int .i64 ((i : Int) + 1)] 65)
        rw [HM.out] at own
        have HRA := hide' (hrA.alloc hrA.size (.cells #[.int .i64 last, .int .i64 ((m : Int) + 1), .int .i64 (i : Nat), .int .i64 ((i : Int) + 1)] 65))
        have hnews : ∀ j u, (Tr.Nd.cs ⟨last, (m : Int) + 1, i, (i : Int) + 1⟩)[j]? = some u → ((wr.alloc (.cells #[.int .i64 1, .int .i64 (m : Int), .int .i64 dep, .string nm, .slice pa na ca, .string tx, .int .i64 fr, .int .i64 be] 39)).drew.alloc (.cells #[.int .i64 last, .int .i64 ((m : Int) + 1), .int .i64 (i : Nat), .int .i64 ((i : Int) + 1)] 65)).cell? (Addr.add ⟨wr.heap.size + 1, 0, none⟩ j) = some u := by
          intro j u hj
          have hsz : (wr.alloc (.cells #[.int .i64 1, .int .i64 (m : Int), .int .i64 dep, .string nm, .slice pa na ca, .string tx, .int .i64 fr, .int .i64 be] 39)).drew.heap.size = wr.heap.size + 1 := by simp
          rw [Go.WideShapes.add_plain, ← hsz, Lib.cell_of_heap (heap_alloc_new _ _), Nat.zero_add]
          simpa [Tr.Nd.cs] using hj
        have hbs : w.heap.size + 1 ≤ ((wr.alloc (.cells #[.int .i64 1, .int .i64 (m : Int), .int .i64 dep, .string nm, .slice pa na ca, .string tx, .int .i64 fr, .int .i64 be] 39)).drew.alloc (.cells #[.int .i64 last, .int .i64 ((m : Int) + 1), .int .i64 (i : Nat), .int .i64 ((i : Int) + 1)] 65)).heap.size := by have := HDW.out; simp; omega
        have hpush : ∀ (v' : Value) (w3 : World), w3.ownsRow (w.heap.size + 1) 65 4 v' (m + 1) (Tr.ncs g.ns ++ Tr.Nd.cs ⟨last, (m : Int) + 1, i, (i : Int) + 1⟩) → ((wr.alloc (.cells #[.int .i64 1, .int .i64 (m : Int), .int .i64 dep, .string nm, .slice pa na ca, .string tx, .int .i64 fr, .int .i64 be] 39)).drew.alloc (.cells #[.int .i64 last, .int .i64 ((m : Int) + 1), .int .i64 (i : Nat), .int .i64 ((i : Int) + 1)] 65)).grownBy w3 (Value.slice p m cap).ownBlock → Tr.GW w (.slice (some ⟨b0, o0, none⟩) n cap0) v' (Tr.grun E (i + 1)) (w3.setCell ⟨w.heap.size, 1, none⟩ v') ∧ w3.cell? ⟨w.heap.size, 1, none⟩ = some (.slice p m cap) ∧ w3.frozen? ⟨w.heap.size, 1, none⟩ = false := fun v' w3 h1 h2 => by
          obtain ⟨hG, y1, y2, _⟩ := HL.out.push last HRA.out HM.out h1 (by rw [HM.out]; exact h2)
          rw [HM.out] at y1
          refine ⟨?_, y1, y2⟩
          rw [hgs]
          exact hG
        have OWN := hide' own
        have HNW := hide' hnews
        have HBS := hide' hbs
        have HPU := hide' hpush
        have HL2 : Hid ((Tr.grun E (i + 1)).last = last) := by rw [hgs]; exact rfl
        clear own hgs hrA HSP HGS hnews hbs hpush
        have hDW := HDW.out
        have e1 : IntKind.i64.wrap ((m : Int) + 1) = (m : Int) + 1 := by rw [IntKind.wrap_i64]; omega
        have e2 : IntKind.i64.wrap ((i : Int) + 1) = (i : Int) + 1 := by rw [IntKind.wrap_i64]; omega
        have e3 : m + 1 ≤ maxLen := by unfold maxLen; omega
        have e4 : (m + 1) * 32 ≤ 140737488355328 := by omega
        have E3 := hide' e3
        have E4 := hide' e4
        clear e3 e4
        go_wp2_with fail
        go_region_law (refine Tr.step_append_at ((wr.alloc (.cells #[.int .i64 1, .int .i64 (m : Int), .int .i64 dep, .string nm, .slice pa na ca, .string tx, .int .i64 fr, .int .i64 be] 39)).drew.alloc (.cells #[.int .i64 last, .int .i64 ((m : Int) + 1), .int .i64 (i : Nat), .int .i64 ((i : Int) + 1)] 65)) rfl (.tmp 42) (.tmp 51) 59 rfl (w.heap.size + 1) 65 i0 (.agg #[.int .i64 0, .int .i64 0, .int .i64 0, .int .i64 0]) 4 32 Tryd.underlying59 hi0 hz0 hz1 hz2 rfl (by decide) (.slice p m cap) m (Tr.ncs g.ns) (by simp [Act.eval]) OWN.out ⟨wr.heap.size + 1, 0, none⟩ 1 1 (Tr.Nd.cs ⟨last, (m : Int) + 1, i, (i : Int) + 1⟩) (by simp [Act.eval]) rfl HNW.out (Tr.ncs_one _) E3.out E4.out HBS.out ?_; intro v' w3 hown hgrow hnil hat; obtain ⟨pv, cv, rfl, _⟩ := Tr.owns_sl hown; have g0 := HPU.out _ w3 hown hgrow; have x4 := g0.2.1; have f4 := g0.2.2)
        all_goals
          have HGW := hide' g0.1
          clear g0 hown hgrow hnil hat x4 f4 OWN HRA HPU HNW HBS
          go_wp2_with fail
          refine ⟨⟨i + 1, _, rfl, HLT.out, ?_, HGW⟩, by have := HLT.out; simp [RowKit.intOf]; omega⟩
          rw [HL2.out]
      · subst k2
        obtain ⟨k, hk1, hk2, _, _⟩ := HGI.out.close ho
        have hlen := HGI.out.len
        obtain ⟨d, hd⟩ : ∃ d, g.ns[k]? = some d := ⟨_, List.getElem?_eq_getElem (by omega)⟩
        have hgs := HGS.out
        rw [if_neg (by decide), if_neg (by decide), hk1, Int.toNat_natCast, hd, HM.out] at hgs
        dsimp only [Option.getD] at hgs
        rw [HLA.out] at hk1
        subst hk1
        have hkm : k < m := by rw [HM.out] at hlen; omega
        obtain ⟨q, rfl⟩ := HG.out (by omega)
        have hrA : Below wr.heap.size wr (wr.alloc (.cells #[.int .i64 2, .int .i64 num, .int .i64 dep, .string nm, .slice pa na ca, .string tx, .int .i64 fr, .int .i64 be] 39)) := (Below.refl _ _).alloc (Nat.le_refl _) _
        have own := Tr.keepB HL.out.row hrA (Nat.le_refl _)
        have cel : ∀ j u, j < 4 → d.cs[j]? = some u → (wr.alloc (.cells #[.int .i64 2, .int .i64 num, .int .i64 dep, .string nm, .slice pa na ca, .string tx, .int .i64 fr, .int .i64 be] 39)).cell? ⟨q, k * 4 + j, none⟩ = some u := fun j u hj hu => by
          have h1 := own.cells (g := q) rfl (k * 4 + j) u (by rw [Tr.ncs_get _ _ _ _ hd hj]; exact hu)
          rw [Go.WideShapes.add_plain, Nat.zero_add] at h1
          exact h1
        have y0 : (wr.alloc (.cells #[.int .i64 2, .int .i64 num, .int .i64 dep, .string nm, .slice pa na ca, .string tx, .int .i64 fr, .int .i64 be] 39)).cell? ⟨q, k * 4, none⟩ = some (.int .i64 d.par) := cel 0 _ (by omega) rfl
        have y1 : (wr.alloc (.cells #[.int .i64 2, .int .i64 num, .int .i64 dep, .string nm, .slice pa na ca, .string tx, .int .i64 fr, .int .i64 be] 39)).cell? ⟨q, k * 4 + 1, none⟩ = some (.int .i64 d.beh) := cel 1 _ (by omega) rfl
        have y3 : (wr.alloc (.cells #[.int .i64 2, .int .i64 num, .int .i64 dep, .string nm, .slice pa na ca, .string tx, .int .i64 fr, .int .i64 be] 39)).cell? ⟨q, k * 4 + 3, none⟩ = some (.int .i64 d.fin) := cel 3 _ (by omega) rfl
        have z1 : (wr.alloc (.cells #[.int .i64 2, .int .i64 num, .int .i64 dep, .string nm, .slice pa na ca, .string tx, .int .i64 fr, .int .i64 be] 39)).frozen? ⟨q, k * 4 + 1, none⟩ = false := own.frozenAt _
        have z3 : (wr.alloc (.cells #[.int .i64 2, .int .i64 num, .int .i64 dep, .string nm, .slice pa na ca, .string tx, .int .i64 fr, .int .i64 be] 39)).frozen? ⟨q, k * 4 + 3, none⟩ = false := own.frozenAt _
        have HGW := hide' (HL.out.shut (d := d) (b := (m : Int)) (z := (i : Int) + 1) d.par hrA HM.out hd)
        rw [← hgs] at HGW
        have HL2 : Hid ((Tr.grun E (i + 1)).last = d.par) := by rw [hgs]; exact rfl
        clear own cel hgs hrA HSP HGS hd hlen
        have hDW := HDW.out
        have e2 : IntKind.i64.wrap ((i : Int) + 1) = (i : Int) + 1 := by rw [IntKind.wrap_i64]; omega
        have e3 : (k : Int) < (m : Int) := by omega
        have e4 : 0 ≤ (k : Int) := by omega
        go_wp2_with fail
        refine ⟨⟨i + 1, _, rfl, HLT.out, ?_, HGW⟩, by have := HLT.out; simp [RowKit.intOf]; omega⟩
        rw [HL2.out]
    · have t1 : ¬ (i : Int) < (n : Int) := by omega
      obtain rfl : i = n := by omega
      clear HR HV HST d0 d1 f1
      go_wp2_with fail
      go_ret
      have h := HL.out
      rw [← HGG.out] at h
      exact ⟨rfl, _, h⟩
end Go.Proofs.YtcmjipgigkalcaaDoor
