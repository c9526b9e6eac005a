/-
  THE WALK over the document's Nodes of layer 9. (Made by gen_nodes.py.)
-/
import Derived.Test.YtcmjipgigkalcaaDoorTrNodesM
namespace Go.Proofs.YtcmjipgigkalcaaDoor
open Go.RowKit Go.Shelf Go.Lib
set_option maxRecDepth 100000 in
set_option maxHeartbeats 8000000 in
theorem refNodes9 (v : Value) (n : Nat) (E : Nat → Tr.Ev Value) (w : World) (hE : Tr.Evs w v n E) (hs : ∀ i, i < n → Tr.Tiny (E i)) (hn : n ≤ 1048576) (hd : Tr.doc Tr.okB E n = true) :
    Calls Tryd.prog 9 #[v] w fun r w' => ∃ u, r = .returned u ∧ Tr.NRow w' u (Tr.rrun E n).nd (fun j => Tr.rnd E ((Tr.rrun E n).L j)) ∧ Below w.heap.size w w' := by
  obtain ⟨i0, hi0, hz0, hz1, hz2⟩ := info_parts Tr.intInfo
  obtain ⟨j0, hj0, jz0, jz1, jz2⟩ := info_parts Tr.rnInfo
  have hav : ∀ i, i < n → ∃ pa na ca, (E i).av = .slice pa na ca := fun i h => by
    obtain ⟨pa, ca, e, _⟩ := hE.att i h
    exact ⟨pa, _, ca, e⟩
  have hval := Tr.rrun_val hs
  have htx : ∀ i, i < n → (E i).tx.size ≤ 1048576 := fun i h => (hs i h).2.1
  have hrow := hE.row.at
  obtain ⟨p0, cap0, rfl, r1, r2, _⟩ := hE.row
  have HV := hide' hav
  have HVAL := hide' hval
  have HTX := hide' htx
  have HR := hide' hrow
  have HDC := hide' hd
  clear hE hs hrow hav hval hd htx
  go_enter Tryd.func9, Tryd.ntmps9
  go_wp2_with fail
  go_loopw [3, 4, 5] (fun a b v wr => ∃ i : Nat, v = .int .i64 i ∧ i ≤ n ∧ Hid (Tr.NS w E (Tr.rrun E i).nd (Tr.rrun E i).op (Tr.rrun E i).L a b wr)) (fun _ _ v _ => n - (RowKit.intOf v).toNat)
  case atStart => exact ⟨0, rfl, Nat.zero_le _, hide' ⟨World.ownsRow_nil _ _ _ _, World.ownsRow_nil _ _ _ _, Below.refl _ _⟩⟩
  case round =>
    obtain ⟨i, rfl, hi, HL0⟩ := hrel
    obtain ⟨s, hrun⟩ := Tr.doc_all HDC.out i hi
    have hri := Tr.rrun_inv i s hrun
    have hgi := Tr.grun_inv i s hrun
    by_cases hlt : i < n
    · have t1 : (i : Int) < (n : Int) := by omega
      obtain ⟨s', hs'⟩ := Tr.doc_all HDC.out (i + 1) hlt
      have hstp : Tr.dstep Tr.okB E s i = some s' := by
        unfold Tr.drun at hs'
        rw [hrun] at hs'
        exact hs'
      have hcase0 := Tr.rrun_next hri hgi hstp
      have hval := HVAL.out i hi
      have htx := HTX.out i hlt
      have hnodup : ∀ k k' p, (Tr.rrun E i).op[k]? = some p → (Tr.rrun E i).op[k']? = some p → k = k' := fun k k' p h1 h2 => hri.inj hgi h1 h2
      have hplt : ∀ k p : Nat, (Tr.rrun E i).op[k]? = some p → p < (Tr.rrun E i).nd := fun k p h1 => by rw [hri.nd]; exact (hri.dpk hgi h1).1
      have hnd0 : (Tr.rrun E i).nd ≤ 1048576 := by rw [hri.nd]; have := hgi.ndi; omega
      have hop0 : (Tr.rrun E i).op.length ≤ 1048576 := by rw [hri.op, List.length_map]; have := Tr.drun_op i s hrun; rw [← hri.nd] at this; omega
      have hpush : ∀ {W2 w4 : World} {v' v o : Value} {ob : Obj} {cs : List Value}, Tr.NS w E (Tr.rrun E i).nd (Tr.rrun E i).op (Tr.rrun E i).L v o wr → Below wr.heap.size wr W2 → cs = (Tr.rnd E (Tr.rnew E (Tr.rrun E i) i)).cs.toList → w4.ownsRow w.heap.size 46 13 v' ((Tr.rrun E i).nd + 1) (Tr.rcs E (Tr.rrun E i).L (Tr.rrun E i).nd ++ cs) → (W2.alloc ob).grownBy w4 v.ownBlock → _ := fun hl h1 h2 h3 h4 => Tr.NS.push hl h1 h2 h3 h4
      clear hri hgi hstp hs' hrun
      obtain ⟨r, hrr⟩ : ∃ r, Tr.rrun E i = r := ⟨_, rfl⟩
      simp only [hrr] at HL0 hcase0 hval hnodup hplt hnd0 hop0 hpush
      obtain ⟨p, cap, rfl, hmc, hcm, hg, hpn⟩ := Tr.owns_sl HL0.out.lst
      obtain ⟨po, capo, rfl, hoc, hocm, hgo, hpon⟩ := Tr.owns_sl HL0.out.opn
      obtain ⟨m, hm⟩ : ∃ m, r.op.length = m := ⟨_, rfl⟩
      obtain ⟨nd, hnd⟩ : ∃ nd, r.nd = nd := ⟨_, rfl⟩
      simp only [hm, hnd] at HL0 hcase0 hplt hnd0 hop0 hpush hmc hg hpn hoc hgo hpon ⊢
      have HL : Hid (Tr.NS w E nd r.op r.L (.slice p nd cap) (.slice po m capo) wr) := HL0
      have HN := hide' (show r.nd = nd ∧ True from ⟨hnd, trivial⟩)
      have HM := hide' hm
      have HOM : Hid (∀ {W : World}, W.ownsRow w.heap.size 3 1 (.slice po m capo) r.op.length (Tr.ic (Tr.opI r.op)) → W.ownsRow w.heap.size 3 1 (.slice po m capo) m (Tr.ic (Tr.opI r.op))) := fun h => by rw [hm] at h; exact h
      have HGL := hide' hg
      have HGO := hide' hgo
      have HPUSH : Hid (∀ {W2 w4 : World} {v' : Value} {ob : Obj} {cs : List Value}, Below wr.heap.size wr W2 → cs = (Tr.rnd E (Tr.rnew E r i)).cs.toList → w4.ownsRow w.heap.size 46 13 v' (nd + 1) (Tr.rcs E r.L nd ++ cs) → (W2.alloc ob).grownBy w4 (Value.slice p nd cap).ownBlock → _) := fun h1 h2 h3 h4 => hpush HL.out h1 h2 h3 h4
      have HND := hide' hnodup
      have HPL := hide' hplt
      have HVL := hide' hval
      have HTX1 := hide' htx
      have HCASE0 := hide' hcase0
      have HRR := hide' hrr
      clear HL0 hcase0 hval hnodup hplt hpush hg hgo hm hnd htx hrr
      obtain ⟨b0, o0, cap0', e0, r1', r2', ka⟩ := HR.out (by omega)
      obtain ⟨rfl, rfl⟩ : p0 = some ⟨b0, o0, none⟩ ∧ cap0 = cap0' := by cases e0; exact ⟨rfl, rfl⟩
      obtain ⟨k0, k1, k2, k3, k4, k5, k6, k7⟩ := ka i hlt
      have kk : ∀ {a : Addr} {u}, w.cell? a = some u → wr.cell? a = some u := fun {a u} hu => (HL.out.bel.cell (p := a) (block_lt_of_cell hu)).trans hu
      have q0 := kk k0
      have q1 := kk k1
      have q2 := kk k2
      have q3 := kk k3
      have q4 := kk k4
      have q5 := kk k5
      have q6 := kk k6
      have q7 := kk k7
      have hav := HV.out i hlt
      have hcase := HCASE0.out
      have htx := HTX1.out
      obtain ⟨e, he⟩ : ∃ e, E i = e := ⟨_, rfl⟩
      simp only [he] at q0 q1 q2 q3 q4 q5 q6 q7 hav hcase htx
      clear k0 k1 k2 k3 k4 k5 k6 k7 kk ka HV HR HCASE0 HTX1 HTX
      have HE := hide' he
      clear he e0
      obtain ⟨kind, num, dep, nm, av, ats, tx, fr, be⟩ := e
      dsimp only at hav
      obtain ⟨pa, na, ca, rfl⟩ := hav
      dsimp only at q0 q1 q2 q3 q4 q5 q6 q7 hcase htx
      have HONE : Hid ((Tr.rnd E (Tr.rnew E r i)).ev.av.oneCell' = true) := by
        show (E (i : Int).toNat).av.oneCell' = true
        rw [Int.toNat_natCast, HE.out]
        rfl
      have HTX2 := hide' htx
      have HCASE := hide' hcase
      have HLT := hide' hlt
      clear hcase htx hlt
      by_cases k2 : kind = 2
      · have hcase := (HCASE.out.resolve_right (fun h => by rcases h with h | h <;> have := h.1 <;> omega))
        obtain ⟨k, p, c1, c2, c3, c4, c5⟩ := hcase.2
        have k2 : kind = 2 := hcase.1
        clear hcase
        subst k2
        subst c3
        obtain ⟨g, rfl⟩ := HGO.out (by omega)
        obtain ⟨q, rfl⟩ := HGL.out (by omega)
        have hb1 : Below wr.heap.size wr (wr.alloc (.cells #[.int .i64 2, .int .i64 (p : Nat), .int .i64 dep, .string nm, .slice pa na ca, .string tx, .int .i64 fr, .int .i64 be] 39)) := (Below.refl _ _).alloc (Nat.le_refl _) _
        have hns := HL.out.keep hb1
        have y1 := hns.cell (j := p) (k := 11) c4 (by omega) rfl
        have z1 : (wr.alloc (.cells #[.int .i64 2, .int .i64 (p : Nat), .int .i64 dep, .string nm, .slice pa na ca, .string tx, .int .i64 fr, .int .i64 be] 39)).frozen? ⟨q, p * 13 + 11, none⟩ = false := hns.lst.frozenAt _
        have hset := hns.set (p := p) (k := 11) (u := .int .i64 (i : Nat)) (x := { r.L p with clo := (i : Nat) }) c4 (by omega) rfl
        have hend : Tr.NS w E (Tr.rrun E (i + 1)).nd (Tr.rrun E (i + 1)).op (Tr.rrun E (i + 1)).L (.slice (some ⟨q, 0, none⟩) nd cap) (.slice (some ⟨g, 0, none⟩) k capo) ((wr.alloc (.cells #[.int .i64 2, .int .i64 (p : Nat), .int .i64 dep, .string nm, .slice pa na ca, .string tx, .int .i64 fr, .int .i64 be] 39)).setCell ⟨q, p * 13 + 11, none⟩ (.int .i64 (i : Nat))) := by
          rw [c5]
          refine ⟨?_, ?_, hset.bel⟩
          · show World.ownsRow _ _ _ _ _ nd _
            rw [← Tr.rcs_congr (E := E) (L := fun j => if j = p then { r.L p with clo := (i : Int) } else r.L j) nd (fun j _ => by by_cases e : j = p <;> simp [e])]
            exact hset.lst
          · have own2 := Tr.owns_shrink (HOM.out hset.opn) (m := k) (by omega)
            have e : r.op.dropLast = r.op.take k := by rw [List.dropLast_eq_take, HM.out, c1]; rfl
            have e2 : r.op.dropLast.length = k := by rw [List.length_dropLast, HM.out, c1]; rfl
            rw [Nat.mul_one, ← Tr.ic_take, ← Tr.opI_take, ← e] at own2
            show World.ownsRow _ _ _ _ _ r.op.dropLast.length _
            rw [e2]
            exact own2
        have HEND := hide' hend
        have g1 : (p : Int) < (nd : Int) := by omega
        have g2 : 0 ≤ (p : Int) := by omega
        have g3 : IntKind.i64.wrap ((m : Int) - 1) = (k : Int) := by rw [IntKind.wrap_i64]; omega
        have g4 : 0 ≤ (k : Int) := by omega
        have g5 : (k : Int) ≤ (capo : Int) := by omega
        clear hend hset hns hb1 c5 c1 c2
        go_wp2_with fail
        exact ⟨⟨i + 1, rfl, HLT.out, HEND⟩, by have := HLT.out; simp [RowKit.intOf]; omega⟩
      have hc := HCASE.out.resolve_left (fun h => k2 h.1)
      have hnum : num = (nd : Nat) := by rcases hc with h | h <;> exact h.2.1
      subst hnum
      have k2' : (kind == 2) = false := by simpa using k2
      have HC : Hid ((kind = 0 → Tr.rrun E (i + 1) = ⟨Tr.Lk E r i m, nd + 1, r.op ++ [nd]⟩) ∧ (kind = 1 → Tr.rrun E (i + 1) = ⟨fun j => if j = nd then { Tr.rnew E r i with clo := (i : Int) } else Tr.Lk E r i m j, nd + 1, r.op⟩)) := by
        rcases hc with h | h
        · exact ⟨fun _ => h.2.2, fun e => by have := h.1; omega⟩
        · exact ⟨fun e => by have := h.1; omega, fun _ => h.2.2⟩
      have HK01 : Hid (kind = 0 ∨ kind = 1) := by
        rcases hc with h | h
        · exact .inl h.1
        · exact .inr h.1
      clear hc HCASE
      have HRA : Hid (Below wr.heap.size wr (wr.alloc (.cells #[.int .i64 kind, .int .i64 (nd : Nat), .int .i64 dep, .string nm, .slice pa na ca, .string tx, .int .i64 fr, .int .i64 be] 39))) := (Below.refl _ _).alloc (Nat.le_refl _) _
      have HBA : Hid (Below w.heap.size w (wr.alloc (.cells #[.int .i64 kind, .int .i64 (nd : Nat), .int .i64 dep, .string nm, .slice pa na ca, .string tx, .int .i64 fr, .int .i64 be] 39))) := HL.out.bel.alloc HL.out.bel.size _
      by_cases c0 : m = 0
      · have HT : Hid (Tr.rtop r.op = -1) := by rw [List.eq_nil_of_length_eq_zero (HM.out.trans c0)]; rfl
        have f1 : ¬ ((m : Int) > 0) := by omega
        clear c0
        have hb2 := HBA.out.alloc HBA.out.size (.cells #[.int .i64 kind, .int .i64 (nd : Nat), .int .i64 dep, .string nm, .slice pa na ca, .string tx, .int .i64 fr, .int .i64 be, .int .i64 (-1), .int .i64 (nd : Nat), .int .i64 (i : Nat), .int .i64 (-1), .string tx] 46)
        have hr2 := HRA.out.alloc HRA.out.size (.cells #[.int .i64 kind, .int .i64 (nd : Nat), .int .i64 dep, .string nm, .slice pa na ca, .string tx, .int .i64 fr, .int .i64 be, .int .i64 (-1), .int .i64 (nd : Nat), .int .i64 (i : Nat), .int .i64 (-1), .string tx] 46)
        have hcs : ([.int .i64 kind, .int .i64 (nd : Nat), .int .i64 dep, .string nm, .slice pa na ca, .string tx, .int .i64 fr, .int .i64 be, .int .i64 (-1), .int .i64 (nd : Nat), .int .i64 (i : Nat), .int .i64 (-1), .string tx] : List Value) = (Tr.rnd E (Tr.rnew E r i)).cs.toList := by
          unfold Tr.rnd Tr.rnew Tr.RN.cs
          dsimp only
          rw [HT.out, HN.out.1, Int.toNat_natCast, HE.out, Tr.mk_self]
        have HCS := hide' hcs
        have HB2 := hide' hb2
        have HR2 := hide' hr2
        have own := HL.out.lst
        have OWN := hide' (Tr.keepB own hr2 (Nat.le_refl _))
        clear hb2 hr2 hcs own
        go_wp2_with (at_builtin; refine wpList_append_own _ rfl _ _ 32 rfl w.heap.size 46 j0 _ 13 144 Tryd.underlying32 hj0 jz0 jz1 jz2 rfl (by decide) _ nd (Tr.rcs E r.L nd) rfl (OWN.out.alloc _) ⟨wr.heap.size + 2, 0, none⟩ 1 1 [.int .i64 kind, .int .i64 (nd : Nat), .int .i64 dep, .string nm, .slice pa na ca, .string tx, .int .i64 fr, .int .i64 be, .int .i64 (-1), .int .i64 (nd : Nat), .int .i64 (i : Nat), .int .i64 (-1), .string tx] rfl rfl ?c1 ?c2 ?c3 ?c4 ?c5 ?_)
        case c2 => exact ⟨rfl, rfl, rfl, rfl, rfl, rfl, rfl, rfl, rfl, rfl, rfl, rfl, rfl⟩
        case c3 => unfold maxLen; omega
        case c4 => omega
        case c5 => have := HB2.out.size; simp at this; simp; omega
        intro v' w4 hown' hgrow _
        have hG := HPUSH.out HR2.out HCS.out hown' hgrow
        have hbx4 := hG.2 wr.heap.size (Nat.le_refl _) (by simp; omega)
        rw [Lib.alloc_old _ _ _ (by simp), heap_alloc_new] at hbx4
        have HG := hide' hG.1
        have HBX := hide' hbx4
        obtain ⟨p', cap', rfl, l1, l2, l3, _⟩ := Tr.owns_sl hown'
        obtain ⟨q, rfl⟩ := l3 (by omega)
        clear hG hown' hgrow hbx4 l3 OWN HR2 HB2
        go_wp2_with fail
        obtain ⟨W0, rfl⟩ : ∃ W0, W0 = wr := ⟨_, rfl⟩
        go_loopw [8] (fun kv wx => ∃ k : Nat, kv = .int .i64 k ∧ k ≤ m ∧ Hid (Tr.NS w E (nd + 1) r.op (Tr.Lk E r i k) (.slice (some ⟨q, 0, none⟩) (nd + 1) cap') (.slice po m capo) wx) ∧ Hid (wx.heap[W0.heap.size]? = some (.cells #[.int .i64 kind, .int .i64 (nd : Nat), .int .i64 dep, .string nm, .slice pa na ca, .string tx, .int .i64 fr, .int .i64 be] 39 (0, 0)))) (fun kv _ => m - (RowKit.intOf kv).toNat)
        case atStart => exact ⟨0, rfl, Nat.zero_le _, HG, HBX⟩
        case round =>
          obtain ⟨k, rfl, hk, HX, HBX2⟩ := hrel
          have x0 : wr.cell? ⟨W0.heap.size, 0, none⟩ = some (.int .i64 kind) := by rw [Lib.cell_of_heap HBX2.out]; rfl
          have x1 : wr.cell? ⟨W0.heap.size, 1, none⟩ = some (.int .i64 (nd : Nat)) := by rw [Lib.cell_of_heap HBX2.out]; rfl
          have x5 : wr.cell? ⟨W0.heap.size, 5, none⟩ = some (.string tx) := by rw [Lib.cell_of_heap HBX2.out]; rfl
          by_cases hkm : k < m
          · have t2 : (k : Int) < (m : Int) := by omega
            have t3 : 0 ≤ (k : Int) := by omega
            obtain ⟨p2, hp2⟩ : ∃ p2, r.op[k]? = some p2 := ⟨_, List.getElem?_eq_getElem (by rw [HM.out]; exact hkm)⟩
            have hpl := HPL.out k p2 hp2
            have hnot : p2 ∉ r.op.take k := fun h => by
              obtain ⟨k', hk'⟩ := List.mem_iff_getElem?.1 h
              rw [List.getElem?_take] at hk'
              split at hk'
              · have := HND.out k k' p2 hp2 hk'
                omega
              · cases hk'
            have hL := Tr.Lk_at E r i k p2 (by rw [HN.out.1]; exact hpl) hnot
            obtain ⟨go, hpo⟩ := HGO.out (by omega)
            have HX2 := HX.out
            rw [hpo] at HX2
            have xk := HX2.top hp2
            have y9 := HX2.cell (j := p2) (k := 9) (u := .int .i64 (r.L p2).last) (by omega) (by omega) (by rw [hL]; rfl)
            have y12 := HX2.cell (j := p2) (k := 12) (u := .string ⟨(r.L p2).val.toArray⟩) (by omega) (by omega) (by rw [hL]; rfl)
            have z9 : wr.frozen? ⟨q, p2 * 13 + 9, none⟩ = false := HX2.lst.frozenAt _
            have z12 : wr.frozen? ⟨q, p2 * 13 + 12, none⟩ = false := HX2.lst.frozenAt _
            obtain ⟨V, hV⟩ : ∃ V : ByteArray, (⟨(r.L p2).val.toArray⟩ : ByteArray) = V := ⟨_, rfl⟩
            have hVs : V.size ≤ 1048576 * i := by rw [← hV]; exact HVL.out p2
            have t4 : ¬ 9223372036854775807 < V.size + tx.size := by have := HTX2.out; omega
            have t5 : (p2 : Int) < (nd : Int) + 1 := by omega
            have t6 : 0 ≤ (p2 : Int) := by omega
            have hn1 : q ≠ W0.heap.size := fun e => HX2.boxed rfl HBX2.out e.symm
            rw [hV] at y12
            simp only [hpo]
            have HPO := hide' hpo
            have HPL2 := hide' hpl
            have HP2 := hide' hp2
            have HLL := hide' hL
            have HVV := hide' hV
            clear hL hp2 hpl hnot hV hVs HX2 hpo
            go_wp2_with fail
            go_region
            all_goals
              have HX1 := HX.out.step1 HPL2.out HLL.out
              simp only [HPO.out] at HX1
              have hbx1 : (wr.setCell ⟨q, p2 * 13 + 9, none⟩ (.int .i64 (nd : Nat))).drew.heap[W0.heap.size]? = some (.cells #[.int .i64 kind, .int .i64 (nd : Nat), .int .i64 dep, .string nm, .slice pa na ca, .string tx, .int .i64 fr, .int .i64 be] 39 (0, 0)) := (Below.heap_setCell _ _ _ _ (show W0.heap.size ≠ q from fun e => hn1 e.symm)).trans HBX2.out
              obtain ⟨W1, hW1⟩ : ∃ W1, (wr.setCell ⟨q, p2 * 13 + 9, none⟩ (.int .i64 (nd : Nat))).drew = W1 := ⟨_, rfl⟩
              rw [hW1] at HX1 hbx1 ⊢
              clear hW1 x0 x1 x5 xk y9 y12 z9 z12
              have x5 : W1.cell? ⟨W0.heap.size, 5, none⟩ = some (.string tx) := by rw [Lib.cell_of_heap hbx1]; rfl
              have xk := HX1.top HP2.out
              have y12 := HX1.cell (j := p2) (k := 12) (u := .string V) (by omega) (by omega) (by rw [if_pos rfl, ← HVV.out]; rfl)
              have z12 : W1.frozen? ⟨q, p2 * 13 + 12, none⟩ = false := HX1.lst.frozenAt _
              have HX3 := hide' (HX1.step2 HPL2.out HN.out.1 HP2.out HVV.out (show (E i).tx = tx by rw [HE.out]))
              have HB3 := hide' ((Below.heap_setCell W1 ⟨q, p2 * 13 + 12, none⟩ (.string (V ++ tx)) W0.heap.size (show W0.heap.size ≠ q from fun e => hn1 e.symm)).trans hbx1)
              clear HX1 hbx1
              go_wp2_with fail
              go_region
              all_goals
                clear x5 xk y12 z12
                go_wp2_with fail
                go_roundw
                case rel => exact ⟨k + 1, rfl, hkm, HX3, HB3⟩
                case measure => simp [RowKit.intOf]; omega
          · obtain rfl : k = m := by omega
            have t2 : ¬ (k : Int) < (k : Int) := by omega
            have HLK := HX
            clear HX
            obtain ⟨wl, rfl⟩ : ∃ wl, wl = wr := ⟨_, rfl⟩
            rcases HK01.out with k0 | k1
            · subst k0
              have K0 : Hid ((0 : Int) = 0) := rfl
              have hr := HC.out.1 K0.out
              have hend : ∀ (v2 : Value) (w2 : World), w2.ownsRow w.heap.size 3 1 v2 (k + 1) (Tr.ic (Tr.opI r.op) ++ [.int .i64 (nd : Nat)]) → (wl.alloc (.cells #[.int .i64 (nd : Nat)] 3)).grownBy w2 (Value.slice po k capo).ownBlock → Tr.NS w E (Tr.rrun E (i + 1)).nd (Tr.rrun E (i + 1)).op (Tr.rrun E (i + 1)).L (.slice (some ⟨q, 0, none⟩) (nd + 1) cap') v2 w2 := fun v2 w2 h1 h2 => by
                rw [hr]
                exact HLK.out.grow (by rw [HM.out]; exact h1) h2
              have HEND := hide' hend
              have OWN := hide' HLK.out.opn
              clear hr hend
              go_wp2_with (at_builtin; refine wpList_append_own _ rfl _ _ 52 rfl w.heap.size 3 i0 (.int .i64 0) 1 8 Tryd.underlying52 hi0 hz0 hz1 hz2 rfl (by decide) _ k (Tr.ic (Tr.opI r.op)) rfl (HOM.out (OWN.out.alloc _)) ⟨wl.heap.size, 0, none⟩ 1 1 [.int .i64 (nd : Nat)] rfl rfl ?d1 ?d2 ?d3 ?d4 ?d5 ?_)
              case d2 => exact rfl
              case d3 => unfold maxLen; omega
              case d4 => omega
              case d5 => have := HLK.out.bel.size; simp; omega
              intro v2 w2 hown2 hgrow2 _
              have HE2 := hide' (HEND.out v2 w2 hown2 hgrow2)
              clear hown2 hgrow2 HEND
              go_wp2_with fail
              exact ⟨⟨i + 1, rfl, HLT.out, HE2⟩, by have := HLT.out; simp [RowKit.intOf]; omega⟩
            · subst k1
              have K1 : Hid ((1 : Int) = 1) := rfl
              have hr := HC.out.2 K1.out
              have y1 := HLK.out.cell (j := nd) (k := 11) (by omega) (by omega) rfl
              have z1 : wl.frozen? ⟨q, nd * 13 + 11, none⟩ = false := HLK.out.lst.frozenAt _
              have hset := HLK.out.set (p := nd) (k := 11) (u := .int .i64 (i : Nat)) (x := { Tr.rnew E r i with clo := (i : Nat) }) (by omega) (by omega) (by rw [show Tr.Lk E r i k nd = Tr.rnew E r i by rw [← HN.out.1]; exact Tr.Lk_new E r i k]; rfl)
              have hend : Tr.NS w E (Tr.rrun E (i + 1)).nd (Tr.rrun E (i + 1)).op (Tr.rrun E (i + 1)).L (.slice (some ⟨q, 0, none⟩) (nd + 1) cap') (.slice po k capo) (wl.setCell ⟨q, nd * 13 + 11, none⟩ (.int .i64 (i : Nat))) := by
                rw [hr]
                exact hset
              have HEND := hide' hend
              clear hr hend hset
              go_wp2_with fail
              exact ⟨⟨i + 1, rfl, HLT.out, HEND⟩, by have := HLT.out; simp [RowKit.intOf]; omega⟩
      obtain ⟨k, hk⟩ : ∃ k, m = k + 1 := ⟨m - 1, by omega⟩
      obtain ⟨p, hp⟩ : ∃ p, r.op[k]? = some p := ⟨_, List.getElem?_eq_getElem (by have := HM.out; omega)⟩
      have HT : Hid (Tr.rtop r.op = (p : Nat)) := by
        unfold Tr.rtop
        rw [List.getLast?_eq_getElem?, HM.out, show m - 1 = k by omega, hp]
        rfl
      obtain ⟨g, rfl⟩ := HGO.out (by omega)
      have xt := (HL.out.keep (HRA.out.alloc HRA.out.size (.cells #[.int .i64 kind, .int .i64 (nd : Nat), .int .i64 dep, .string nm, .slice pa na ca, .string tx, .int .i64 fr, .int .i64 be, .int .i64 (-1), .int .i64 (nd : Nat), .int .i64 (i : Nat), .int .i64 (-1), .string tx] 46))).top hp
      have f1 : (m : Int) > 0 := by omega
      have g3 : IntKind.i64.wrap ((m : Int) - 1) = (k : Int) := by rw [IntKind.wrap_i64]; omega
      have g4 : 0 ≤ (k : Int) := by omega
      have g5 : (k : Int) < (m : Int) := by omega
      clear hk hp c0
      have hb2 := HBA.out.alloc HBA.out.size (.cells #[.int .i64 kind, .int .i64 (nd : Nat), .int .i64 dep, .string nm, .slice pa na ca, .string tx, .int .i64 fr, .int .i64 be, .int .i64 (p : Nat), .int .i64 (nd : Nat), .int .i64 (i : Nat), .int .i64 (-1), .string tx] 46)
      have hr2 := HRA.out.alloc HRA.out.size (.cells #[.int .i64 kind, .int .i64 (nd : Nat), .int .i64 dep, .string nm, .slice pa na ca, .string tx, .int .i64 fr, .int .i64 be, .int .i64 (p : Nat), .int .i64 (nd : Nat), .int .i64 (i : Nat), .int .i64 (-1), .string tx] 46)
      have hcs : ([.int .i64 kind, .int .i64 (nd : Nat), .int .i64 dep, .string nm, .slice pa na ca, .string tx, .int .i64 fr, .int .i64 be, .int .i64 (p : Nat), .int .i64 (nd : Nat), .int .i64 (i : Nat), .int .i64 (-1), .string tx] : List Value) = (Tr.rnd E (Tr.rnew E r i)).cs.toList := by
        unfold Tr.rnd Tr.rnew Tr.RN.cs
        dsimp only
        rw [HT.out, HN.out.1, Int.toNat_natCast, HE.out, Tr.mk_self]
      have HCS := hide' hcs
      have HB2 := hide' hb2
      have HR2 := hide' hr2
      have own := HL.out.lst
      have OWN := hide' (Tr.keepB own hr2 (Nat.le_refl _))
      clear hb2 hr2 hcs own
      go_wp2_with (at_builtin; refine wpList_append_own _ rfl _ _ 32 rfl w.heap.size 46 j0 _ 13 144 Tryd.underlying32 hj0 jz0 jz1 jz2 rfl (by decide) _ nd (Tr.rcs E r.L nd) rfl (OWN.out.alloc _) ⟨wr.heap.size + 2, 0, none⟩ 1 1 [.int .i64 kind, .int .i64 (nd : Nat), .int .i64 dep, .string nm, .slice pa na ca, .string tx, .int .i64 fr, .int .i64 be, .int .i64 (p : Nat), .int .i64 (nd : Nat), .int .i64 (i : Nat), .int .i64 (-1), .string tx] rfl rfl ?e1 ?e2 ?e3 ?e4 ?e5 ?_)
      case e2 => exact ⟨rfl, rfl, rfl, rfl, rfl, rfl, rfl, rfl, rfl, rfl, rfl, rfl, rfl⟩
      case e3 => unfold maxLen; omega
      case e4 => omega
      case e5 => have := HB2.out.size; simp at this; simp; omega
      intro v' w4 hown' hgrow _
      have hG := HPUSH.out HR2.out HCS.out hown' hgrow
      have hbx4 := hG.2 wr.heap.size (Nat.le_refl _) (by simp; omega)
      rw [Lib.alloc_old _ _ _ (by simp), heap_alloc_new] at hbx4
      have HG := hide' hG.1
      have HBX := hide' hbx4
      obtain ⟨p', cap', rfl, l1, l2, l3, _⟩ := Tr.owns_sl hown'
      obtain ⟨q, rfl⟩ := l3 (by omega)
      clear hG hown' hgrow hbx4 l3 OWN HR2 HB2
      go_wp2_with fail
      obtain ⟨W0, rfl⟩ : ∃ W0, W0 = wr := ⟨_, rfl⟩
      go_loopw [8] (fun kv wx => ∃ k : Nat, kv = .int .i64 k ∧ k ≤ m ∧ Hid (Tr.NS w E (nd + 1) r.op (Tr.Lk E r i k) (.slice (some ⟨q, 0, none⟩) (nd + 1) cap') (.slice (some ⟨g, 0, none⟩) m capo) wx) ∧ Hid (wx.heap[W0.heap.size]? = some (.cells #[.int .i64 kind, .int .i64 (nd : Nat), .int .i64 dep, .string nm, .slice pa na ca, .string tx, .int .i64 fr, .int .i64 be] 39 (0, 0)))) (fun kv _ => m - (RowKit.intOf kv).toNat)
      case atStart => exact ⟨0, rfl, Nat.zero_le _, HG, HBX⟩
      case round =>
        obtain ⟨k, rfl, hk, HX, HBX2⟩ := hrel
        have x0 : wr.cell? ⟨W0.heap.size, 0, none⟩ = some (.int .i64 kind) := by rw [Lib.cell_of_heap HBX2.out]; rfl
        have x1 : wr.cell? ⟨W0.heap.size, 1, none⟩ = some (.int .i64 (nd : Nat)) := by rw [Lib.cell_of_heap HBX2.out]; rfl
        have x5 : wr.cell? ⟨W0.heap.size, 5, none⟩ = some (.string tx) := by rw [Lib.cell_of_heap HBX2.out]; rfl
        by_cases hkm : k < m
        · have t2 : (k : Int) < (m : Int) := by omega
          have t3 : 0 ≤ (k : Int) := by omega
          obtain ⟨p2, hp2⟩ : ∃ p2, r.op[k]? = some p2 := ⟨_, List.getElem?_eq_getElem (by rw [HM.out]; exact hkm)⟩
          have hpl := HPL.out k p2 hp2
          have hnot : p2 ∉ r.op.take k := fun h => by
            obtain ⟨k', hk'⟩ := List.mem_iff_getElem?.1 h
            rw [List.getElem?_take] at hk'
            split at hk'
            · have := HND.out k k' p2 hp2 hk'
              omega
            · cases hk'
          have hL := Tr.Lk_at E r i k p2 (by rw [HN.out.1]; exact hpl) hnot
          obtain ⟨go, hpo⟩ := HGO.out (by omega)
          have HX2 := HX.out
          rw [hpo] at HX2
          have xk := HX2.top hp2
          have y9 := HX2.cell (j := p2) (k := 9) (u := .int .i64 (r.L p2).last) (by omega) (by omega) (by rw [hL]; rfl)
          have y12 := HX2.cell (j := p2) (k := 12) (u := .string ⟨(r.L p2).val.toArray⟩) (by omega) (by omega) (by rw [hL]; rfl)
          have z9 : wr.frozen? ⟨q, p2 * 13 + 9, none⟩ = false := HX2.lst.frozenAt _
          have z12 : wr.frozen? ⟨q, p2 * 13 + 12, none⟩ = false := HX2.lst.frozenAt _
          obtain ⟨V, hV⟩ : ∃ V : ByteArray, (⟨(r.L p2).val.toArray⟩ : ByteArray) = V := ⟨_, rfl⟩
          have hVs : V.size ≤ 1048576 * i := by rw [← hV]; exact HVL.out p2
          have t4 : ¬ 9223372036854775807 < V.size + tx.size := by have := HTX2.out; omega
          have t5 : (p2 : Int) < (nd : Int) + 1 := by omega
          have t6 : 0 ≤ (p2 : Int) := by omega
          have hn1 : q ≠ W0.heap.size := fun e => HX2.boxed rfl HBX2.out e.symm
          rw [hV] at y12
          simp only [hpo]
          have HPO := hide' hpo
          have HPL2 := hide' hpl
          have HP2 := hide' hp2
          have HLL := hide' hL
          have HVV := hide' hV
          clear hL hp2 hpl hnot hV hVs HX2 hpo
          go_wp2_with fail
          go_region
          all_goals
            have HX1 := HX.out.step1 HPL2.out HLL.out
            simp only [HPO.out] at HX1
            have hbx1 : (wr.setCell ⟨q, p2 * 13 + 9, none⟩ (.int .i64 (nd : Nat))).drew.heap[W0.heap.size]? = some (.cells #[.int .i64 kind, .int .i64 (nd : Nat), .int .i64 dep, .string nm, .slice pa na ca, .string tx, .int .i64 fr, .int .i64 be] 39 (0, 0)) := (Below.heap_setCell _ _ _ _ (show W0.heap.size ≠ q from fun e => hn1 e.symm)).trans HBX2.out
            obtain ⟨W1, hW1⟩ : ∃ W1, (wr.setCell ⟨q, p2 * 13 + 9, none⟩ (.int .i64 (nd : Nat))).drew = W1 := ⟨_, rfl⟩
            rw [hW1] at HX1 hbx1 ⊢
            clear hW1 x0 x1 x5 xk y9 y12 z9 z12
            have x5 : W1.cell? ⟨W0.heap.size, 5, none⟩ = some (.string tx) := by rw [Lib.cell_of_heap hbx1]; rfl
            have xk := HX1.top HP2.out
            have y12 := HX1.cell (j := p2) (k := 12) (u := .string V) (by omega) (by omega) (by rw [if_pos rfl, ← HVV.out]; rfl)
            have z12 : W1.frozen? ⟨q, p2 * 13 + 12, none⟩ = false := HX1.lst.frozenAt _
            have HX3 := hide' (HX1.step2 HPL2.out HN.out.1 HP2.out HVV.out (show (E i).tx = tx by rw [HE.out]))
            have HB3 := hide' ((Below.heap_setCell W1 ⟨q, p2 * 13 + 12, none⟩ (.string (V ++ tx)) W0.heap.size (show W0.heap.size ≠ q from fun e => hn1 e.symm)).trans hbx1)
            clear HX1 hbx1
            go_wp2_with fail
            go_region
            all_goals
              clear x5 xk y12 z12
              go_wp2_with fail
              go_roundw
              case rel => exact ⟨k + 1, rfl, hkm, HX3, HB3⟩
              case measure => simp [RowKit.intOf]; omega
        · obtain rfl : k = m := by omega
          have t2 : ¬ (k : Int) < (k : Int) := by omega
          have HLK := HX
          clear HX
          obtain ⟨wl, rfl⟩ : ∃ wl, wl = wr := ⟨_, rfl⟩
          rcases HK01.out with k0 | k1
          · subst k0
            have K0 : Hid ((0 : Int) = 0) := rfl
            have hr := HC.out.1 K0.out
            have hend : ∀ (v2 : Value) (w2 : World), w2.ownsRow w.heap.size 3 1 v2 (k + 1) (Tr.ic (Tr.opI r.op) ++ [.int .i64 (nd : Nat)]) → (wl.alloc (.cells #[.int .i64 (nd : Nat)] 3)).grownBy w2 (Value.slice (some ⟨g, 0, none⟩) k capo).ownBlock → Tr.NS w E (Tr.rrun E (i + 1)).nd (Tr.rrun E (i + 1)).op (Tr.rrun E (i + 1)).L (.slice (some ⟨q, 0, none⟩) (nd + 1) cap') v2 w2 := fun v2 w2 h1 h2 => by
              rw [hr]
              exact HLK.out.grow (by rw [HM.out]; exact h1) h2
            have HEND := hide' hend
            have OWN := hide' HLK.out.opn
            clear hr hend
            go_wp2_with (at_builtin; refine wpList_append_own _ rfl _ _ 52 rfl w.heap.size 3 i0 (.int .i64 0) 1 8 Tryd.underlying52 hi0 hz0 hz1 hz2 rfl (by decide) _ k (Tr.ic (Tr.opI r.op)) rfl (HOM.out (OWN.out.alloc _)) ⟨wl.heap.size, 0, none⟩ 1 1 [.int .i64 (nd : Nat)] rfl rfl ?f1 ?f2 ?f3 ?f4 ?f5 ?_)
            case f2 => exact rfl
            case f3 => unfold maxLen; omega
            case f4 => omega
            case f5 => have := HLK.out.bel.size; simp; omega
            intro v2 w2 hown2 hgrow2 _
            have HE2 := hide' (HEND.out v2 w2 hown2 hgrow2)
            clear hown2 hgrow2 HEND
            go_wp2_with fail
            exact ⟨⟨i + 1, rfl, HLT.out, HE2⟩, by have := HLT.out; simp [RowKit.intOf]; omega⟩
          · subst k1
            have K1 : Hid ((1 : Int) = 1) := rfl
            have hr := HC.out.2 K1.out
            have y1 := HLK.out.cell (j := nd) (k := 11) (by omega) (by omega) rfl
            have z1 : wl.frozen? ⟨q, nd * 13 + 11, none⟩ = false := HLK.out.lst.frozenAt _
            have hset := HLK.out.set (p := nd) (k := 11) (u := .int .i64 (i : Nat)) (x := { Tr.rnew E r i with clo := (i : Nat) }) (by omega) (by omega) (by rw [show Tr.Lk E r i k nd = Tr.rnew E r i by rw [← HN.out.1]; exact Tr.Lk_new E r i k]; rfl)
            have hend : Tr.NS w E (Tr.rrun E (i + 1)).nd (Tr.rrun E (i + 1)).op (Tr.rrun E (i + 1)).L (.slice (some ⟨q, 0, none⟩) (nd + 1) cap') (.slice (some ⟨g, 0, none⟩) k capo) (wl.setCell ⟨q, nd * 13 + 11, none⟩ (.int .i64 (i : Nat))) := by
              rw [hr]
              exact hset
            have HEND := hide' hend
            clear hr hend hset
            go_wp2_with fail
            exact ⟨⟨i + 1, rfl, HLT.out, HEND⟩, by have := HLT.out; simp [RowKit.intOf]; omega⟩
    · have t1 : ¬ (i : Int) < (n : Int) := by omega
      obtain rfl : i = n := by omega
      have HNR := hide' (Tr.NRow.of HL0.out.lst)
      have HBL := hide' HL0.out.bel
      clear hri hgi hrun HL0 HR HV HVAL HTX HDC
      go_wp2_with fail
      go_ret
      exact ⟨_, rfl, HNR.out, HBL.out⟩
end Go.Proofs.YtcmjipgigkalcaaDoor
