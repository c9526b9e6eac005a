/-
  THE WALK over the document's Beginning of layer 9. (Made by gen_beg.py.)
-/
import Derived.Test.YtcmjipgigkalcaaDoorTrRefB
import Derived.Test.YtcmjipgigkalcaaDoorTrNodesM
import Derived.BigGuard
namespace Go.Proofs.YtcmjipgigkalcaaDoor
open Go.RowKit Go.Shelf Go.Lib
set_option maxRecDepth 100000 in
set_option maxHeartbeats 8000000 in
theorem refBeginning9 (v : Value) (n : Nat) (E : Nat → Tr.Ev Value) (w : World) (hE : Tr.Evs w v n E) (hs : ∀ i, i < n → Tr.Tiny (E i)) (hn : n ≤ 1048576) :
    Calls Tryd.prog 7 #[v] w fun r w' => r = .returned (Tr.begA E n) ∧ Below w.heap.size w w' := by
  obtain ⟨i0, hi0, hz0, hz1, hz2⟩ := info_parts Tr.intInfo
  have cN : ∀ (i : Nat) w1, i < n → Below w.heap.size w w1 → _ := fun i w1 h hb => refName9 (E i).nm w1 (by have := (hs i h).1; omega)
  have cT : ∀ (i : Nat) w1, i < n → Below w.heap.size w w1 → _ := fun i w1 h hb => refTexts9 (E i).tx w1 (by have := (hs i h).2.1; omega)
  have cA : ∀ (i : Nat) w1, i < n → Below w.heap.size w w1 → _ := fun i w1 h hb => refAttrs9 (E i).av (E i).ats w1 ((hE.att i h).below hb (Nat.le_refl _)) (hs i h).2.2.2
  have hav : ∀ i, i < n → ∃ pa na ca, (E i).av = .slice pa na ca := fun i h => by
    obtain ⟨pa, ca, e, _⟩ := hE.att i h
    exact ⟨pa, _, ca, e⟩
  have hna : ∀ i, i < n → ∀ pa na ca, (E i).av = .slice pa na ca → (E i).ats.length = na := fun i h pa na ca e => by
    obtain ⟨pa', ca', e', _⟩ := hE.att i h
    rw [e] at e'
    cases e'
    rfl
  have hrow := hE.row.at
  obtain ⟨p0, cap0, rfl, r1, r2, _⟩ := hE.row
  have CN := hide' cN
  have CT := hide' cT
  have CA := hide' cA
  have HV := hide' hav
  have HNA := hide' hna
  have HR := hide' hrow
  clear hE hs cN cT cA hrow hav hna
  go_enter Tryd.func7, Tryd.ntmps7
  go_wp2_with fail
  go_loopw [5, 6, 7] (fun a b v wr => ∃ (i : Nat) (s : Tr.Ds), v = .int .i64 i ∧ i ≤ n ∧ b = .int .i64 (s.nd : Nat) ∧ Hid (Tr.BS w E i s a wr)) (fun _ _ v _ => n - (RowKit.intOf v).toNat)
  case atStart => exact ⟨0, ⟨[], 0⟩, rfl, Nat.zero_le _, rfl, hide' ⟨rfl, World.ownsRow_nil _ _ _ _, Below.refl _ _⟩⟩
  case round =>
    obtain ⟨i, s, rfl, hi, rfl, HL⟩ := hrel
    obtain ⟨p, cap, rfl, hmc, hcm, hg, hpn⟩ := Tr.owns_sl HL.out.row
    have hgi := Tr.grun_inv i s HL.out.run
    have hnd : s.nd ≤ 1048576 := by have := hgi.ndi; omega
    have hop : s.op.length ≤ 1048576 := Nat.le_trans (Tr.drun_op i s HL.out.run) hnd
    obtain ⟨m, hm⟩ : ∃ m, s.op.length = m := ⟨_, rfl⟩
    obtain ⟨nd, hnd'⟩ : ∃ nd, s.nd = nd := ⟨_, rfl⟩
    rw [hm] at hmc hg hpn hop
    rw [hnd'] at hnd
    have HOM : Hid (∀ {W : World}, W.ownsRow w.heap.size 3 1 (.slice p m cap) s.op.length (Tr.ic (Tr.opI s.op)) → W.ownsRow w.heap.size 3 1 (.slice p m cap) m (Tr.ic (Tr.opI s.op))) := fun h => by rw [hm] at h; exact h
    simp only [hm, hnd']
    have hL := HL.out
    rw [show Tr.BS w E i s (.slice p s.op.length cap) wr = Tr.BS w E i s (.slice p m cap) wr by rw [hm]] at hL
    clear HL
    have HL := hide' hL
    clear hL
    have HM := hide' hm
    have HD := hide' hnd'
    have HG := hide' hg
    have e1 : IntKind.i64.wrap ((m : Int) + 1) = (m : Int) + 1 := by rw [IntKind.wrap_i64]; omega
    have e2 : IntKind.i64.wrap ((nd : Int) + 1) = ((nd + 1 : Nat) : Int) := by rw [IntKind.wrap_i64]; omega
    clear hgi hm hnd' hg
    by_cases hlt : i < n
    · have t1 : (i : Int) < (n : Int) := by omega
      obtain ⟨b0, o0, cap0', e0, r1', r2', ka⟩ := HR.out (by omega)
      obtain ⟨rfl, rfl⟩ : p0 = some ⟨b0, o0, none⟩ ∧ cap0 = cap0' := by cases e0; exact ⟨rfl, rfl⟩
      obtain ⟨k0, k1, k2, k3, k4, k5, k6, k7⟩ := ka i hlt
      have kk : ∀ {a : Addr} {u}, w.cell? a = some u → wr.cell? a = some u := fun {a u} hu => (HL.out.bel.cell (p := a) (block_lt_of_cell hu)).trans hu
      have q0 := kk k0
      have q1 := kk k1
      have q2 := kk k2
      have q3 := kk k3
      have q4 := kk k4
      have q5 := kk k5
      have q6 := kk k6
      have q7 := kk k7
      have KA := hide' ka
      have KP : Hid (∀ W', Below wr.heap.size wr W' → 0 < i → W'.cell? ⟨b0, o0 + (i - 1) * 8, none⟩ = some (.int .i64 (E (i - 1)).kind)) := fun W' hb _ => by
        have h1 := kk (ka (i - 1) (by omega)).1
        exact (hb.cell (p := ⟨b0, o0 + (i - 1) * 8, none⟩) (block_lt_of_cell h1)).trans h1
      have hbA := HL.out.bel.alloc HL.out.bel.size (.cells (E i).cs 39)
      have hrA : Below wr.heap.size wr (wr.alloc (.cells (E i).cs 39)) := (Below.refl _ _).alloc (Nat.le_refl _) _
      have hbx := Tr.Box.new wr (E i) 39
      have cNi : ∀ w1, Below w.heap.size w w1 → _ := fun w1 hb => CN.out i w1 hlt hb
      have cTi : ∀ w1, Below w.heap.size w w1 → _ := fun w1 hb => CT.out i w1 hlt hb
      have cAi : ∀ w1, Below w.heap.size w w1 → _ := fun w1 hb => CA.out i w1 hlt hb
      have hav := HV.out i hlt
      have hav0 := HV.out
      have hnai := HNA.out i hlt
      have hst : ∀ s', Tr.dstep Tr.okB E s i = some s' → Tr.drun Tr.okB E (i + 1) = some s' := fun s' h => Tr.drun_step HL.out.run h
      have hsn : Tr.dstep Tr.okB E s i = none → Tr.begA E n = .tuple #[.bool false, .int .i64 0, .bool false] := fun h => Tr.beg_stop HL.out.run h hlt
      unfold Tr.dstep at hst hsn
      simp only [HM.out, HD.out] at hst hsn
      obtain ⟨e, he⟩ : ∃ e, E i = e := ⟨_, rfl⟩
      simp only [he] at q0 q1 q2 q3 q4 q5 q6 q7 hav hnai hbA hrA hbx cNi cTi cAi hst hsn
      clear k0 k1 k2 k3 k4 k5 k6 k7 kk ka CN CT CA HV HR HNA
      have HE := hide' he
      clear he e0
      obtain ⟨kind, num, dep, nm, av, ats, tx, fr, be⟩ := e
      dsimp only at hav hnai
      obtain ⟨pa, na, ca, rfl⟩ := hav
      have HNA := hide' (hnai pa na ca rfl)
      simp only [Tr.Ev.cs] at hbA hrA hbx
      dsimp only at q0 q1 q2 q3 q4 q5 q6 q7 hst hsn cNi cTi cAi
      have HBA := hide' hbA
      have HRA := hide' hrA
      have HBX := hide' hbx
      have CN := hide' cNi
      have CT := hide' cTi
      have CA := hide' cAi
      have HV2 := hide' hav0
      have HST := hide' hst
      have HSN := hide' hsn
      have HLT := hide' hlt
      clear hbA hrA hbx cNi cTi cAi hst hsn hlt hav0 hnai
      by_cases c0 : m = 0
      · have C0 := hide' c0
        clear c0
        by_cases ci : 0 < i
        · have f2 : (0 : Int) < (i : Int) := by omega
          have f3 : (m : Int) = 0 := by have := C0.out; omega
          go_wp2_with fail
          refine bodyPost_ret (v := .tuple #[.bool false, .int .i64 0, .bool false]) (by simp [results, Tryd.results7, go_sem]) rfl ?_
          exact ⟨by rw [HSN.out (by rw [if_pos ⟨List.eq_nil_of_length_eq_zero (HM.out.trans C0.out), ci⟩])], HBA.out⟩
        have f2 : ¬ (0 : Int) < (i : Int) := by omega
        replace HST := hide' (fun s' h => HST.out s' ((if_neg (fun h => ci h.2)).trans h))
        replace HSN := hide' (fun h => HSN.out ((if_neg (fun h => ci h.2)).trans h))
        by_cases k0 : kind = 0
        · subst k0
          replace HST := hide' (fun s' h => HST.out s' ((if_pos rfl).trans h))
          replace HSN := hide' (fun h => HSN.out ((if_pos rfl).trans h))
          by_cases a1 : num = (nd : Int)
          rotate_left
          · have a1' : (num == (nd : Int)) = false := by simpa using a1
            go_wp2_with fail
            refine bodyPost_ret (v := .tuple #[.bool false, .int .i64 0, .bool false]) (by simp [results, Tryd.results7, go_sem]) rfl ?_
            exact ⟨by rw [HSN.out (by rw [if_neg (fun h => a1 h.1)])], HBA.out⟩
          subst a1
          by_cases a2 : dep = (m : Int) + 1
          rotate_left
          · have a2' : (dep == (m : Int) + 1) = false := by simpa using a2
            go_wp2_with fail
            refine bodyPost_ret (v := .tuple #[.bool false, .int .i64 0, .bool false]) (by simp [results, Tryd.results7, go_sem]) rfl ?_
            exact ⟨by rw [HSN.out (by rw [if_neg (fun h => a2 h.2.1)])], HBA.out⟩
          subst a2
          by_cases a3 : tx.toList = []
          rotate_left
          · have a3' : (tx.toList == []) = false := by simpa using a3
            go_wp2_with fail
            refine bodyPost_ret (v := .tuple #[.bool false, .int .i64 0, .bool false]) (by simp [results, Tryd.results7, go_sem]) rfl ?_
            exact ⟨by rw [HSN.out (by rw [if_neg (fun h => by rw [Tr.okB, if_pos rfl] at h; have h := h.2.2; simp [Tr.isOpenB, a3] at h)])], HBA.out⟩
          have cn := CN.out _ HBA.out
          clear CN
          have CN := hide' cn
          clear cn
          cases a4 : Tr.nameB nm
          · rw [a4] at CN
            go_wp2_with fail
            refine CN.out.mono ?_
            rintro r w1 ⟨rfl, hb1⟩
            have HB1 := hide' (HBA.out.trans (hb1.mono HBA.out.size))
            clear hb1 CN
            go_wp2_with fail
            refine bodyPost_ret (v := .tuple #[.bool false, .int .i64 0, .bool false]) (by simp [results, Tryd.results7, go_sem]) rfl ?_
            exact ⟨by rw [HSN.out (by rw [if_neg (fun h => by rw [Tr.okB, if_pos rfl] at h; have h := h.2.2; simp [Tr.isOpenB, a4] at h)])], HB1.out⟩
          rw [a4] at CN
          go_wp2_with fail
          refine CN.out.mono ?_
          rintro r w1 ⟨rfl, hb1⟩
          have HB1 := hide' (HBA.out.trans (hb1.mono HBA.out.size))
          have HR1 := hide' (HRA.out.trans (hb1.mono HRA.out.size))
          have bx1 := HBX.out.keep hb1
          obtain ⟨z0, z1, z2, z3, z4, z5, z6, z7⟩ := bx1
          clear hb1 CN
          have ca := CA.out w1 HB1.out
          clear CA
          have CA := hide' ca
          clear ca
          cases a5 : Tr.atsB ats none
          · rw [a5] at CA
            go_wp2_with fail
            refine CA.out.mono ?_
            rintro r w2 ⟨rfl, hb2⟩
            have HB2 := hide' (HB1.out.trans (hb2.mono HB1.out.size))
            clear hb2 CA z0 z1 z2 z3 z4 z5 z6 z7
            go_wp2_with fail
            refine bodyPost_ret (v := .tuple #[.bool false, .int .i64 0, .bool false]) (by simp [results, Tryd.results7, go_sem]) rfl ?_
            exact ⟨by rw [HSN.out (by rw [if_neg (fun h => by rw [Tr.okB, if_pos rfl] at h; have h := h.2.2; simp [Tr.isOpenB, a5] at h)])], HB2.out⟩
          rw [a5] at CA
          go_wp2_with fail
          refine CA.out.mono ?_
          rintro r w2 ⟨rfl, hb2⟩
          have HB2 := hide' (HB1.out.trans (hb2.mono HB1.out.size))
          have HR2 := hide' (HR1.out.trans (hb2.mono HR1.out.size))
          clear hb2 CA z0 z1 z2 z3 z4 z5 z6 z7
          have own := Tr.keepB HL.out.row HR2.out (Nat.le_refl _)
          have OWN := hide' own
          clear own
          go_wp2_with (at_builtin; refine wpList_append_own _ rfl _ _ 52 rfl w.heap.size 3 i0 (.int .i64 0) 1 8 Tryd.underlying52 hi0 hz0 hz1 hz2 rfl (by decide) _ m (Tr.ic (Tr.opI s.op)) rfl (HOM.out (OWN.out.alloc _)) ⟨w2.heap.size, 0, none⟩ 1 1 [.int .i64 (i : Int)] rfl rfl ?c1 ?c2 ?c3 ?c4 ?c5 ?_)
          case c1 => exact Tr.newOne w2 i
          case c2 => exact Tr.oneOne i
          case c3 => unfold maxLen; omega
          case c4 => omega
          case c5 => have := HB2.out.size; simp; omega
          intro v' w3 hown' hgrow _
          have hL2 : Tr.BS w E (i + 1) ⟨s.op ++ [i], nd + 1⟩ v' w3 := ⟨HST.out _ (by simp [Tr.okB, Tr.isOpenB, a3, a4, a5]), by
              show w3.ownsRow _ _ _ _ _ _
              rw [Tr.opI_app, Tr.ic_app, List.length_append, HM.out]
              exact hown', (HB2.out.alloc HB2.out.size _).grown hgrow (by have := HB2.out.size; simp; omega) (fun k hk => (OWN.out.lt k hk).1)⟩
          have HL2 := hide' hL2
          clear hL2 hown' hgrow HST HSN HB1 HR1 HR2
          go_wp2_with fail
          exact ⟨⟨i + 1, _, rfl, HLT.out, rfl, HL2⟩, by have := HLT.out; simp [RowKit.intOf]; omega⟩
        by_cases k1 : kind = 1
        · have hsn1 := HSN.out
          rw [if_neg k0, if_pos k1] at hsn1
          replace HSN := hide' hsn1
          clear hsn1 HST k0
          subst k1
          have f3 : (m : Int) = 0 := by have := C0.out; omega
          go_wp2_with fail
          refine bodyPost_ret (v := .tuple #[.bool false, .int .i64 0, .bool false]) (by simp [results, Tryd.results7, go_sem]) rfl ?_
          exact ⟨by rw [HSN.out (by rw [if_neg (fun h => h.1 (List.eq_nil_of_length_eq_zero (HM.out.trans C0.out)))])], HBA.out⟩
        have hsn1 := HSN.out
        rw [if_neg k0, if_neg k1, List.eq_nil_of_length_eq_zero (HM.out.trans C0.out)] at hsn1
        replace HSN := hide' hsn1
        clear hsn1 HST
        by_cases k2 : kind = 2
        · subst k2
          have f3 : (m : Int) = 0 := by have := C0.out; omega
          go_wp2_with fail
          refine bodyPost_ret (v := .tuple #[.bool false, .int .i64 0, .bool false]) (by simp [results, Tryd.results7, go_sem]) rfl ?_
          exact ⟨by rw [HSN.out (by simp)], HBA.out⟩
        go_wp2_with fail
        refine bodyPost_ret (v := .tuple #[.bool false, .int .i64 0, .bool false]) (by simp [results, Tryd.results7, go_sem]) rfl ?_
        exact ⟨by rw [HSN.out (by rw [if_neg k2])], HBA.out⟩
      obtain ⟨k, hk⟩ : ∃ k, m = k + 1 := ⟨m - 1, by omega⟩
      have hw : IntKind.i64.wrap ((m : Int) - 1) = (k : Int) := by rw [IntKind.wrap_i64]; omega
      have f1 : ¬ (m : Int) = 0 := by omega
      have f1' : ((m : Int) == 0) = false := by simp; omega
      have HK := hide' hk
      have hi1 : 0 < i := Tr.drun_pos HL.out.run (by rw [HM.out]; omega)
      have f2 : (0 : Int) < (i : Int) := by omega
      obtain ⟨j, hj⟩ : ∃ j, i = j + 1 := ⟨i - 1, by omega⟩
      have HJ := hide' hj
      have HNE : Hid (s.op ≠ []) := fun e => by have := HM.out; rw [e] at this; exact c0 this.symm
      clear hk hj hi1 c0
      replace HST := hide' (fun s' h => HST.out s' ((if_neg (fun h => HNE.out h.1)).trans h))
      replace HSN := hide' (fun h => HSN.out ((if_neg (fun h => HNE.out h.1)).trans h))
      by_cases k0 : kind = 0
      · subst k0
        replace HST := hide' (fun s' h => HST.out s' ((if_pos rfl).trans h))
        replace HSN := hide' (fun h => HSN.out ((if_pos rfl).trans h))
        by_cases a1 : num = (nd : Int)
        rotate_left
        · have a1' : (num == (nd : Int)) = false := by simpa using a1
          go_wp2_with fail
          refine bodyPost_ret (v := .tuple #[.bool false, .int .i64 0, .bool false]) (by simp [results, Tryd.results7, go_sem]) rfl ?_
          exact ⟨by rw [HSN.out (by rw [if_neg (fun h => a1 h.1)])], HBA.out⟩
        subst a1
        by_cases a2 : dep = (m : Int) + 1
        rotate_left
        · have a2' : (dep == (m : Int) + 1) = false := by simpa using a2
          go_wp2_with fail
          refine bodyPost_ret (v := .tuple #[.bool false, .int .i64 0, .bool false]) (by simp [results, Tryd.results7, go_sem]) rfl ?_
          exact ⟨by rw [HSN.out (by rw [if_neg (fun h => a2 h.2.1)])], HBA.out⟩
        subst a2
        by_cases a3 : tx.toList = []
        rotate_left
        · have a3' : (tx.toList == []) = false := by simpa using a3
          go_wp2_with fail
          refine bodyPost_ret (v := .tuple #[.bool false, .int .i64 0, .bool false]) (by simp [results, Tryd.results7, go_sem]) rfl ?_
          exact ⟨by rw [HSN.out (by rw [if_neg (fun h => by rw [Tr.okB, if_pos rfl] at h; have h := h.2.2; simp [Tr.isOpenB, a3] at h)])], HBA.out⟩
        have cn := CN.out _ HBA.out
        clear CN
        have CN := hide' cn
        clear cn
        cases a4 : Tr.nameB nm
        · rw [a4] at CN
          go_wp2_with fail
          refine CN.out.mono ?_
          rintro r w1 ⟨rfl, hb1⟩
          have HB1 := hide' (HBA.out.trans (hb1.mono HBA.out.size))
          clear hb1 CN
          go_wp2_with fail
          refine bodyPost_ret (v := .tuple #[.bool false, .int .i64 0, .bool false]) (by simp [results, Tryd.results7, go_sem]) rfl ?_
          exact ⟨by rw [HSN.out (by rw [if_neg (fun h => by rw [Tr.okB, if_pos rfl] at h; have h := h.2.2; simp [Tr.isOpenB, a4] at h)])], HB1.out⟩
        rw [a4] at CN
        go_wp2_with fail
        refine CN.out.mono ?_
        rintro r w1 ⟨rfl, hb1⟩
        have HB1 := hide' (HBA.out.trans (hb1.mono HBA.out.size))
        have HR1 := hide' (HRA.out.trans (hb1.mono HRA.out.size))
        have bx1 := HBX.out.keep hb1
        obtain ⟨z0, z1, z2, z3, z4, z5, z6, z7⟩ := bx1
        clear hb1 CN
        have ca := CA.out w1 HB1.out
        clear CA
        have CA := hide' ca
        clear ca
        cases a5 : Tr.atsB ats none
        · rw [a5] at CA
          go_wp2_with fail
          refine CA.out.mono ?_
          rintro r w2 ⟨rfl, hb2⟩
          have HB2 := hide' (HB1.out.trans (hb2.mono HB1.out.size))
          clear hb2 CA z0 z1 z2 z3 z4 z5 z6 z7
          go_wp2_with fail
          refine bodyPost_ret (v := .tuple #[.bool false, .int .i64 0, .bool false]) (by simp [results, Tryd.results7, go_sem]) rfl ?_
          exact ⟨by rw [HSN.out (by rw [if_neg (fun h => by rw [Tr.okB, if_pos rfl] at h; have h := h.2.2; simp [Tr.isOpenB, a5] at h)])], HB2.out⟩
        rw [a5] at CA
        go_wp2_with fail
        refine CA.out.mono ?_
        rintro r w2 ⟨rfl, hb2⟩
        have HB2 := hide' (HB1.out.trans (hb2.mono HB1.out.size))
        have HR2 := hide' (HR1.out.trans (hb2.mono HR1.out.size))
        clear hb2 CA z0 z1 z2 z3 z4 z5 z6 z7
        have own := Tr.keepB HL.out.row HR2.out (Nat.le_refl _)
        have OWN := hide' own
        clear own
        go_wp2_with (at_builtin; refine wpList_append_own _ rfl _ _ 52 rfl w.heap.size 3 i0 (.int .i64 0) 1 8 Tryd.underlying52 hi0 hz0 hz1 hz2 rfl (by decide) _ m (Tr.ic (Tr.opI s.op)) rfl (HOM.out (OWN.out.alloc _)) ⟨w2.heap.size, 0, none⟩ 1 1 [.int .i64 (i : Int)] rfl rfl ?d1 ?d2 ?d3 ?d4 ?d5 ?_)
        case d1 => exact Tr.newOne w2 i
        case d2 => exact Tr.oneOne i
        case d3 => unfold maxLen; omega
        case d4 => omega
        case d5 => have := HB2.out.size; simp; omega
        intro v' w3 hown' hgrow _
        have hL2 : Tr.BS w E (i + 1) ⟨s.op ++ [i], nd + 1⟩ v' w3 := ⟨HST.out _ (by simp [Tr.okB, Tr.isOpenB, a3, a4, a5]), by
            show w3.ownsRow _ _ _ _ _ _
            rw [Tr.opI_app, Tr.ic_app, List.length_append, HM.out]
            exact hown', (HB2.out.alloc HB2.out.size _).grown hgrow (by have := HB2.out.size; simp; omega) (fun k hk => (OWN.out.lt k hk).1)⟩
        have HL2 := hide' hL2
        clear hL2 hown' hgrow HST HSN HB1 HR1 HR2
        go_wp2_with fail
        exact ⟨⟨i + 1, _, rfl, HLT.out, rfl, HL2⟩, by have := HLT.out; simp [RowKit.intOf]; omega⟩
      by_cases k1 : kind = 1
      · have hst1 := HST.out
        have hsn1 := HSN.out
        rw [if_neg k0] at hst1 hsn1
        subst k1
        rw [if_pos rfl] at hst1 hsn1
        replace HST := hide' hst1
        replace HSN := hide' hsn1
        clear hst1 hsn1 k0
        by_cases a1 : num = (nd : Int)
        rotate_left
        · have a1' : (num == (nd : Int)) = false := by simpa using a1
          go_wp2_with fail
          refine bodyPost_ret (v := .tuple #[.bool false, .int .i64 0, .bool false]) (by simp [results, Tryd.results7, go_sem]) rfl ?_
          exact ⟨by rw [HSN.out (by rw [if_neg (fun h => a1 h.2.2.1)])], HBA.out⟩
        subst a1
        by_cases a2 : dep = (m : Int) + 1
        rotate_left
        · have a2' : (dep == (m : Int) + 1) = false := by simpa using a2
          go_wp2_with fail
          refine bodyPost_ret (v := .tuple #[.bool false, .int .i64 0, .bool false]) (by simp [results, Tryd.results7, go_sem]) rfl ?_
          exact ⟨by rw [HSN.out (by rw [if_neg (fun h => a2 h.2.2.2.1)])], HBA.out⟩
        subst a2
        by_cases a3 : nm.toList = []
        rotate_left
        · have a3' : (nm.toList == []) = false := by simpa using a3
          go_wp2_with fail
          refine bodyPost_ret (v := .tuple #[.bool false, .int .i64 0, .bool false]) (by simp [results, Tryd.results7, go_sem]) rfl ?_
          exact ⟨by rw [HSN.out (by rw [if_neg (fun h => by rw [Tr.okB, if_neg (by show ¬ (1 : Int) = 0; decide)] at h; have h := h.2.2.2.2; simp [Tr.isTextB, a3] at h)])], HBA.out⟩
        by_cases a4 : na = 0
        rotate_left
        · have a4' : (na : Int) > 0 := by omega
          go_wp2_with fail
          refine bodyPost_ret (v := .tuple #[.bool false, .int .i64 0, .bool false]) (by simp [results, Tryd.results7, go_sem]) rfl ?_
          exact ⟨by rw [HSN.out (by rw [if_neg (fun h => by rw [Tr.okB, if_neg (by show ¬ (1 : Int) = 0; decide)] at h; have h := h.2.2.2.2; simp [Tr.isTextB, HNA.out, a4] at h)])], HBA.out⟩
        subst a4
        by_cases a5 : tx.toList = []
        · have a5' : (tx.toList == []) = true := by simpa using a5
          go_wp2_with fail
          refine bodyPost_ret (v := .tuple #[.bool false, .int .i64 0, .bool false]) (by simp [results, Tryd.results7, go_sem]) rfl ?_
          exact ⟨by rw [HSN.out (by rw [if_neg (fun h => by rw [Tr.okB, if_neg (by show ¬ (1 : Int) = 0; decide)] at h; have h := h.2.2.2.2; simp [Tr.isTextB, a5] at h)])], HBA.out⟩
        have a5'' : tx.toList.isEmpty = false := by rw [List.isEmpty_eq_false_iff]; exact a5
        have ct := CT.out _ HBA.out
        clear CT
        have CT := hide' ct
        clear ct
        cases a6 : Tr.textB tx
        · rw [a6] at CT
          go_wp2_with fail
          refine CT.out.mono ?_
          rintro r w1 ⟨rfl, hb1⟩
          have HB1 := hide' (HBA.out.trans (hb1.mono HBA.out.size))
          clear hb1 CT
          go_wp2_with fail
          refine bodyPost_ret (v := .tuple #[.bool false, .int .i64 0, .bool false]) (by simp [results, Tryd.results7, go_sem]) rfl ?_
          exact ⟨by rw [HSN.out (by rw [if_neg (fun h => by rw [Tr.okB, if_neg (by show ¬ (1 : Int) = 0; decide)] at h; have h := h.2.2.2.2; simp [Tr.isTextB, a6] at h)])], HB1.out⟩
        rw [a6] at CT
        go_wp2_with fail
        refine CT.out.mono ?_
        rintro r w1 ⟨rfl, hb1⟩
        have HB1 := hide' (HBA.out.trans (hb1.mono HBA.out.size))
        have HR1 := hide' (HRA.out.trans (hb1.mono HRA.out.size))
        clear hb1 CT
        have kp := KP.out w1 HR1.out (by have := HJ.out; omega)
        have hjj := HJ.out
        rw [show i - 1 = j by omega] at kp
        have HKP := hide' (show (E (i - 1)).kind = (E j).kind by rw [show i - 1 = j by omega])
        obtain ⟨pk, hpk⟩ : ∃ pk, (E j).kind = pk := ⟨_, rfl⟩
        rw [hpk] at kp HKP
        clear hpk hjj
        have g2 : IntKind.i64.wrap ((i : Int) - 1) = (j : Int) := by rw [IntKind.wrap_i64]; have := HJ.out; omega
        have g3 : (j : Int) < (n : Int) := by have := HJ.out; omega
        have g4 : 0 ≤ (j : Int) := by omega
        by_cases a7 : pk = 1
        · have A7 := hide' a7
          subst a7
          go_wp2_with fail
          refine bodyPost_ret (v := .tuple #[.bool false, .int .i64 0, .bool false]) (by simp [results, Tryd.results7, go_sem]) rfl ?_
          exact ⟨by rw [HSN.out (by rw [if_neg (fun h => h.2.1 HKP.out)])], HB1.out⟩
        have a7' : (pk == 1) = false := by simpa using a7
        have hL2 : Tr.BS w E (i + 1) ⟨s.op, nd + 1⟩ (.slice p m cap) w1 := ⟨HST.out _ (by simp [Tr.okB, Tr.isTextB, HNA.out, HNE.out, HKP.out, a3, a5, a6, a7]), Tr.keepB HL.out.row HR1.out (Nat.le_refl _), HB1.out⟩
        have HL2 := hide' hL2
        clear hL2 HST HSN HR1
        go_wp2_with fail
        exact ⟨⟨i + 1, _, rfl, HLT.out, rfl, HL2⟩, by have := HLT.out; simp [RowKit.intOf]; omega⟩
      by_cases k2 : kind = 2
      · have hst1 := HST.out
        have hsn1 := HSN.out
        rw [if_neg k0, if_neg k1] at hst1 hsn1
        subst k2
        rw [if_pos rfl] at hst1 hsn1
        obtain ⟨o, ho⟩ : ∃ o, s.op[k]? = some o := ⟨_, List.getElem?_eq_getElem (by rw [HM.out]; have := HK.out; omega)⟩
        have hl : s.op.getLast? = some o := by rw [List.getLast?_eq_getElem?, HM.out, HK.out]; exact ho
        rw [hl] at hst1 hsn1
        dsimp only at hst1 hsn1
        replace HST := hide' hst1
        replace HSN := hide' hsn1
        clear hst1 hsn1 k0 k1
        by_cases a3 : tx.toList = []
        rotate_left
        · have a3' : (tx.toList == []) = false := by simpa using a3
          go_wp2_with fail
          refine bodyPost_ret (v := .tuple #[.bool false, .int .i64 0, .bool false]) (by simp [results, Tryd.results7, go_sem]) rfl ?_
          exact ⟨by rw [HSN.out (by rw [if_neg (fun h => by simp [Tr.closes, a3] at h)])], HBA.out⟩
        by_cases a4 : na = 0
        rotate_left
        · have a4' : (na : Int) > 0 := by omega
          go_wp2_with fail
          refine bodyPost_ret (v := .tuple #[.bool false, .int .i64 0, .bool false]) (by simp [results, Tryd.results7, go_sem]) rfl ?_
          exact ⟨by rw [HSN.out (by rw [if_neg (fun h => by simp [Tr.closes, HNA.out, a4] at h)])], HBA.out⟩
        subst a4
        obtain ⟨g, rfl⟩ := HG.out (by have := HK.out; omega)
        have own := Tr.keepB HL.out.row HRA.out (Nat.le_refl _)
        have hoi : o < i := by have h := Tr.grun_inv i s HL.out.run; obtain ⟨_, _, _, h3, _⟩ := h.opn k o ho; exact h3
        have y0 := own.cells (g := g) rfl k (.int .i64 (o : Int)) (Tr.ic_get _ _ _ (Tr.opI_get _ _ _ ho))
        rw [Go.WideShapes.add_plain, Nat.zero_add] at y0
        obtain ⟨l0, l1, l2, l3, l4, l5, l6, l7⟩ := KA.out o (by have := HLT.out; omega)
        have kk2 : ∀ {a : Addr} {u}, w.cell? a = some u → (wr.alloc (.cells #[.int .i64 2, .int .i64 num, .int .i64 dep, .string nm, .slice pa 0 ca, .string tx, .int .i64 fr, .int .i64 be] 39)).cell? a = some u := fun {a u} hu => (HBA.out.cell (p := a) (block_lt_of_cell hu)).trans hu
        have y1 := kk2 l0
        have y2 := kk2 l1
        have y3 := kk2 l2
        have y4 := kk2 l3
        have y5 := kk2 l4
        have y6 := kk2 l5
        have y7 := kk2 l6
        have y8 := kk2 l7
        clear l0 l1 l2 l3 l4 l5 l6 l7 kk2
        have hav2 := HV2.out o (by have := HLT.out; omega)
        obtain ⟨eo, heo⟩ : ∃ eo, E o = eo := ⟨_, rfl⟩
        simp only [heo] at y1 y2 y3 y4 y5 y6 y7 y8 HST HSN hav2
        obtain ⟨kind', num', dep', nm', av', ats', tx', fr', be'⟩ := eo
        dsimp only at y1 y2 y3 y4 y5 y6 y7 y8 hav2
        obtain ⟨pa', na', ca', rfl⟩ := hav2
        have HB2 := hide' (HBA.out.alloc HBA.out.size (.cells #[.int .i64 kind', .int .i64 num', .int .i64 dep', .string nm', .slice pa' na' ca', .string tx', .int .i64 fr', .int .i64 be'] 39))
        have g2 : (k : Int) < (m : Int) := by have := HK.out; omega
        have g3 : 0 ≤ (k : Int) := by omega
        have g4 : (k : Int) ≤ (cap : Int) := by omega
        have g5 : (o : Int) < (n : Int) := by have := HLT.out; omega
        have g6 : 0 ≤ (o : Int) := by omega
        have OWN := hide' own
        clear own heo ho hl hoi
        by_cases a5 : num = num'
        rotate_left
        · have a5' : (num == num') = false := by simpa using a5
          go_wp2_with fail
          refine bodyPost_ret (v := .tuple #[.bool false, .int .i64 0, .bool false]) (by simp [results, Tryd.results7, go_sem]) rfl ?_
          exact ⟨by rw [HSN.out (by rw [if_neg (fun h => by simp [Tr.closes, a5] at h)])], HB2.out⟩
        subst a5
        by_cases a6 : dep = dep'
        rotate_left
        · have a6' : (dep == dep') = false := by simpa using a6
          go_wp2_with fail
          refine bodyPost_ret (v := .tuple #[.bool false, .int .i64 0, .bool false]) (by simp [results, Tryd.results7, go_sem]) rfl ?_
          exact ⟨by rw [HSN.out (by rw [if_neg (fun h => by simp [Tr.closes, a6] at h)])], HB2.out⟩
        subst a6
        by_cases a7 : nm.toList = nm'.toList
        rotate_left
        · have a7' : (nm.toList == nm'.toList) = false := by simpa using a7
          go_wp2_with fail
          refine bodyPost_ret (v := .tuple #[.bool false, .int .i64 0, .bool false]) (by simp [results, Tryd.results7, go_sem]) rfl ?_
          exact ⟨by rw [HSN.out (by rw [if_neg (fun h => by simp [Tr.closes, a7] at h)])], HB2.out⟩
        have a7' : (nm.toList == nm'.toList) = true := by simpa using a7
        have hL2 : Tr.BS w E (i + 1) ⟨s.op.dropLast, nd⟩ (.slice (some ⟨g, 0, none⟩) k cap) ((wr.alloc (.cells #[.int .i64 2, .int .i64 num, .int .i64 dep, .string nm, .slice pa 0 ca, .string tx, .int .i64 fr, .int .i64 be] 39)).alloc (.cells #[.int .i64 kind', .int .i64 num, .int .i64 dep, .string nm', .slice pa' na' ca', .string tx', .int .i64 fr', .int .i64 be'] 39)) := by
          refine ⟨HST.out _ (by simp [Tr.closes, HNA.out, a3, a7]), ?_, HB2.out⟩
          have own2 := Tr.owns_shrink (HOM.out (OWN.out.alloc (.cells #[.int .i64 kind', .int .i64 num, .int .i64 dep, .string nm', .slice pa' na' ca', .string tx', .int .i64 fr', .int .i64 be'] 39))) (m := k) (by have h2 := HK.out; omega)
          have e : s.op.dropLast = s.op.take k := by rw [List.dropLast_eq_take, HM.out, HK.out]; rfl
          have e2 : s.op.dropLast.length = k := by rw [List.length_dropLast, HM.out, HK.out]; rfl
          rw [Nat.mul_one, ← Tr.ic_take, ← Tr.opI_take, ← e] at own2
          show World.ownsRow _ _ _ _ _ s.op.dropLast.length _
          rw [e2]
          exact own2
        have HL2 := hide' hL2
        clear hL2 HST HSN OWN HB2
        go_wp2_with fail
        exact ⟨⟨i + 1, _, rfl, HLT.out, rfl, HL2⟩, by have := HLT.out; simp [RowKit.intOf]; omega⟩
      have hsn1 := HSN.out
      rw [if_neg k0, if_neg k1] at hsn1
      replace HSN := hide' hsn1
      clear hsn1
      go_wp2_with fail
      refine bodyPost_ret (v := .tuple #[.bool false, .int .i64 0, .bool false]) (by simp [results, Tryd.results7, go_sem]) rfl ?_
      exact ⟨by rw [HSN.out (by rw [if_neg k2])], HBA.out⟩
    · have t1 : ¬ (i : Int) < (n : Int) := by omega
      obtain rfl : i = n := by omega
      have hd : Tr.begA E i = .tuple #[.bool true, .int .i64 m, .bool (decide (0 < i) && decide (m = 0))] := by
        unfold Tr.begA
        rw [HL.out.run]
        dsimp only
        rw [HM.out]
      have HDC := hide' hd
      have HBL := hide' HL.out.bel
      clear hd HL HR CN CT CA HV HG hpn HM HD HNA HOM
      by_cases c1 : i = 0
      · subst c1
        have f1 : ¬ (0 : Int) < ((0 : Nat) : Int) := by omega
        go_wp2_with fail
        refine bodyPost_ret (v := .tuple #[.bool true, .int .i64 m, .bool false]) (by simp [results, Tryd.results7, go_sem]) rfl ?_
        exact ⟨by rw [HDC.out]; rfl, HBL.out⟩
      · have f1 : (0 : Int) < (i : Int) := by omega
        by_cases c2 : m = 0
        · have f3 : ((m : Int) == 0) = true := by simp; omega
          have C2 := hide' c2
          clear c2
          go_wp2_with fail
          refine bodyPost_ret (v := .tuple #[.bool true, .int .i64 m, .bool true]) (by simp [results, Tryd.results7, go_sem]) rfl ?_
          exact ⟨by rw [HDC.out, decide_eq_true (by omega), decide_eq_true C2.out]; rfl, HBL.out⟩
        · have f3 : ((m : Int) == 0) = false := by simp; omega
          have f3' : ¬ (m : Int) = 0 := by omega
          go_wp2_with fail
          refine bodyPost_ret (v := .tuple #[.bool true, .int .i64 m, .bool false]) (by simp [results, Tryd.results7, go_sem]) rfl ?_
          exact ⟨by rw [HDC.out, decide_eq_false c2, Bool.and_false], HBL.out⟩
end Go.Proofs.YtcmjipgigkalcaaDoor
