/-
  THE WALK over tree.areDocument. (Made by gen_docc.py.)
-/
import Derived.Test.YtcmjipgigkalcaaDoorTrDocB
import Derived.Deep.RegionHeld
import Derived.WideShapes
namespace Go.Proofs.YtcmjipgigkalcaaDoor
open Go.RowKit Go.Lib
namespace Tr
/-- an event in a block of its own -/
def Box (W : World) (b : Nat) (e : Ev Value) : Prop :=
  W.cell? ⟨b, 0, none⟩ = some (.int .i64 e.kind) ∧ W.cell? ⟨b, 1, none⟩ = some (.int .i64 e.num) ∧ W.cell? ⟨b, 2, none⟩ = some (.int .i64 e.dep) ∧ W.cell? ⟨b, 3, none⟩ = some (.string e.nm) ∧
  W.cell? ⟨b, 4, none⟩ = some e.av ∧ W.cell? ⟨b, 5, none⟩ = some (.string e.tx) ∧ W.cell? ⟨b, 6, none⟩ = some (.int .i64 e.fr) ∧ W.cell? ⟨b, 7, none⟩ = some (.int .i64 e.be)
theorem Box.keep {W W' : World} {b : Nat} {e : Ev Value} (h : Box W b e) (hb : Below W.heap.size W W') : Box W' b e := by
  obtain ⟨h0, h1, h2, h3, h4, h5, h6, h7⟩ := h
  have k : ∀ {j : Nat} {u}, W.cell? ⟨b, j, none⟩ = some u → W'.cell? ⟨b, j, none⟩ = some u := fun {j u} hu => (hb.cell (p := ⟨b, j, none⟩) (block_lt_of_cell hu)).trans hu
  exact ⟨k h0, k h1, k h2, k h3, k h4, k h5, k h6, k h7⟩
theorem Box.new (W : World) (e : Ev Value) (t : TypeId) : Box (W.alloc (.cells e.cs t)) W.heap.size e := by
  unfold Box Ev.cs
  simp
theorem cells_ofRow {W : World} {B t g n cap : Nat} {E : Nat → Ev Value} {l : List Nat} {k i : Nat} (h : W.ownsRow B t 8 (.slice (some ⟨g, 0, none⟩) n cap) n (cells E l)) (hk : l[k]? = some i) :
    W.cell? ⟨g, k * 8, none⟩ = some (.int .i64 (E i).kind) ∧ W.cell? ⟨g, k * 8 + 1, none⟩ = some (.int .i64 (E i).num) ∧ W.cell? ⟨g, k * 8 + 2, none⟩ = some (.int .i64 (E i).dep) ∧ W.cell? ⟨g, k * 8 + 3, none⟩ = some (.string (E i).nm) ∧
    W.cell? ⟨g, k * 8 + 4, none⟩ = some (E i).av ∧ W.cell? ⟨g, k * 8 + 5, none⟩ = some (.string (E i).tx) ∧ W.cell? ⟨g, k * 8 + 6, none⟩ = some (.int .i64 (E i).fr) ∧ W.cell? ⟨g, k * 8 + 7, none⟩ = some (.int .i64 (E i).be) := by
  have hc : ∀ j u, j < 8 → (E i).cs[j]? = some u → W.cell? ⟨g, k * 8 + j, none⟩ = some u := by
    intro j u hj hu
    have := h.cells (g := g) rfl (k * 8 + j) u (by rw [cells_get E l k i j hk hj]; exact hu)
    rw [show (Addr.add ⟨g, 0, none⟩ (k * 8 + j)) = ⟨g, 0 + (k * 8 + j), none⟩ from Go.WideShapes.add_plain _ _ _, Nat.zero_add] at this
    exact this
  exact ⟨hc 0 _ (by omega) rfl, hc 1 _ (by omega) rfl, hc 2 _ (by omega) rfl, hc 3 _ (by omega) rfl, hc 4 _ (by omega) rfl, hc 5 _ (by omega) rfl, hc 6 _ (by omega) rfl, hc 7 _ (by omega) rfl⟩
theorem keep16 {W W' : World} {a0 a1 a2 a3 a4 a5 a6 a7 c0 c1 c2 c3 c4 c5 c6 c7 : Addr} {u0 u1 u2 u3 u4 u5 u6 u7 v0 v1 v2 v3 v4 v5 v6 v7 : Value}
    (h : W.cell? a0 = some u0 ∧ W.cell? a1 = some u1 ∧ W.cell? a2 = some u2 ∧ W.cell? a3 = some u3 ∧ W.cell? a4 = some u4 ∧ W.cell? a5 = some u5 ∧ W.cell? a6 = some u6 ∧ W.cell? a7 = some u7 ∧ W.cell? c0 = some v0 ∧ W.cell? c1 = some v1 ∧ W.cell? c2 = some v2 ∧ W.cell? c3 = some v3 ∧ W.cell? c4 = some v4 ∧ W.cell? c5 = some v5 ∧ W.cell? c6 = some v6 ∧ W.cell? c7 = some v7) (hb : Below W.heap.size W W') :
    W'.cell? a0 = some u0 ∧ W'.cell? a1 = some u1 ∧ W'.cell? a2 = some u2 ∧ W'.cell? a3 = some u3 ∧ W'.cell? a4 = some u4 ∧ W'.cell? a5 = some u5 ∧ W'.cell? a6 = some u6 ∧ W'.cell? a7 = some u7 ∧ W'.cell? c0 = some v0 ∧ W'.cell? c1 = some v1 ∧ W'.cell? c2 = some v2 ∧ W'.cell? c3 = some v3 ∧ W'.cell? c4 = some v4 ∧ W'.cell? c5 = some v5 ∧ W'.cell? c6 = some v6 ∧ W'.cell? c7 = some v7 := by
  have k : ∀ {a : Addr} {u}, W.cell? a = some u → W'.cell? a = some u := fun {a u} hu => (hb.cell (p := a) (block_lt_of_cell hu)).trans hu
  obtain ⟨h0, h1, h2, h3, h4, h5, h6, h7, g0, g1, g2, g3, g4, g5, g6, g7⟩ := h
  exact ⟨k h0, k h1, k h2, k h3, k h4, k h5, k h6, k h7, k g0, k g1, k g2, k g3, k g4, k g5, k g6, k g7⟩
def ev0 : Array Value := #[.int .i64 0, .int .i64 0, .int .i64 0, .string ⟨#[]⟩, .slice none 0 0, .string ⟨#[]⟩, .int .i64 0, .int .i64 0]
theorem evInfo : (Tryd.prog.info? 39).map (fun i => (i.zero, i.size, i.bytes)) = some (some (.agg ev0), 8, 96) := by kernel_rfl
theorem drun_stop {V : Type} {ok : Ev V → Bool} {E : Nat → Ev V} {i : Nat} (h : drun ok E i = none) : ∀ k, drun ok E (i + k) = none
  | 0 => h
  | k + 1 => by
    show drun ok E (i + k + 1) = none
    unfold drun
    rw [drun_stop h k]
theorem doc_stop {V : Type} {ok : Ev V → Bool} {E : Nat → Ev V} {i n : Nat} {s : Ds} (h : drun ok E i = some s) (h2 : dstep ok E s i = none) (hi : i < n) : doc ok E n = false := by
  have h3 : drun ok E (i + 1) = none := by unfold drun; rw [h]; exact h2
  have h4 := drun_stop h3 (n - (i + 1))
  rw [show i + 1 + (n - (i + 1)) = n by omega] at h4
  unfold doc
  rw [h4]
theorem drun_step {V : Type} {ok : Ev V → Bool} {E : Nat → Ev V} {i : Nat} {s s' : Ds} (h : drun ok E i = some s) (h2 : dstep ok E s i = some s') : drun ok E (i + 1) = some s' := by
  unfold drun
  rw [h]
  exact h2
/-- between two events -/
structure LI (w : World) (E : Nat → Ev Value) (i : Nat) (s : Ds) (v : Value) (wr : World) : Prop where
  run : drun okB E i = some s
  row : wr.ownsRow w.heap.size 39 8 v s.op.length (cells E s.op)
  bel : Below w.heap.size w wr
theorem owns_sl {w : World} {B t size n : Nat} {v : Value} {xs : List Value} (h : w.ownsRow B t size v n xs) : ∃ p cap, v = .slice p n cap ∧ n ≤ cap ∧ cap ≤ 9223372036854775807 ∧ (0 < n → ∃ g, p = some ⟨g, 0, none⟩) ∧ (p = none → n = 0 ∧ cap = 0) := by
  rcases h.2 with ⟨rfl, rfl⟩ | ⟨g, cap, cur, rfl, _, _, h1, h2, _⟩
  · exact ⟨none, 0, rfl, Nat.le_refl _, by omega, fun h => absurd h (by omega), fun _ => ⟨rfl, rfl⟩⟩
  · exact ⟨_, cap, rfl, h1, by unfold maxLen at h2; omega, fun _ => ⟨g, rfl⟩, fun e => by cases e⟩
end Tr
set_option maxRecDepth 100000 in
set_option maxHeartbeats 4000000 in
theorem trAreDocument (v : Value) (n : Nat) (E : Nat → Tr.Ev Value) (w : World) (hE : Tr.Evs w v n E) (hs : ∀ i, i < n → Tr.Small (E i)) (hn : n ≤ 1466015503658) (hS : Spans w) (hT : Lib.Utf8Tabs 1 2 w) :
    Calls Tryd.prog 23 #[v] w fun r w' => r = .returned (.bool (Tr.doc Tr.okB E n)) ∧ Below w.heap.size w w' := by
  obtain ⟨i0, hi0, hz0, hz1, hz2⟩ := info_parts Tr.evInfo
  have cO : ∀ (i : Nat) w1, i < n → Below w.heap.size w w1 → _ := fun i w1 h hb => trIsOpen (E i) w1 (hs i h) ((hE.att i h).below hb (Nat.le_refl _)) (hS.below hb (Nat.le_refl _)) (tabs_below hT hb (Nat.le_refl _))
  have cX : ∀ (i : Nat) w1, i < n → Below w.heap.size w w1 → _ := fun i w1 h hb => trIsText (E i) w1 (hs i h).2.1 ((hE.att i h).below hb (Nat.le_refl _)) (hS.below hb (Nat.le_refl _)) (tabs_below hT hb (Nat.le_refl _))
  have cC : ∀ (i : Nat) (o : Tr.Ev Value) w1, i < n → Below w.heap.size w w1 → _ := fun i o w1 h hb => trCloses (E i) o w1 ((hE.att i h).below hb (Nat.le_refl _))
  have hav : ∀ i, i < n → ∃ pa na ca, (E i).av = .slice pa na ca := fun i h => by
    obtain ⟨pa, ca, e, _⟩ := hE.att i h
    exact ⟨pa, _, ca, e⟩
  have hone : ∀ i, i < n → ∀ u ∈ (E i).cs.toList, u.oneCell' = true := fun i h => Tr.cs_one (hE.att i h).one
  have hrow := hE.row.at
  obtain ⟨p0, cap0, rfl, r1, r2, _⟩ := hE.row
  have CO := hide' cO
  have CX := hide' cX
  have CC := hide' cC
  have HO := hide' hone
  have HV := hide' hav
  have HR := hide' hrow
  clear hE hs hS hT cO cX cC hone hrow hav
  go_enter Tryd.func23, Tryd.ntmps23
  go_wp2_with fail
  go_loopw [3, 4, 10] (fun a b v wr => ∃ (i : Nat) (s : Tr.Ds), v = .int .i64 i ∧ i ≤ n ∧ b = .int .i64 (s.nd : Nat) ∧ Hid (Tr.LI w E i s a wr)) (fun _ _ v _ => n - (RowKit.intOf v).toNat)
  case atStart => exact ⟨0, ⟨[], 0⟩, rfl, Nat.zero_le _, rfl, hide' ⟨rfl, World.ownsRow_nil _ _ _ _, Below.refl _ _⟩⟩
  case round =>
    obtain ⟨i, s, rfl, hi, rfl, HL⟩ := hrel
    obtain ⟨p, cap, rfl, hmc, hcm, hg, hpn⟩ := Tr.owns_sl HL.out.row
    have hgi := Tr.grun_inv i s HL.out.run
    have hnd : s.nd ≤ 1466015503658 := by have := hgi.ndi; omega
    have hop : s.op.length ≤ 1466015503658 := Nat.le_trans (Tr.drun_op i s HL.out.run) hnd
    obtain ⟨m, hm⟩ : ∃ m, s.op.length = m := ⟨_, rfl⟩
    obtain ⟨nd, hnd'⟩ : ∃ nd, s.nd = nd := ⟨_, rfl⟩
    rw [hm] at hmc hg hpn hop
    rw [hnd'] at hnd
    simp only [hm, hnd']
    have HM := hide' hm
    have HD := hide' hnd'
    have HG := hide' hg
    clear hgi hm hnd' hg
    by_cases hlt : i < n
    · have t1 : (i : Int) < (n : Int) := by omega
      obtain ⟨b0, o0, cap0', e0, r1', r2', ka⟩ := HR.out (by omega)
      obtain ⟨rfl, rfl⟩ : p0 = some ⟨b0, o0, none⟩ ∧ cap0 = cap0' := by cases e0; exact ⟨rfl, rfl⟩
      obtain ⟨k0, k1, k2, k3, k4, k5, k6, k7⟩ := ka i hlt
      have kk : ∀ {a : Addr} {u}, w.cell? a = some u → wr.cell? a = some u := fun {a u} hu => (HL.out.bel.cell (p := a) (block_lt_of_cell hu)).trans hu
      have q0 := kk k0
      have q1 := kk k1
      have q2 := kk k2
      have q3 := kk k3
      have q4 := kk k4
      have q5 := kk k5
      have q6 := kk k6
      have q7 := kk k7
      have KP : Hid (∀ W', Below wr.heap.size wr W' → 0 < i → W'.cell? ⟨b0, o0 + (i - 1) * 8, none⟩ = some (.int .i64 (E (i - 1)).kind)) := fun W' hb _ => by
        have h1 := kk (ka (i - 1) (by omega)).1
        exact (hb.cell (p := ⟨b0, o0 + (i - 1) * 8, none⟩) (block_lt_of_cell h1)).trans h1
      have hbA := HL.out.bel.alloc HL.out.bel.size (.cells (E i).cs 39)
      have hrA : Below wr.heap.size wr (wr.alloc (.cells (E i).cs 39)) := (Below.refl _ _).alloc (Nat.le_refl _) _
      have hbx := Tr.Box.new wr (E i) 39
      have cOi : ∀ w1, Below w.heap.size w w1 → _ := fun w1 hb => CO.out i w1 hlt hb
      have cXi : ∀ w1, Below w.heap.size w w1 → _ := fun w1 hb => CX.out i w1 hlt hb
      have cCi : ∀ o w1, Below w.heap.size w w1 → _ := fun o w1 hb => CC.out i o w1 hlt hb
      have hone := HO.out i hlt
      have hav := HV.out i hlt
      have hav0 := HV.out
      have hst : ∀ s', Tr.dstep Tr.okB E s i = some s' → Tr.drun Tr.okB E (i + 1) = some s' := fun s' h => Tr.drun_step HL.out.run h
      have hsn : Tr.dstep Tr.okB E s i = none → Tr.doc Tr.okB E n = false := fun h => Tr.doc_stop HL.out.run h hlt
      have hcs := Tr.cells_app E s.op i
      unfold Tr.dstep at hst hsn
      simp only [HM.out, HD.out] at hst hsn
      obtain ⟨e, he⟩ : ∃ e, E i = e := ⟨_, rfl⟩
      simp only [he] at q0 q1 q2 q3 q4 q5 q6 q7 hav hbA hrA hbx cOi cXi cCi hone hst hsn hcs
      clear k0 k1 k2 k3 k4 k5 k6 k7 kk ka CO CX CC HO HR HV
      have HE := hide' he
      clear he e0
      obtain ⟨kind, num, dep, nm, av, ats, tx, fr, be⟩ := e
      dsimp only at hav
      obtain ⟨pa, na, ca, rfl⟩ := hav
      simp only [Tr.Ev.cs] at hbA hrA hbx cOi cXi cCi hone hcs
      have cN := trIsNext (⟨kind, num, dep, nm, .slice pa na ca, ats, tx, fr, be⟩ : Tr.Ev Value) (nd : Int) (m : Int) (wr.alloc (.cells #[.int .i64 kind, .int .i64 num, .int .i64 dep, .string nm, .slice pa na ca, .string tx, .int .i64 fr, .int .i64 be] 39)) (by omega) (by omega)
      dsimp only [Tr.Ev.cs] at cN q0 q1 q2 q3 q4 q5 q6 q7 hst hsn
      have HBA := hide' hbA
      have HRA := hide' hrA
      have HBX := hide' hbx
      have CO := hide' cOi
      have CX := hide' cXi
      have CC := hide' cCi
      have CN := hide' cN
      have HONE := hide' hone
      have HV2 := hide' hav0
      have HST := hide' hst
      have HSN := hide' hsn
      have HCS := hide' hcs
      have HLT := hide' hlt
      clear hbA hrA hbx cOi cXi cCi cN hone hst hsn hcs hlt hav0
      by_cases c0 : m = 0
      · have hw : IntKind.i64.wrap ((m : Int) - 1) = -1 := by rw [IntKind.wrap_i64]; omega
        have C0 := hide' c0
        clear c0
        by_cases ci : 0 < i
        · have f2 : (0 : Int) < (i : Int) := by omega
          go_wp2_with fail
          go_ret
          exact ⟨by rw [HSN.out (by rw [if_pos ⟨List.eq_nil_of_length_eq_zero (HM.out.trans C0.out), ci⟩])]; rfl, HBA.out⟩
        have f2 : ¬ (0 : Int) < (i : Int) := by omega
        replace HST := hide' (fun s' h => HST.out s' ((if_neg (fun h => ci h.2)).trans h))
        replace HSN := hide' (fun h => HSN.out ((if_neg (fun h => ci h.2)).trans h))
        by_cases k0 : kind = 0
        · subst k0
          replace HST := hide' (fun s' h => HST.out s' ((if_pos rfl).trans h))
          replace HSN := hide' (fun h => HSN.out ((if_pos rfl).trans h))
          go_wp2_with fail
          refine CN.out.mono ?_
          rintro r w1 ⟨rfl, hb1⟩
          have HB1 := hide' (HBA.out.trans (hb1.mono HBA.out.size))
          have HR1 := hide' (HRA.out.trans (hb1.mono HRA.out.size))
          have bx1 := HBX.out.keep hb1
          have HBX1 := hide' bx1
          clear hb1 CN
          cases b1 : (num == (nd : Int) && dep == (m : Int) + 1)
          · clear bx1
            go_wp2_with fail
            go_ret
            exact ⟨by rw [HSN.out (by rw [if_neg (fun h => by simp [h.1, h.2.1] at b1)])]; rfl, HB1.out⟩
          have b1' : num = (nd : Int) ∧ dep = (m : Int) + 1 := by simpa using b1
          obtain ⟨rfl, rfl⟩ := b1'
          obtain ⟨z0, z1, z2, z3, z4, z5, z6, z7⟩ := bx1
          clear b1
          go_wp2_with fail
          refine (CO.out w1 HB1.out).mono ?_
          rintro r w2 ⟨rfl, hb2⟩
          have HB2 := hide' (HB1.out.trans (hb2.mono HB1.out.size))
          have HR2 := hide' (HR1.out.trans (hb2.mono HR1.out.size))
          have bx2 := HBX1.out.keep hb2
          clear hb2 CO z0 z1 z2 z3 z4 z5 z6 z7
          cases b2 : Tr.isOpenB (⟨0, (nd : Int), (m : Int) + 1, nm, .slice pa na ca, ats, tx, fr, be⟩ : Tr.Ev Value)
          · clear bx2
            go_wp2_with fail
            go_ret
            exact ⟨by rw [HSN.out (by rw [if_neg (fun h => by rw [Tr.okB, if_pos rfl, b2] at h; cases h.2.2)])]; rfl, HB2.out⟩
          obtain ⟨z0, z1, z2, z3, z4, z5, z6, z7⟩ := bx2
          have own := Tr.keepB HL.out.row HR2.out (Nat.le_refl _)
          rw [HM.out] at own
          have OWN := hide' own
          clear own
          go_wp2_with (at_builtin; refine wpList_append_own _ rfl _ _ 22 rfl w.heap.size 39 i0 (.agg Tr.ev0) 8 96 Tryd.underlying22 hi0 hz0 hz1 hz2 rfl (by decide) _ m (Tr.cells E s.op) rfl (OWN.out.alloc _) ⟨w2.heap.size, 0, none⟩ 1 1 [.int .i64 0, .int .i64 (nd : Int), .int .i64 ((m : Int) + 1), .string nm, .slice pa na ca, .string tx, .int .i64 fr, .int .i64 be] rfl rfl ?c1 ?c2 ?c3 ?c4 ?c5 ?_)
          case c1 =>
            intro j u hj
            match j, hj with
            | 0, hj | 1, hj | 2, hj | 3, hj | 4, hj | 5, hj | 6, hj | 7, hj => simp at hj; subst hj; simp [Addr.add]
          case c2 => exact HONE.out
          case c3 => unfold maxLen; omega
          case c4 => omega
          case c5 => have := HB2.out.size; simp; omega
          intro v' w3 hown' hgrow _
          have hL2 : Tr.LI w E (i + 1) ⟨s.op ++ [i], nd + 1⟩ v' w3 := ⟨HST.out _ (by simp [Tr.okB, b2]), by rw [HCS.out, List.length_append, HM.out]; exact hown', (HB2.out.alloc HB2.out.size _).grown hgrow (by have := HB2.out.size; simp; omega) (fun k hk => (OWN.out.lt k hk).1)⟩
          have HL2 := hide' hL2
          clear hL2 hown' hgrow z0 z1 z2 z3 z4 z5 z6 z7 HST HSN HB1 HR1 HBX1 HR2
          go_wp2_with fail
          exact ⟨⟨i + 1, _, rfl, HLT.out, rfl, HL2⟩, by have := HLT.out; simp [RowKit.intOf]; omega⟩
        by_cases k1 : kind = 1
        · have hsn1 := HSN.out
          rw [if_neg k0, if_pos k1] at hsn1
          replace HSN := hide' hsn1
          clear hsn1 HST k0
          subst k1
          go_wp2_with fail
          go_ret
          exact ⟨by rw [HSN.out (by rw [if_neg (fun h => h.1 (List.eq_nil_of_length_eq_zero (HM.out.trans C0.out)))])]; rfl, HBA.out⟩
        have hsn1 := HSN.out
        rw [if_neg k0, if_neg k1, List.eq_nil_of_length_eq_zero (HM.out.trans C0.out)] at hsn1
        replace HSN := hide' hsn1
        clear hsn1 HST
        by_cases k2 : kind = 2
        · subst k2
          go_wp2_with fail
          go_quiet (fail)
          go_wp2_with fail
          go_ret
          exact ⟨by rw [HSN.out (by simp)]; rfl, below_drewN HBA.out nq⟩
        go_wp2_with fail
        go_ret
        exact ⟨by rw [HSN.out (by rw [if_neg k2])]; rfl, HBA.out⟩
      obtain ⟨k, hk⟩ : ∃ k, m = k + 1 := ⟨m - 1, by omega⟩
      have hw : IntKind.i64.wrap ((m : Int) - 1) = (k : Int) := by rw [IntKind.wrap_i64]; omega
      have f1 : ¬ (k : Int) < 0 := by omega
      have HK := hide' hk
      have hi1 : 0 < i := Tr.drun_pos HL.out.run (by rw [HM.out]; omega)
      obtain ⟨j, hj⟩ : ∃ j, i = j + 1 := ⟨i - 1, by omega⟩
      have HJ := hide' hj
      have HNE : Hid (s.op ≠ []) := fun e => by have := HM.out; rw [e] at this; exact c0 this.symm
      clear hk hj hi1 c0
      replace HST := hide' (fun s' h => HST.out s' ((if_neg (fun h => HNE.out h.1)).trans h))
      replace HSN := hide' (fun h => HSN.out ((if_neg (fun h => HNE.out h.1)).trans h))
      by_cases k0 : kind = 0
      · subst k0
        replace HST := hide' (fun s' h => HST.out s' ((if_pos rfl).trans h))
        replace HSN := hide' (fun h => HSN.out ((if_pos rfl).trans h))
        go_wp2_with fail
        refine CN.out.mono ?_
        rintro r w1 ⟨rfl, hb1⟩
        have HB1 := hide' (HBA.out.trans (hb1.mono HBA.out.size))
        have HR1 := hide' (HRA.out.trans (hb1.mono HRA.out.size))
        have bx1 := HBX.out.keep hb1
        have HBX1 := hide' bx1
        clear hb1 CN
        cases b1 : (num == (nd : Int) && dep == (m : Int) + 1)
        · clear bx1
          go_wp2_with fail
          go_ret
          exact ⟨by rw [HSN.out (by rw [if_neg (fun h => by simp [h.1, h.2.1] at b1)])]; rfl, HB1.out⟩
        have b1' : num = (nd : Int) ∧ dep = (m : Int) + 1 := by simpa using b1
        obtain ⟨rfl, rfl⟩ := b1'
        obtain ⟨z0, z1, z2, z3, z4, z5, z6, z7⟩ := bx1
        clear b1
        go_wp2_with fail
        refine (CO.out w1 HB1.out).mono ?_
        rintro r w2 ⟨rfl, hb2⟩
        have HB2 := hide' (HB1.out.trans (hb2.mono HB1.out.size))
        have HR2 := hide' (HR1.out.trans (hb2.mono HR1.out.size))
        have bx2 := HBX1.out.keep hb2
        clear hb2 CO z0 z1 z2 z3 z4 z5 z6 z7
        cases b2 : Tr.isOpenB (⟨0, (nd : Int), (m : Int) + 1, nm, .slice pa na ca, ats, tx, fr, be⟩ : Tr.Ev Value)
        · clear bx2
          go_wp2_with fail
          go_ret
          exact ⟨by rw [HSN.out (by rw [if_neg (fun h => by rw [Tr.okB, if_pos rfl, b2] at h; cases h.2.2)])]; rfl, HB2.out⟩
        obtain ⟨z0, z1, z2, z3, z4, z5, z6, z7⟩ := bx2
        have own := Tr.keepB HL.out.row HR2.out (Nat.le_refl _)
        rw [HM.out] at own
        have OWN := hide' own
        clear own
        go_wp2_with (at_builtin; refine wpList_append_own _ rfl _ _ 22 rfl w.heap.size 39 i0 (.agg Tr.ev0) 8 96 Tryd.underlying22 hi0 hz0 hz1 hz2 rfl (by decide) _ m (Tr.cells E s.op) rfl (OWN.out.alloc _) ⟨w2.heap.size, 0, none⟩ 1 1 [.int .i64 0, .int .i64 (nd : Int), .int .i64 ((m : Int) + 1), .string nm, .slice pa na ca, .string tx, .int .i64 fr, .int .i64 be] rfl rfl ?c1 ?c2 ?c3 ?c4 ?c5 ?_)
        case c1 =>
          intro j u hj
          match j, hj with
          | 0, hj | 1, hj | 2, hj | 3, hj | 4, hj | 5, hj | 6, hj | 7, hj => simp at hj; subst hj; simp [Addr.add]
        case c2 => exact HONE.out
        case c3 => unfold maxLen; omega
        case c4 => omega
        case c5 => have := HB2.out.size; simp; omega
        intro v' w3 hown' hgrow _
        have hL2 : Tr.LI w E (i + 1) ⟨s.op ++ [i], nd + 1⟩ v' w3 := ⟨HST.out _ (by simp [Tr.okB, b2]), by rw [HCS.out, List.length_append, HM.out]; exact hown', (HB2.out.alloc HB2.out.size _).grown hgrow (by have := HB2.out.size; simp; omega) (fun k hk => (OWN.out.lt k hk).1)⟩
        have HL2 := hide' hL2
        clear hL2 hown' hgrow z0 z1 z2 z3 z4 z5 z6 z7 HST HSN HB1 HR1 HBX1 HR2
        go_wp2_with fail
        exact ⟨⟨i + 1, _, rfl, HLT.out, rfl, HL2⟩, by have := HLT.out; simp [RowKit.intOf]; omega⟩
      by_cases k1 : kind = 1
      · have hst1 := HST.out
        have hsn1 := HSN.out
        rw [if_neg k0] at hst1 hsn1
        subst k1
        rw [if_pos rfl] at hst1 hsn1
        replace HST := hide' hst1
        replace HSN := hide' hsn1
        clear hst1 hsn1
        have hjj := HJ.out
        have kp := KP.out _ HRA.out (by omega)
        rw [show i - 1 = j by omega] at kp
        replace HSN := hide' HSN.out
        have HKP := hide' (show (E (i - 1)).kind = (E j).kind by rw [show i - 1 = j by omega])
        obtain ⟨pk, hpk⟩ : ∃ pk, (E j).kind = pk := ⟨_, rfl⟩
        rw [hpk] at kp HKP
        clear hpk hjj k0
        have g2 : IntKind.i64.wrap ((i : Int) - 1) = (j : Int) := by rw [IntKind.wrap_i64]; have := HJ.out; omega
        have g3 : (j : Int) < (n : Int) := by have := HJ.out; omega
        have g4 : 0 ≤ (j : Int) := by omega
        by_cases cp : pk = 1
        · have CP := hide' cp
          subst cp
          go_wp2_with fail
          go_ret
          exact ⟨by rw [HSN.out (by rw [if_neg (fun h => h.2.1 HKP.out)])]; rfl, HBA.out⟩
        go_wp2_with fail
        refine CN.out.mono ?_
        rintro r w1 ⟨rfl, hb1⟩
        have HB1 := hide' (HBA.out.trans (hb1.mono HBA.out.size))
        have HR1 := hide' (HRA.out.trans (hb1.mono HRA.out.size))
        have bx1 := HBX.out.keep hb1
        have HBX1 := hide' bx1
        clear hb1 CN
        cases b1 : (num == (nd : Int) && dep == (m : Int) + 1)
        · clear bx1
          go_wp2_with fail
          go_ret
          exact ⟨by rw [HSN.out (by rw [if_neg (fun h => by simp [h.2.2.1, h.2.2.2.1] at b1)])]; rfl, HB1.out⟩
        have b1' : num = (nd : Int) ∧ dep = (m : Int) + 1 := by simpa using b1
        obtain ⟨rfl, rfl⟩ := b1'
        obtain ⟨z0, z1, z2, z3, z4, z5, z6, z7⟩ := bx1
        clear b1
        go_wp2_with fail
        refine (CX.out w1 HB1.out).mono ?_
        rintro r w2 ⟨rfl, hb2⟩
        have HB2 := hide' (HB1.out.trans (hb2.mono HB1.out.size))
        have HR2 := hide' (HR1.out.trans (hb2.mono HR1.out.size))
        clear hb2 CX z0 z1 z2 z3 z4 z5 z6 z7
        cases b2 : Tr.isTextB (⟨1, (nd : Int), (m : Int) + 1, nm, .slice pa na ca, ats, tx, fr, be⟩ : Tr.Ev Value)
        · go_wp2_with fail
          go_ret
          exact ⟨by rw [HSN.out (by rw [if_neg (fun h => by rw [Tr.okB, if_neg (by show ¬ (1 : Int) = 0; decide), b2] at h; cases h.2.2.2.2)])]; rfl, HB2.out⟩
        have hL2 : Tr.LI w E (i + 1) ⟨s.op, nd + 1⟩ (.slice p m cap) w2 := ⟨HST.out _ (by simp [Tr.okB, b2, HNE.out, HKP.out, cp]), by have own := Tr.keepB HL.out.row HR2.out (Nat.le_refl _); rw [HM.out] at own ⊢; exact own, HB2.out⟩
        have HL2 := hide' hL2
        clear hL2 HST HSN HB1 HR1 HBX1 HR2
        go_wp2_with fail
        exact ⟨⟨i + 1, _, rfl, HLT.out, rfl, HL2⟩, by have := HLT.out; simp [RowKit.intOf]; omega⟩
      by_cases k2 : kind = 2
      · have hst1 := HST.out
        have hsn1 := HSN.out
        rw [if_neg k0, if_neg k1] at hst1 hsn1
        subst k2
        rw [if_pos rfl] at hst1 hsn1
        obtain ⟨o, ho⟩ : ∃ o, s.op[k]? = some o := ⟨_, List.getElem?_eq_getElem (by rw [HM.out]; have := HK.out; omega)⟩
        have hl : s.op.getLast? = some o := by rw [List.getLast?_eq_getElem?, HM.out, HK.out]; exact ho
        rw [hl] at hst1 hsn1
        dsimp only at hst1 hsn1
        replace HST := hide' hst1
        replace HSN := hide' hsn1
        clear hst1 hsn1 k0 k1
        obtain ⟨g, rfl⟩ := HG.out (by have := HK.out; omega)
        have own := Tr.keepB HL.out.row HRA.out (Nat.le_refl _)
        have ce := Tr.cells_ofRow own ho
        obtain ⟨eo, heo⟩ : ∃ eo, E o = eo := ⟨_, rfl⟩
        simp only [heo] at ce HST HSN
        have hav2 := HV2.out o (by have h := Tr.grun_inv i s HL.out.run; obtain ⟨_, _, _, h3, _⟩ := h.opn k o ho; omega)
        rw [heo] at hav2
        have cC := fun w1 hb => CC.out eo w1 hb
        obtain ⟨kind', num', dep', nm', av', ats', tx', fr', be'⟩ := eo
        dsimp only at ce hav2
        obtain ⟨y0, y1, y2, y3, y4, y5, y6, y7⟩ := ce
        have bx1 := HBX.out
        obtain ⟨z0, z1, z2, z3, z4, z5, z6, z7⟩ := bx1
        have OWN := hide' own
        have CC2 := hide' cC
        clear own cC heo ho hl
        have g2 : (k : Int) < (m : Int) := by have := HK.out; omega
        have g3 : 0 ≤ (k : Int) := by omega
        have g4 : (k : Int) ≤ (cap : Int) := by omega
        obtain ⟨pa', na', ca', rfl⟩ := hav2
        have cl := CC2.out _ HBA.out.drew
        dsimp only at cl
        have xx : (wr.alloc (.cells #[.int .i64 2, .int .i64 num, .int .i64 dep, .string nm, .slice pa na ca, .string tx, .int .i64 fr, .int .i64 be] 39)).drew.cell? ⟨wr.heap.size, 0, none⟩ = some (.int .i64 2) ∧ (wr.alloc (.cells #[.int .i64 2, .int .i64 num, .int .i64 dep, .string nm, .slice pa na ca, .string tx, .int .i64 fr, .int .i64 be] 39)).drew.cell? ⟨wr.heap.size, 1, none⟩ = some (.int .i64 num) ∧ (wr.alloc (.cells #[.int .i64 2, .int .i64 num, .int .i64 dep, .string nm, .slice pa na ca, .string tx, .int .i64 fr, .int .i64 be] 39)).drew.cell? ⟨wr.heap.size, 2, none⟩ = some (.int .i64 dep) ∧ (wr.alloc (.cells #[.int .i64 2, .int .i64 num, .int .i64 dep, .string nm, .slice pa na ca, .string tx, .int .i64 fr, .int .i64 be] 39)).drew.cell? ⟨wr.heap.size, 3, none⟩ = some (.string nm) ∧ (wr.alloc (.cells #[.int .i64 2, .int .i64 num, .int .i64 dep, .string nm, .slice pa na ca, .string tx, .int .i64 fr, .int .i64 be] 39)).drew.cell? ⟨wr.heap.size, 4, none⟩ = some (.slice pa na ca) ∧ (wr.alloc (.cells #[.int .i64 2, .int .i64 num, .int .i64 dep, .string nm, .slice pa na ca, .string tx, .int .i64 fr, .int .i64 be] 39)).drew.cell? ⟨wr.heap.size, 5, none⟩ = some (.string tx) ∧ (wr.alloc (.cells #[.int .i64 2, .int .i64 num, .int .i64 dep, .string nm, .slice pa na ca, .string tx, .int .i64 fr, .int .i64 be] 39)).drew.cell? ⟨wr.heap.size, 6, none⟩ = some (.int .i64 fr) ∧ (wr.alloc (.cells #[.int .i64 2, .int .i64 num, .int .i64 dep, .string nm, .slice pa na ca, .string tx, .int .i64 fr, .int .i64 be] 39)).drew.cell? ⟨wr.heap.size, 7, none⟩ = some (.int .i64 be) ∧ (wr.alloc (.cells #[.int .i64 2, .int .i64 num, .int .i64 dep, .string nm, .slice pa na ca, .string tx, .int .i64 fr, .int .i64 be] 39)).drew.cell? ⟨g, k * 8, none⟩ = some (.int .i64 kind') ∧ (wr.alloc (.cells #[.int .i64 2, .int .i64 num, .int .i64 dep, .string nm, .slice pa na ca, .string tx, .int .i64 fr, .int .i64 be] 39)).drew.cell? ⟨g, k * 8 + 1, none⟩ = some (.int .i64 num') ∧ (wr.alloc (.cells #[.int .i64 2, .int .i64 num, .int .i64 dep, .string nm, .slice pa na ca, .string tx, .int .i64 fr, .int .i64 be] 39)).drew.cell? ⟨g, k * 8 + 2, none⟩ = some (.int .i64 dep') ∧ (wr.alloc (.cells #[.int .i64 2, .int .i64 num, .int .i64 dep, .string nm, .slice pa na ca, .string tx, .int .i64 fr, .int .i64 be] 39)).drew.cell? ⟨g, k * 8 + 3, none⟩ = some (.string nm') ∧ (wr.alloc (.cells #[.int .i64 2, .int .i64 num, .int .i64 dep, .string nm, .slice pa na ca, .string tx, .int .i64 fr, .int .i64 be] 39)).drew.cell? ⟨g, k * 8 + 4, none⟩ = some (.slice pa' na' ca') ∧ (wr.alloc (.cells #[.int .i64 2, .int .i64 num, .int .i64 dep, .string nm, .slice pa na ca, .string tx, .int .i64 fr, .int .i64 be] 39)).drew.cell? ⟨g, k * 8 + 5, none⟩ = some (.string tx') ∧ (wr.alloc (.cells #[.int .i64 2, .int .i64 num, .int .i64 dep, .string nm, .slice pa na ca, .string tx, .int .i64 fr, .int .i64 be] 39)).drew.cell? ⟨g, k * 8 + 6, none⟩ = some (.int .i64 fr') ∧ (wr.alloc (.cells #[.int .i64 2, .int .i64 num, .int .i64 dep, .string nm, .slice pa na ca, .string tx, .int .i64 fr, .int .i64 be] 39)).drew.cell? ⟨g, k * 8 + 7, none⟩ = some (.int .i64 be') := ⟨z0, z1, z2, z3, z4, z5, z6, z7, y0, y1, y2, y3, y4, y5, y6, y7⟩
        have CL := hide' cl
        clear cl CC2 z0 z1 z2 z3 z4 z5 z6 z7 y0 y1 y2 y3 y4 y5 y6 y7
        go_wp2_with fail
        clear q0 q1 q2 q3 q4 q5 q6 q7
        go_region_held (fun w' => w'.cell? ⟨wr.heap.size, 0, none⟩ = some (.int .i64 2) ∧ w'.cell? ⟨wr.heap.size, 1, none⟩ = some (.int .i64 num) ∧ w'.cell? ⟨wr.heap.size, 2, none⟩ = some (.int .i64 dep) ∧ w'.cell? ⟨wr.heap.size, 3, none⟩ = some (.string nm) ∧ w'.cell? ⟨wr.heap.size, 4, none⟩ = some (.slice pa na ca) ∧ w'.cell? ⟨wr.heap.size, 5, none⟩ = some (.string tx) ∧ w'.cell? ⟨wr.heap.size, 6, none⟩ = some (.int .i64 fr) ∧ w'.cell? ⟨wr.heap.size, 7, none⟩ = some (.int .i64 be) ∧ w'.cell? ⟨g, k * 8, none⟩ = some (.int .i64 kind') ∧ w'.cell? ⟨g, k * 8 + 1, none⟩ = some (.int .i64 num') ∧ w'.cell? ⟨g, k * 8 + 2, none⟩ = some (.int .i64 dep') ∧ w'.cell? ⟨g, k * 8 + 3, none⟩ = some (.string nm') ∧ w'.cell? ⟨g, k * 8 + 4, none⟩ = some (.slice pa' na' ca') ∧ w'.cell? ⟨g, k * 8 + 5, none⟩ = some (.string tx') ∧ w'.cell? ⟨g, k * 8 + 6, none⟩ = some (.int .i64 fr') ∧ w'.cell? ⟨g, k * 8 + 7, none⟩ = some (.int .i64 be')) (first | (with_reducible exact xx) | (with_reducible exact zz)) (first | (go_at_call 39; refine CL.out.mono ?_; rintro r w1 ⟨rfl, hb1⟩; have zz := Tr.keep16 xx hb1))
        have HB1 := hide' (HBA.out.drew.trans (hb1.mono HBA.out.size))
        have HR1 := hide' (HRA.out.drew.trans (hb1.mono HRA.out.size))
        clear hb1 xx zz CL
        cases b3 : Tr.closes (⟨2, num, dep, nm, .slice pa na ca, ats, tx, fr, be⟩ : Tr.Ev Value) ⟨kind', num', dep', nm', .slice pa' na' ca', ats', tx', fr', be'⟩
        · go_wp2_with fail
          · go_ret
            exact ⟨by rw [HSN.out (by simp [b3])]; rfl, HB1.out⟩
          · rename_i hh
            exact absurd hh.2 (by decide)
        have hL2 : Tr.LI w E (i + 1) ⟨s.op.dropLast, nd⟩ (.slice (some ⟨g, 0, none⟩) k cap) w1 := by
          refine ⟨HST.out _ (by simp [b3]), ?_, HB1.out⟩
          have own := Tr.keepB HL.out.row HR1.out (Nat.le_refl _)
          have own2 := Tr.owns_shrink own (m := k) (by have h1 := HM.out; have h2 := HK.out; omega)
          rw [Tr.cells_take] at own2
          have e : s.op.dropLast = s.op.take k := by rw [List.dropLast_eq_take, HM.out, HK.out]; rfl
          have e2 : s.op.dropLast.length = k := by rw [List.length_dropLast, HM.out, HK.out]; rfl
          rw [e2, e]
          exact own2
        have HL2 := hide' hL2
        clear hL2 HST HSN HR1
        go_wp2_with fail
        · rename_i hh
          rcases hh with hh | hh
          · omega
          · exact absurd hh (by decide)
        exact ⟨⟨i + 1, _, rfl, HLT.out, rfl, HL2⟩, by have := HLT.out; simp [RowKit.intOf]; omega⟩
      have hsn1 := HSN.out
      rw [if_neg k0, if_neg k1, if_neg k2] at hsn1
      go_wp2_with fail
      go_ret
      exact ⟨rfl, HBA.out⟩
    · have t1 : ¬ (i : Int) < (n : Int) := by omega
      obtain rfl : i = n := by omega
      have hd : Tr.doc Tr.okB E i = (decide (0 < nd) && decide (m = 0)) := by
        unfold Tr.doc
        rw [HL.out.run]
        dsimp only
        rw [HD.out, ← HM.out]
        congr 1
        cases s.op <;> rfl
      have HDC := hide' hd
      have HBL := hide' HL.out.bel
      clear hd HL HR CO CX CC HO HV HG hpn HM HD
      by_cases c1 : nd = 0
      · have f1 : ¬ (0 : Int) < (nd : Int) := by omega
        go_wp2_with fail
        go_ret
        exact ⟨by rw [HDC.out, decide_eq_false (by omega)]; rfl, HBL.out⟩
      · have f1 : (0 : Int) < (nd : Int) := by omega
        by_cases c2 : m = 0
        · subst c2
          go_wp2_with fail
          go_ret
          exact ⟨by rw [HDC.out, decide_eq_true (by omega)]; rfl, HBL.out⟩
        · have f2 : ¬ (m : Int) = 0 := by omega
          go_wp2_with fail
          go_ret
          exact ⟨by rw [HDC.out, decide_eq_false c2, Bool.and_false]; simp [c2], HBL.out⟩
end Go.Proofs.YtcmjipgigkalcaaDoor
