/-
  WALKS over canon.Event and canon.Print.
-/
import Derived.Test.YtfkmeghddobgcaaDoorTrCanon
namespace Go.Proofs.YtfkmeghddobgcaaDoor
open Go.RowKit Go.Lib
namespace Tr
theorem mk_self (s : ByteArray) : (ByteArray.mk s.data.toList.toArray) = s := by cases s; rfl
end Tr
set_option maxHeartbeats 2000000 in
theorem trEvent (e : Tr.Ev Value) (w : World) (hs : Tr.Tiny e) (hA : Tr.AtRow w e.av e.ats) (hl : (Tr.evB e).length ≤ 70368744177664) :
    Calls Tryd.prog 50 #[.agg e.cs] w fun r w' => r = .returned (.string ⟨(Tr.evB e).toArray⟩) ∧ Below w.heap.size w w' := by
  obtain ⟨kind, num, dep, nm, av, ats, tx, fr, be⟩ := e
  obtain ⟨s1, s2, s3, s4⟩ := hs
  unfold Tr.evB at hl ⊢
  dsimp only at hA s1 s2 s3 s4 hl ⊢
  show Calls Tryd.prog 50 #[.agg #[.int .i64 kind, .int .i64 num, .int .i64 dep, .string nm, av, .string tx, .int .i64 fr, .int .i64 be]] w _
  have hb := (Below.refl w.heap.size w).alloc (Nat.le_refl _) (.cells #[.int .i64 kind, .int .i64 num, .int .i64 dep, .string nm, av, .string tx, .int .i64 fr, .int .i64 be] 39)
  by_cases k0 : kind = 0
  · rw [if_pos k0] at hl ⊢
    have c := trStartTag nm av ats _ (hA.below hb (Nat.le_refl _)) s4 hl
    subst k0
    have HB := hide' hb
    have HC := hide' c
    clear hb c hA s1 s2 s3 s4 hl
    go_enter Tryd.func50, Tryd.ntmps50
    go_wp2_with fail
    refine HC.out.mono ?_
    rintro e w1 ⟨rfl, hb1⟩
    have HD := hide' (HB.out.trans (hb1.mono HB.out.size))
    clear hb1 HC
    go_wp2
    go_ret
    exact ⟨rfl, HD.out⟩
  rw [if_neg k0] at hl ⊢
  by_cases k1 : kind = 1
  · rw [if_pos k1] at hl ⊢
    have c := rfText_any tx.data.toList (w.alloc (.cells #[.int .i64 kind, .int .i64 num, .int .i64 dep, .string nm, av, .string tx, .int .i64 fr, .int .i64 be] 39)) (by have h3 : tx.data.toList.length = tx.size := rfl; omega)
    rw [Tr.mk_self] at c
    subst k1
    have HB := hide' hb
    have HC := hide' c
    clear hb c hA s1 s2 s3 s4 hl k0
    go_enter Tryd.func50, Tryd.ntmps50
    go_wp2_with fail
    refine HC.out.mono ?_
    rintro e w1 ⟨rfl, hb1⟩
    have HD := hide' (HB.out.trans (hb1.mono HB.out.size))
    clear hb1 HC
    go_wp2
    go_ret
    exact ⟨rfl, HD.out⟩
  rw [if_neg k1] at hl ⊢
  have HB := hide' hb
  clear hb hA s2 s3 s4 hl
  by_cases k2 : kind = 2
  · rw [if_pos k2]
    subst k2
    have z1 : 2 + nm.size ≤ 9223372036854775807 := by omega
    have z2 : 2 + nm.size + 1 ≤ 9223372036854775807 := by omega
    clear s1 k0 k1
    go_enter Tryd.func50, Tryd.ntmps50
    go_wp2
    go_ret
    refine ⟨?_, HB.out⟩
    show Ending.returned (.string _) = _
    congr 2
  · rw [if_neg k2]
    clear s1
    go_enter Tryd.func50, Tryd.ntmps50
    go_wp2
    go_ret
    exact ⟨rfl, HB.out⟩
set_option maxRecDepth 100000 in
set_option maxHeartbeats 4000000 in
theorem trPrint (v : Value) (n : Nat) (E : Nat → Tr.Ev Value) (w : World) (hE : Tr.Evs w v n E) (hs : ∀ i, i < n → Tr.Tiny (E i)) (hn : n ≤ 1048576) (hl : (Tr.evsB E n).length ≤ 70368744177664) :
    Calls Tryd.prog 38 #[v] w fun r w' => r = .returned (.string ⟨(Tr.evsB E n).toArray⟩) ∧ Below w.heap.size w w' := by
  have hav : ∀ i, i < n → ∃ pa na ca, (E i).av = .slice pa na ca := fun i h => by
    obtain ⟨pa, ca, e, _⟩ := hE.att i h
    exact ⟨pa, _, ca, e⟩
  have hle : ∀ i, i < n → (Tr.evsB E i).length + (Tr.evB (E i)).length ≤ 70368744177664 := fun i h => by
    have h1 := Tr.evsB_le E (i + 1) (n - (i + 1))
    rw [show i + 1 + (n - (i + 1)) = n by omega] at h1
    have h2 : (Tr.evsB E (i + 1)).length = (Tr.evsB E i).length + (Tr.evB (E i)).length := by show (Tr.evsB E i ++ _).length = _; rw [List.length_append]
    omega
  have cE : ∀ (i : Nat) W, i < n → Below w.heap.size w W → _ := fun i W h hb => trEvent (E i) W (hs i h) ((hE.att i h).below hb (Nat.le_refl _)) (by have := hle i h; omega)
  have hrow := hE.row.at
  obtain ⟨p0, cap0, rfl, r1, r2, _⟩ := hE.row
  have hst := Tr.Bld.start w
  have CE := hide' cE
  have HR := hide' hrow
  have HV := hide' hav
  have HLE := hide' hle
  have HST := hide' hst
  clear hE hs cE hrow hav hle hst hl
  go_enter Tryd.func38, Tryd.ntmps38
  go_wp2_with fail
  go_loopw [8] (fun v wr => ∃ i : Nat, v = .int .i64 i ∧ i ≤ n ∧ Hid (Tr.Bld w.heap.size w (Tr.evsB E i) wr)) (fun v _ => n - (RowKit.intOf v).toNat)
  case atStart => exact ⟨0, rfl, Nat.zero_le _, HST⟩
  case round =>
    obtain ⟨i, rfl, hi, HB⟩ := hrel
    clear HST
    by_cases hlt : i < n
    · have t1 : (i : Int) < (n : Int) := by omega
      obtain ⟨b0, o0, cap0', e0, r1', r2', ka⟩ := HR.out (by omega)
      obtain ⟨rfl, rfl⟩ : p0 = some ⟨b0, o0, none⟩ ∧ cap0 = cap0' := by cases e0; exact ⟨rfl, rfl⟩
      obtain ⟨k0, k1, k2, k3, k4, k5, k6, k7⟩ := ka i hlt
      have kk : ∀ {a : Addr} {u}, w.cell? a = some u → wr.cell? a = some u := fun {a u} hu => (HB.out.bel.cell (p := a) (block_lt_of_cell hu)).trans hu
      have q0 := kk k0
      have q1 := kk k1
      have q2 := kk k2
      have q3 := kk k3
      have q4 := kk k4
      have q5 := kk k5
      have q6 := kk k6
      have q7 := kk k7
      have hrA : Below wr.heap.size wr (wr.alloc (.cells (E i).cs 39)) := (Below.refl _ _).alloc (Nat.le_refl _) _
      have hB0 := HB.out.below hrA
      have hbx := Tr.Box.new wr (E i) 39
      have cEi := CE.out i _ hlt hB0.bel
      have hav := HV.out i hlt
      have hle := HLE.out i hlt
      have hsu : Tr.evsB E (i + 1) = Tr.evsB E i ++ Tr.evB (E i) := rfl
      obtain ⟨e, he⟩ : ∃ e, E i = e := ⟨_, rfl⟩
      simp only [he] at q0 q1 q2 q3 q4 q5 q6 q7 hav hB0 hbx cEi hle hsu
      clear k0 k1 k2 k3 k4 k5 k6 k7 kk ka CE HR HV he e0 hrA
      obtain ⟨kind, num, dep, nm, av, ats, tx, fr, be⟩ := e
      dsimp only at hav
      obtain ⟨pa, na, ca, rfl⟩ := hav
      simp only [Tr.Ev.cs] at hB0 hbx cEi
      dsimp only at q0 q1 q2 q3 q4 q5 q6 q7
      obtain ⟨l, hl⟩ : ∃ l, Tr.evB (⟨kind, num, dep, nm, .slice pa na ca, ats, tx, fr, be⟩ : Tr.Ev Value) = l := ⟨_, rfl⟩
      rw [hl] at cEi hle hsu
      obtain ⟨z0, z1, z2, z3, z4, z5, z6, z7⟩ := hbx
      have HB0 := hide' hB0
      have CE := hide' cEi
      have HLT := hide' hlt
      have HLI := hide' hle
      have HSU := hide' hsu
      clear hB0 cEi hlt hle hsu hl
      go_wp2_with fail
      refine CE.out.mono ?_
      rintro r w1 ⟨rfl, hb1⟩
      have c2 := bldWrite (HB0.out.below hb1) ⟨l.toArray⟩ (by have := HLI.out; show _ + l.length ≤ _; omega)
      have C2 := hide' c2
      clear c2 hb1 CE z0 z1 z2 z3 z4 z5 z6 z7 q0 q1 q2 q3 q4 q5 q6 q7
      go_wp2_with fail
      refine C2.out.mono ?_
      rintro r w2 ⟨rfl, h2, _⟩
      have H2 : Hid (Tr.Bld w.heap.size w (Tr.evsB E (i + 1)) w2) := by
        rw [HSU.out]
        exact h2
      clear h2 C2
      go_wp2_with fail
      exact ⟨⟨i + 1, rfl, HLT.out, H2⟩, by have := HLT.out; simp [RowKit.intOf]; omega⟩
    · have t1 : ¬ (i : Int) < (n : Int) := by omega
      obtain rfl : i = n := by omega
      have cT := Tryd.Builder_String_any_k w.heap.size w.heap.size _ wr HB.out.out (Nat.le_of_lt HB.out.lt)
      have CT := hide' cT
      clear cT CE HR HV HLE
      go_wp2_with fail
      refine CT.out.mono ?_
      rintro e w2 ⟨rfl, _, hb2, _⟩
      clear CT
      go_wp2_with fail
      go_ret
      exact ⟨rfl, HB.out.bel.trans hb2⟩
end Go.Proofs.YtfkmeghddobgcaaDoor
