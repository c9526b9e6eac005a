/-
  THE WALK over gimletlaw09.copied.
-/
import Derived.Test.YtcmjipgigkalcaaDoorTrCopyB
namespace Go.Proofs.YtcmjipgigkalcaaDoor
open Go.RowKit Go.Lib
namespace Tr
theorem Cpy.next {w : World} {L n i : Nat} {E E' : Nat → Ev Value} {wr W : World} {av : Value} (h : Cpy w L n i E E' wr) (hbel : Below w.heap.size w W) (hsz : wr.heap.size ≤ W.heap.size) (hth : W.there L 0 (n * 8)) (hblk : Blk W L n)
    (hlow : ∀ j u, j < i * 8 → wr.cell? ⟨L, j, none⟩ = some u → W.cell? ⟨L, j, none⟩ = some u) (hrng : W.rangeAt L (i * 8) (Ev.cs { E i with av := av }).toList)
    (hoth : ∀ b, b < wr.heap.size → b ≠ L → W.heap[b]? = wr.heap[b]?) (hA : AtOwn W av (E i).ats) (hg : ∀ g, av.ownBlock = some g → wr.heap.size ≤ g) :
    Cpy w L n (i + 1) E (fun k => if k = i then { E i with av := av } else E' k) W := by
  have hlt := h.lt
  refine ⟨hbel, h.low, by omega, hth, fun k hk => ?_, fun k hk => ?_, fun k hk => ?_, hblk⟩
  · by_cases c : k = i
    · subst c
      rw [if_pos rfl]
      exact hrng
    · rw [if_neg c]
      intro j v hj
      have h8 : j < 8 := by have := (List.getElem?_eq_some_iff.1 hj).1; exact this
      exact hlow _ _ (by omega) (h.rng k (by omega) j v hj)
  · by_cases c : k = i
    · subst c
      rw [if_pos rfl]
    · rw [if_neg c]
      exact h.eq k (by omega)
  · by_cases c : k = i
    · subst c
      rw [if_pos rfl]
      exact ⟨hA, fun g e => by have := hg g e; omega⟩
    · rw [if_neg c]
      have hk2 := h.att k (by omega)
      exact ⟨hk2.1.keep fun g hg hl => hoth g hl (by have := hk2.2 g hg; omega), hk2.2⟩
theorem owns_noneA (w : World) : (w.alloc (.cells #[] 67)).ownsRow w.heap.size 67 2 (.slice (some ⟨w.heap.size, 0, none⟩) 0 0) 0 [] :=
  ⟨rfl, .inr ⟨w.heap.size, 0, #[], rfl, Nat.le_refl _, heap_alloc_new w _, Nat.le_refl _, by decide, rfl, rfl⟩⟩
/-- a copy of attributes -/
theorem append_ats {w : World} {ops : Array Oper} {rest : List Oper} {o : Oper} {a : Act} {Q : Exit → Act → World → Prop} (hgd : o.guard = none) (s x : Operand)
    (ho : o.op = .call { callee := .builtin .append, args := #[s, x], argTypes := #[37, 37] }) (base : Nat) (v vx : Value) (l : List (ByteArray × ByteArray)) (hs : a.eval s = v) (hown : w.ownsRow base 67 2 v 0 [])
    (hx : a.eval x = vx) (hA : AtRow w vx l) (hb : l.length ≤ 4398046510976) (hbase : base ≤ w.heap.size)
    (h : ∀ v' w', w'.ownsRow base 67 2 v' l.length (acs l) → w.grownBy w' v.ownBlock → wpList Tryd.prog ops Q rest (a.put o.dst v') w') : wpList Tryd.prog ops Q (o :: rest) a w := by
  obtain ⟨i0, hi, hz0, hz1, hz2⟩ := info_parts atInfo
  obtain ⟨p, cap, rfl, c1, c2, c2', c3⟩ := hA
  cases p with
  | none =>
    obtain rfl := c2' rfl
    obtain rfl : l = [] := List.eq_nil_of_length_eq_zero (by omega)
    refine wpList_append_own_none hgd s x 37 ho base 67 i0 2 Tryd.underlying37 hi v 0 [] hs hown hx ?_
    exact h v w hown ⟨rfl, rfl, rfl, Nat.le_refl _, fun _ _ _ => rfl⟩
  | some ad =>
    refine wpList_append_own w hgd s x 37 ho base 67 i0 (.agg #[.string ⟨#[]⟩, .string ⟨#[]⟩]) 2 32 Tryd.underlying37 hi hz0 hz1 hz2 rfl (by decide) v 0 [] hs hown ad l.length cap (acs l) hx (acs_length l) ?_ (acs_one l) (by unfold maxLen; omega) (by omega) hbase (fun v' w' h3 h4 _ => h v' w' (by rw [Nat.zero_add] at h3; exact h3) h4)
    intro j u hu
    have h0 : 0 < l.length := by
      have := (List.getElem?_eq_some_iff.1 hu).1
      rw [acs_length] at this
      omega
    obtain ⟨b, q, e2, c4⟩ := c3 h0
    cases e2
    exact acs_cell c4 j u hu
theorem size_cells {b : Nat} : ∀ (vs : List Value) (o : Nat) (w : World), (w.setCells b o vs).heap.size = w.heap.size
  | [], _, _ => rfl
  | v :: r, o, w => (size_cells r (o + 1) (w.setCell ⟨b, o, none⟩ v)).trans (by simp [World.setCell])
theorem Cpy.copied {w : World} {L n i : Nat} {E E' : Nat → Ev Value} {wr w3 : World} {v' : Value} {CA : Array Value} (h : Cpy w L n i E E' wr) (hi : i < n) (hCA : CA = (E i).cs)
    (hown : w3.ownsRow wr.heap.size 67 2 v' (E i).ats.length (acs (E i).ats)) (hg : ((wr.setCells L (i * 8) CA.toList).alloc (.cells #[] 67)).grownBy w3 (some wr.heap.size)) :
    w3.cell? ⟨L, i * 8 + 4, none⟩ = some (E i).av ∧ w3.frozen? ⟨L, i * 8 + 4, none⟩ = false ∧ Cpy w L n (i + 1) E (fun k => if k = i then { E i with av := v' } else E' k) (w3.setCell ⟨L, i * 8 + 4, none⟩ v') := by
  have hlt := h.lt
  have hs2 : (wr.setCells L (i * 8) CA.toList).heap.size = wr.heap.size := size_cells _ _ _
  have hs3 : ((wr.setCells L (i * 8) CA.toList).alloc (.cells #[] 67)).heap.size = wr.heap.size + 1 := by rw [World.size_alloc, hs2]
  have hth2 : (wr.setCells L (i * 8) CA.toList).there L 0 (n * 8) := World.there_setCells h.there _ _ _
  have hblk : ∀ b, b < wr.heap.size → w3.heap[b]? = (wr.setCells L (i * 8) CA.toList).heap[b]? := fun b hb => by
    rw [hg.block b (by rw [hs3]; omega) (fun e => by have := Option.some.inj e; omega), Lib.alloc_old _ _ _ (by rw [hs2]; exact hb)]
  have hL3 := hblk L hlt
  have hc3 : ∀ j, w3.cell? ⟨L, j, none⟩ = (wr.setCells L (i * 8) CA.toList).cell? ⟨L, j, none⟩ := fun j => World.cell?_of_block (a := ⟨L, j, none⟩) hL3
  have hf3 : ∀ j, w3.frozen? ⟨L, j, none⟩ = (wr.setCells L (i * 8) CA.toList).frozen? ⟨L, j, none⟩ := fun j => World.frozen?_of_block (a := ⟨L, j, none⟩) hL3
  have hr2 : (wr.setCells L (i * 8) CA.toList).rangeAt L (i * 8) CA.toList := World.rangeAt_setCells_same _ _ _ _ (there_sub h.there (by rw [hCA]; show i * 8 + 8 ≤ _; omega))
  have hBk3 : Blk w3 L n := by
    obtain ⟨cur, h1, h2⟩ := h.blk.cells (b := L) CA.toList (i * 8)
    exact ⟨cur, hL3.trans h1, h2⟩
  have hth3 : w3.there L 0 (n * 8) := fun j hj => by
    rw [hc3, hf3]
    exact hth2 j hj
  have hbel3 : Below w.heap.size w w3 := ((below_cells h.low _ _ _ h.bel).alloc (by rw [hs2]; exact h.bel.size) _).grown hg (by rw [hs3]; have := h.bel.size; omega) (fun k hk => by cases hk; exact h.bel.size)
  have hA3 : AtOwn w3 v' (E i).ats := AtOwn.own hown rfl
  have hgo : ∀ g, v'.ownBlock = some g → wr.heap.size ≤ g := fun g e => (hown.lt g e).1
  have hs4 : wr.heap.size ≤ w3.heap.size := by have := hg.size; omega
  refine ⟨?_, ?_, h.next (hbel3.setCell (p := ⟨L, i * 8 + 4, none⟩) h.low _) (by simpa [World.setCell] using hs4) (World.there_setCells (b := L) (o := i * 8 + 4) (vs := [v']) hth3) (Blk.cells (b := L) [v'] (i * 8 + 4) hBk3) (fun j u hj hu => ?_) (fun j u hj => ?_) (fun b hb hne => ?_) (hA3.keep fun g hgg _ => ?_) hgo⟩
  · rw [hc3]
    exact hr2 4 _ (by rw [hCA]; rfl)
  · rw [hf3]
    have := (hth2 (i * 8 + 4) (by omega)).2
    rw [Nat.zero_add] at this
    exact this
  · have h1 : wr.rangeAt L j [u] := fun k x hk => by
      cases k with
      | zero => simp at hk; subst hk; exact hu
      | succ k => simp at hk
    have h2 := World.rangeAt_setCells_apart h1 L (i * 8) CA.toList (.inr (.inl (by show j + 1 ≤ _; omega)))
    have h3 : w3.rangeAt L j [u] := fun k x hk => by rw [hc3]; exact h2 k x hk
    have h4 := World.rangeAt_setCells_apart h3 L (i * 8 + 4) [v'] (.inr (.inl (by show j + 1 ≤ _; omega)))
    exact h4 0 u rfl
  · have h8 : j < 8 := by have := (List.getElem?_eq_some_iff.1 hj).1; exact this
    by_cases c : j = 4
    · subst c
      have e4 : u = v' := by simpa [Ev.cs] using hj.symm
      subst e4
      exact World.rangeAt_setCells_same w3 L (i * 8 + 4) [u] (there_sub hth3 (by show i * 8 + 4 + 1 ≤ _; omega)) 0 u rfl
    · have hj2 : CA.toList[j]? = some u := by
        rw [hCA, ← hj]
        match j, h8, c with
        | 0, _, _ | 1, _, _ | 2, _, _ | 3, _, _ | 5, _, _ | 6, _, _ | 7, _, _ => rfl
      have h1 : w3.rangeAt L (i * 8 + j) [u] := fun k x hk => by
        cases k with
        | zero => simp at hk; subst hk; rw [hc3]; exact hr2 j _ hj2
        | succ k => simp at hk
      have h4 := World.rangeAt_setCells_apart h1 L (i * 8 + 4) [v'] (.inr (by simp; omega))
      exact h4 0 u rfl
  · rw [Below.heap_setCell _ _ _ _ hne, hblk b hb]
    exact heap_cells_far hne _ _ _
  · have := hgo g hgg
    exact Below.heap_setCell _ _ _ _ (by show g ≠ L; omega)
/-- what copied answers -/
def CopiedE (E : Nat → Ev Value) (n : Nat) (w : World) (r : Ending) (w' : World) : Prop :=
  ∃ L E', r = .returned (.slice (some ⟨L, 0, none⟩) n n) ∧ Cpy w L n n E E' w'
end Tr
set_option maxRecDepth 100000 in
set_option maxHeartbeats 4000000 in
theorem trCopied (v : Value) (n : Nat) (E : Nat → Tr.Ev Value) (w : World) (hE : Tr.Evs w v n E) (hs : ∀ i, i < n → Tr.Small (E i)) (hn : n ≤ 1466015503658) :
    Calls Tryd.prog 5 #[v] w fun r w' => Tr.CopiedE E n w r w' := by
  obtain ⟨i0, hi0, hz0, hz1, hz2⟩ := info_parts Tr.evInfo
  obtain ⟨MC, hMC, hmk⟩ : ∃ MC : Array Value, MC.size = n * 8 ∧ ∀ W : World, (Instr.makeSlice 22 (.int .i64 (n : Nat)) (.int .i64 (n : Nat))).run Tryd.prog W = .ok (.slice (some ⟨W.heap.size, 0, none⟩) n n) (W.alloc (.cells MC 39)) := by
    refine ⟨madeCells (Value.agg Tr.ev0).cells (n * i0.size), by rw [size_madeCells, hz1], fun W => ?_⟩
    have h := run_make (P := Tryd.prog) W 22 39 i0 _ Tryd.underlying22 hi0 hz0 .i64 .i64 (n : Nat) (n : Nat) (by omega) (by omega) (by rw [hz2]; omega) (by omega)
    simpa using h
  have hatt := hE.att
  have hav : ∀ i, i < n → ∃ pa na ca, (E i).av = .slice pa na ca := fun i h => by
    obtain ⟨pa, ca, e, _⟩ := hE.att i h
    exact ⟨pa, _, ca, e⟩
  have hrow := hE.row.at
  obtain ⟨p0, cap0, rfl, r1, r2, _⟩ := hE.row
  have hb0 := (Below.refl w.heap.size w).alloc (Nat.le_refl _) (.cells MC 39)
  have hst : Tr.Cpy w w.heap.size n 0 E E (w.alloc (.cells MC 39)) := ⟨hb0, Nat.le_refl _, by simp, by rw [← hMC]; exact Tr.there_of (heap_alloc_new w _), fun k hk => absurd hk (by omega), fun k hk => absurd hk (by omega), fun k hk => absurd hk (by omega), MC, heap_alloc_new w _, hMC⟩
  have HR := hide' hrow
  have HV := hide' hav
  have HST := hide' hst
  have HAT := hide' hatt
  have HSM := hide' hs
  clear hE hs hrow hav hst hb0 hMC hatt
  go_enter Tryd.func5, Tryd.ntmps5
  go_wp2_with fail
  go_loopw [4] (fun v wr => ∃ (i : Nat) (E' : Nat → Tr.Ev Value), v = .int .i64 i ∧ i ≤ n ∧ Hid (Tr.Cpy w w.heap.size n i E E' wr)) (fun v _ => n - (RowKit.intOf v).toNat)
  case atStart => exact ⟨0, E, rfl, Nat.zero_le _, HST⟩
  case round =>
    obtain ⟨i, E', rfl, hi, HL⟩ := hrel
    by_cases hlt : i < n
    · have t1 : (i : Int) < (n : Int) := by omega
      obtain ⟨b0, o0, cap0', e0, r1', r2', ka⟩ := HR.out (by omega)
      obtain ⟨rfl, rfl⟩ : p0 = some ⟨b0, o0, none⟩ ∧ cap0 = cap0' := by cases e0; exact ⟨rfl, rfl⟩
      obtain ⟨k0, k1, k2, k3, k4, k5, k6, k7⟩ := ka i hlt
      have kk : ∀ {a : Addr} {u}, w.cell? a = some u → wr.cell? a = some u := fun {a u} hu => (HL.out.bel.cell (p := a) (block_lt_of_cell hu)).trans hu
      have q0 := kk k0
      have q1 := kk k1
      have q2 := kk k2
      have q3 := kk k3
      have q4 := kk k4
      have q5 := kk k5
      have q6 := kk k6
      have q7 := kk k7
      have hav := HV.out i hlt
      have hat := HAT.out i hlt
      have hsm := (HSM.out i hlt).2.2.1
      obtain ⟨e, he⟩ : ∃ e, E i = e := ⟨_, rfl⟩
      simp only [he] at q0 q1 q2 q3 q4 q5 q6 q7 hav hat hsm k4
      obtain ⟨kind, num, dep, nm, av, ats, tx, fr, be⟩ := e
      dsimp only at hav hat hsm
      obtain ⟨pa, na, ca, rfl⟩ := hav
      dsimp only at q0 q1 q2 q3 q4 q5 q6 q7 k4
      obtain ⟨CA, hCA⟩ : ∃ CA : Array Value, CA = #[.int .i64 kind, .int .i64 num, .int .i64 dep, .string nm, .slice pa na ca, .string tx, .int .i64 fr, .int .i64 be] := ⟨_, rfl⟩
      have hth : wr.there w.heap.size (i * 8) CA.size := by
        rw [hCA]
        exact Tr.there_sub (m := 8) HL.out.there (by omega)
      have o1 : CA.all (·.oneCell') = true := by
        rw [hCA]
        exact all_oneCell_toArray (Tr.cs_one (e := ⟨kind, num, dep, nm, .slice pa na ca, ats, tx, fr, be⟩) rfl)
      have i1 : (Tryd.prog.info? 39).map (·.size) = some CA.size := by rw [hCA]; exact Tr.evSize
      have hrg : wr.rangeAt b0 (o0 + i * 8) CA.toList := by
        rw [hCA]
        intro j u hj
        match j, hj with
        | 0, hj => simp at hj; subst hj; exact q0
        | 1, hj => simp at hj; subst hj; exact q1
        | 2, hj => simp at hj; subst hj; exact q2
        | 3, hj => simp at hj; subst hj; exact q3
        | 4, hj => simp at hj; subst hj; exact q4
        | 5, hj => simp at hj; subst hj; exact q5
        | 6, hj => simp at hj; subst hj; exact q6
        | 7, hj => simp at hj; subst hj; exact q7
        | j + 8, hj => simp at hj
      have i2 : (Tryd.prog.info? 39).map (·.size) = some CA.toList.length := by rw [hCA]; exact Tr.evSize
      have hbb : b0 < w.heap.size := block_lt_of_cell k0
      have hs2 : (wr.setCells w.heap.size (i * 8) CA.toList).heap.size = wr.heap.size := Tr.size_cells _ _ _
      have hbel2 : Below w.heap.size w (wr.setCells w.heap.size (i * 8) CA.toList) := Tr.below_cells (Nat.le_refl _) _ _ _ HL.out.bel
      have z4 : (wr.setCells w.heap.size (i * 8) CA.toList).cell? ⟨b0, o0 + i * 8 + 4, none⟩ = some (.slice pa na ca) := (hbel2.cell (p := ⟨b0, o0 + i * 8 + 4, none⟩) hbb).trans k4
      have hA3 : Tr.AtRow ((wr.setCells w.heap.size (i * 8) CA.toList).alloc (.cells #[] 67)) (.slice pa na ca) ats := hat.below (hbel2.alloc hbel2.size _) (Nat.le_refl _)
      have hown0 : ((wr.setCells w.heap.size (i * 8) CA.toList).alloc (.cells #[] 67)).ownsRow wr.heap.size 67 2 (.slice (some ⟨wr.heap.size, 0, none⟩) 0 0) 0 [] := by
        have h := Tr.owns_noneA (wr.setCells w.heap.size (i * 8) CA.toList)
        rw [hs2] at h
        exact h
      have hbs : wr.heap.size ≤ ((wr.setCells w.heap.size (i * 8) CA.toList).alloc (.cells #[] 67)).heap.size := by rw [World.size_alloc, hs2]; omega
      have hlb : b0 < wr.heap.size := by have := HL.out.bel.size; omega
      have hstp : ∀ v' w3, w3.ownsRow wr.heap.size 67 2 v' ats.length (Tr.acs ats) → ((wr.setCells w.heap.size (i * 8) CA.toList).alloc (.cells #[] 67)).grownBy w3 (some wr.heap.size) → w3.cell? ⟨w.heap.size, i * 8 + 4, none⟩ = some (.slice pa na ca) ∧ w3.frozen? ⟨w.heap.size, i * 8 + 4, none⟩ = false ∧ ∃ E2, Tr.Cpy w w.heap.size n (i + 1) E E2 (w3.setCell ⟨w.heap.size, i * 8 + 4, none⟩ v') := fun v' w3 h1 h2 => by
        have h := HL.out.copied (CA := CA) (v' := v') (w3 := w3) hlt (by rw [he]; exact hCA) (by rw [he]; exact h1) h2
        rw [he] at h
        exact ⟨h.1, h.2.1, _, h.2.2⟩
      have HTH := hide' hth
      have O1 := hide' o1
      have I1 := hide' i1
      have I2 := hide' i2
      have HRG := hide' hrg
      have HA3 := hide' hA3
      have HOW := hide' hown0
      have HBS := hide' hbs
      have HSTP := hide' hstp
      have HSM1 := hide' hsm
      have HLT := hide' hlt
      clear hth o1 i1 i2 hrg hA3 hown0 hbs hstp hsm hlt hCA he ka k0 k1 k2 k3 k4 k5 k6 k7 kk e0 hat hbel2 hbb q0 q1 q2 q3 q4 q5 q6 q7 HR HV HST HAT HSM
      go_wp2_with (first | refine wpList_load_mid rfl 39 (.tmp 18) rfl b0 (o0 + i * 8) rfl CA.toList _ HRG.out Tryd.underlying39 rfl I2.out ?_ | refine wpList_store_mid rfl 39 (.tmp 20) (.tmp 19) rfl w.heap.size (i * 8) CA rfl rfl HTH.out I1.out O1.out ?_ | (at_builtin; refine Tr.append_ats rfl _ _ rfl wr.heap.size _ _ ats rfl HOW.out rfl HA3.out HSM1.out HBS.out ?_))
      intro v' w3 hown hgrow
      obtain ⟨y4, f4, E2, hC⟩ := HSTP.out v' w3 hown hgrow
      obtain ⟨pv, cv, rfl, _⟩ := Tr.owns_sl hown
      have HC := hide' hC
      clear hC hown hgrow HSTP HA3 HOW HBS z4 hs2
      go_wp2_with fail
      exact ⟨⟨i + 1, E2, rfl, HLT.out, HC⟩, by have := HLT.out; simp [RowKit.intOf]; omega⟩
    · have t1 : ¬ (i : Int) < (n : Int) := by omega
      obtain rfl : i = n := by omega
      clear HR HV HST HAT HSM
      go_wp2_with fail
      go_ret
      exact ⟨w.heap.size, E', rfl, HL.out⟩
end Go.Proofs.YtcmjipgigkalcaaDoor
