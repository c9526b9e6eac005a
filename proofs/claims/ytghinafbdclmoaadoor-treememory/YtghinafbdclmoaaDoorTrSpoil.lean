/-
  THE WALK over gimletlaw09.spoil.
-/
import Derived.Test.YtghinafbdclmoaaDoorTrCopied
namespace Go.Proofs.YtghinafbdclmoaaDoor
open Go.RowKit Go.Lib
namespace Tr
/-- the blocks below L and those from H on are as they were -/
structure Kp (L H : Nat) (w wr : World) : Prop where
  os : wr.os = w.os
  tape : wr.tape = w.tape
  output : wr.output = w.output
  size : wr.heap.size = w.heap.size
  block : ∀ b, b < L ∨ H ≤ b → wr.heap[b]? = w.heap[b]?
theorem Kp.refl (L H : Nat) (w : World) : Kp L H w w := ⟨rfl, rfl, rfl, rfl, fun _ _ => rfl⟩
theorem Kp.cells {L H : Nat} {w wr : World} (h : Kp L H w wr) (b o : Nat) (vs : List Value) (h1 : L ≤ b) (h2 : b < H) : Kp L H w (wr.setCells b o vs) := by
  have hb := below_cells h1 vs o wr (Below.refl L wr)
  exact ⟨hb.os.trans h.os, hb.tape.trans h.tape, hb.output.trans h.output, (size_cells _ _ _).trans h.size, fun k hk => (heap_cells_far (by omega) _ _ _).trans (h.block k hk)⟩
theorem Kp.below {L H : Nat} {w wr : World} (h : Kp L H w wr) : Below L w wr := ⟨h.os, h.tape, h.output, by rw [h.size]; exact Nat.le_refl _, fun b hb => h.block b (.inl hb)⟩
/-- a row of n events that is to be written over from the i-th on -/
structure Spo (H : Nat) (w : World) (L n i : Nat) (E : Nat → Ev Value) (wr : World) : Prop where
  kp : Kp L H w wr
  low : L < H
  there : wr.there L 0 (n * 8)
  av : ∀ k, i ≤ k → k < n → wr.cell? ⟨L, k * 8 + 4, none⟩ = some (E k).av
  sl : ∀ k, k < n → ∃ p cap, (E k).av = .slice p (E k).ats.length cap ∧ (E k).ats.length ≤ 9223372036854775807
  att : ∀ k, k < n → 0 < (E k).ats.length → ∃ b o cap, (E k).av = .slice (some ⟨b, o, none⟩) (E k).ats.length cap ∧ L < b ∧ b < H ∧ wr.there b o ((E k).ats.length * 2)
theorem there_lt {w : World} {b o n : Nat} (h : w.there b o n) (h0 : 0 < n) : b < w.heap.size := by
  obtain ⟨u, hu⟩ := Option.isSome_iff_exists.1 (h 0 h0).1
  exact block_lt_of_cell hu
theorem Cpy.spo {w wr W : World} {L n : Nat} {E E' : Nat → Ev Value} (h : Cpy w L n n E E' wr) (hb : Below wr.heap.size wr W) : Spo wr.heap.size W L n 0 E' W := by
  have ha : ∀ k, k < n → (E' k).ats = (E k).ats := fun k hk => by rw [h.eq k hk]
  refine ⟨Kp.refl _ _ _, h.lt, there_below h.there hb h.lt, fun k _ hk => (hb.cell (p := ⟨L, k * 8 + 4, none⟩) h.lt).trans (h.rng k hk 4 _ rfl), fun k hk => ?_, fun k hk h0 => ?_⟩
  · obtain ⟨p, cap, e, h1, h2, _⟩ := (h.att k hk).1.row
    rw [ha k hk]
    exact ⟨p, cap, e, by omega⟩
  · rw [ha k hk] at h0 ⊢
    obtain ⟨b, o, cap, e, h1⟩ := (h.att k hk).1.wr.there h0
    have hlt := there_lt h1 (by omega)
    exact ⟨b, o, cap, e, (h.att k hk).2 b (by rw [e]; rfl), hlt, there_below h1 hb hlt⟩
theorem Spo.attr {H : Nat} {w wr : World} {L n i : Nat} {E : Nat → Ev Value} (h : Spo H w L n i E wr) (b o : Nat) (vs : List Value) (hb : L < b) (hH : b < H) : Spo H w L n i E (wr.setCells b o vs) := by
  refine ⟨h.kp.cells b o vs (by omega) hH, h.low, World.there_setCells h.there _ _ _, fun k h1 h2 => ?_, h.sl, fun k h1 h2 => ?_⟩
  · exact (World.cell?_of_block (a := ⟨L, k * 8 + 4, none⟩) (heap_cells_far (by show L ≠ b; omega) _ _ _)).trans (h.av k h1 h2)
  · obtain ⟨b', o', cap, e, h3, h3', h4⟩ := h.att k h1 h2
    exact ⟨b', o', cap, e, h3, h3', World.there_setCells h4 _ _ _⟩
theorem Spo.event {H : Nat} {w wr : World} {L n i : Nat} {E : Nat → Ev Value} (h : Spo H w L n i E wr) (vs : List Value) (hl : vs.length = 8) : Spo H w L n (i + 1) E (wr.setCells L (i * 8) vs) := by
  refine ⟨h.kp.cells L _ vs (Nat.le_refl _) h.low, h.low, World.there_setCells h.there _ _ _, fun k h1 h2 => ?_, h.sl, fun k h1 h2 => ?_⟩
  · have h1' : wr.rangeAt L (k * 8 + 4) [(E k).av] := fun j x hj => by
      cases j with
      | zero => simp at hj; subst hj; exact h.av k (by omega) h2
      | succ j => simp at hj
    exact World.rangeAt_setCells_apart h1' L (i * 8) vs (.inr (.inr (by omega))) 0 _ rfl
  · obtain ⟨b', o', cap, e, h3, h3', h4⟩ := h.att k h1 h2
    exact ⟨b', o', cap, e, h3, h3', World.there_setCells h4 _ _ _⟩
end Tr
set_option maxRecDepth 100000 in
set_option maxHeartbeats 2000000 in
theorem trSpoil (H : Nat) (w : World) (L n : Nat) (E : Nat → Tr.Ev Value) (h : Tr.Spo H w L n 0 E w) (hn : n ≤ 1466015503658) :
    Calls Tryd.prog 26 #[.slice (some ⟨L, 0, none⟩) n n] w fun r w' => (∃ u, r = .returned u) ∧ Tr.Kp L H w w' := by
  have HST := hide' h
  obtain ⟨CA, hCA⟩ : ∃ CA : Array Value, CA = #[.string ⟨#[115, 112, 111, 105, 108, 116]⟩, .string ⟨#[]⟩] := ⟨_, rfl⟩
  obtain ⟨EC, hEC⟩ : ∃ EC : Array Value, EC = #[.int .i64 1, .int .i64 (-5), .int .i64 0, .string ⟨#[]⟩, .slice none 0 0, .string ⟨#[115, 112, 111, 105, 108, 116]⟩, .int .i64 0, .int .i64 0] := ⟨_, rfl⟩
  have i1 : (Tryd.prog.info? 63).map (·.size) = some CA.size := by rw [hCA]; kernel_rfl
  have i2 : (Tryd.prog.info? 39).map (·.size) = some EC.size := by rw [hEC]; exact Tr.evSize
  have o1 : CA.all (·.oneCell') = true := by rw [hCA]; simp [Value.oneCell']
  have o2 : EC.all (·.oneCell') = true := by rw [hEC]; simp [Value.oneCell']
  have HCA := hide' hCA
  have HEC := hide' hEC
  have I1 := hide' i1
  have I2 := hide' i2
  have O1 := hide' o1
  have O2 := hide' o2
  clear h hCA hEC i1 i2 o1 o2
  go_enter Tryd.func26, Tryd.ntmps26
  go_wp2_with fail
  go_loopw [2] (fun v wr => ∃ i : Nat, v = .int .i64 i ∧ i ≤ n ∧ Hid (Tr.Spo H w L n i E wr)) (fun v _ => n - (RowKit.intOf v).toNat)
  case atStart => exact ⟨0, rfl, Nat.zero_le _, HST⟩
  case round =>
    clear HST
    obtain ⟨i, rfl, hi, HR⟩ := hrel
    by_cases hlt : i < n
    · have t1 : (i : Int) < (n : Int) := by omega
      have t0 : (0 : Int) ≤ i := by omega
      obtain ⟨p, cap, hav, hm⟩ := HR.out.sl i hlt
      have hatt := HR.out.att i hlt
      obtain ⟨m, hme⟩ : ∃ m, (E i).ats.length = m := ⟨_, rfl⟩
      rw [hme] at hav hm hatt
      have HAV := hide' hav
      have HME := hide' hme
      have HLT := hide' hlt
      clear hav hme hatt hlt
      go_wp2_with fail
      go_loopw [3] (fun v wr => ∃ k : Nat, v = .int .i64 k ∧ k ≤ m ∧ Hid (Tr.Spo H w L n i E wr)) (fun v _ => m - (RowKit.intOf v).toNat)
      case atStart => exact ⟨0, rfl, Nat.zero_le _, HR⟩
      case round =>
        clear HR
        obtain ⟨k, rfl, hk, HS⟩ := hrel
        have q4 := HS.out.av i (Nat.le_refl _) HLT.out
        rw [HAV.out] at q4
        by_cases hk2 : k < m
        · have t2 : (k : Int) < (m : Int) := by omega
          have t3 : (0 : Int) ≤ k := by omega
          obtain ⟨b, o, cap', e, hLb, hbH, hth⟩ := HS.out.att i HLT.out (by rw [HME.out]; omega)
          rw [HAV.out, HME.out] at e
          obtain ⟨rfl, rfl⟩ : p = some ⟨b, o, none⟩ ∧ cap = cap' := by cases e; exact ⟨rfl, rfl⟩
          rw [HME.out] at hth
          have hT : wr.there b (o + k * 2) CA.size := fun j hj => by
            rw [HCA.out] at hj
            have := hth (k * 2 + j) (by have : j < 2 := hj; omega)
            rw [← Nat.add_assoc] at this
            exact this
          have HT := hide' hT
          have HSA := hide' (HS.out.attr b (o + k * 2) CA.toList hLb hbH)
          clear hth e hT HS
          go_wp2_with (refine wpList_store_mid rfl 63 (.tmp 27) (.tmp 26) rfl b (o + k * 2) CA rfl (by rw [HCA.out]; rfl) HT.out I1.out O1.out ?_)
          exact ⟨⟨k + 1, rfl, by omega, HSA⟩, by simp [RowKit.intOf]; omega⟩
        · have t2 : ¬ (k : Int) < (m : Int) := by omega
          have hT : wr.there L (i * 8) EC.size := by
            rw [HEC.out]
            exact Tr.there_sub (m := 8) HS.out.there (by have := HLT.out; omega)
          have HT := hide' hT
          have HSA := hide' (HS.out.event EC.toList (by rw [HEC.out]; rfl))
          clear hT HS
          go_wp2_with (refine wpList_store_mid rfl 39 (.tmp 31) (.tmp 30) rfl L (i * 8) EC (by go_simp) (by rw [HEC.out]; rfl) HT.out I2.out O2.out ?_)
          exact ⟨⟨i + 1, rfl, by have := HLT.out; omega, HSA⟩, by have := HLT.out; simp [RowKit.intOf]; omega⟩
    · have t1 : ¬ (i : Int) < (n : Int) := by omega
      go_wp2_with fail
      go_end0
      exact ⟨⟨_, rfl⟩, HR.out.kp⟩
end Go.Proofs.YtghinafbdclmoaaDoor
