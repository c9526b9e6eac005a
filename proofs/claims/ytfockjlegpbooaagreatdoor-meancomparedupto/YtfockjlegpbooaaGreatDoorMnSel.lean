import Derived.Test.YtfockjlegpbooaaGreatDoorTrDocB
import Derived.Test.YtfockjlegpbooaaGreatDoorTrCopy
import Derived.Test.YtfockjlegpbooaaGreatDoorTrAlong
import Derived.Test.YtfockjlegpbooaaGreatDoorMnReach
import Derived.Test.YtfockjlegpbooaaGreatDoorMnGround
/-
  WALKS over ask.Check and what it calls, at a path of one step without predicates.
-/
namespace Go.Proofs.YtfockjlegpbooaaGreatDoor
open Go.RowKit Go.Shelf Go.Lib
namespace Mn
/-- nothing but one block has changed -/
structure ButB (W : World) (b : Nat) (W' : World) : Prop where
  os : W'.os = W.os
  tape : W'.tape = W.tape
  output : W'.output = W.output
  size : W.heap.size ≤ W'.heap.size
  same : ∀ j, j < W.heap.size → j ≠ b → W'.heap[j]? = W.heap[j]?
theorem ButB.refl (W : World) (b : Nat) : ButB W b W := ⟨rfl, rfl, rfl, Nat.le_refl _, fun _ _ _ => rfl⟩
theorem ButB.trans {W W1 W2 : World} {b : Nat} (h : ButB W b W1) (k : ButB W1 b W2) : ButB W b W2 :=
  ⟨k.os.trans h.os, k.tape.trans h.tape, k.output.trans h.output, Nat.le_trans h.size k.size, fun j h1 h2 => (k.same j (Nat.lt_of_lt_of_le h1 h.size) h2).trans (h.same j h1 h2)⟩
theorem ButB.of {W W' : World} {b : Nat} (h : Below W.heap.size W W') : ButB W b W' := ⟨h.os, h.tape, h.output, h.size, fun j h1 _ => h.block j h1⟩
theorem ButB.set (W : World) (b o : Nat) (x : Value) : ButB W b (W.setCell ⟨b, o, none⟩ x) := by
  have hb : Below b W (W.setCell ⟨b, o, none⟩ x) := (Below.refl _ _).setCell (p := ⟨b, o, none⟩) (Nat.le_refl _) _
  exact ⟨hb.os, hb.tape, hb.output, hb.size, fun j _ h2 => Below.heap_setCell _ _ _ _ h2⟩
theorem ButB.below {W W' : World} {b : Nat} (h : ButB W b W') (hb : b ≤ W.heap.size) : Below b W W' := ⟨h.os, h.tape, h.output, h.size, fun j hj => h.same j (by omega) (by omega)⟩
/-- a survey -/
def Sv (W : World) (b : Nat) (x y : Int) : Prop := W.heap[b]? = some (.cells #[.int .i64 x, .int .i64 y] 83 (0, 0))
end Mn
set_option maxHeartbeats 1000000 in
theorem askReach (W : World) (b : Nat) (x y : Int) (h : Mn.Sv W b x y) :
    Calls Tryz.prog 82 #[.pointer (some ⟨b, 0, none⟩), .int .i64 0] W fun r w' => r = .returned (.bool true) ∧ (∃ y', Mn.Sv w' b x y') ∧ Mn.ButB W b w' := by
  have c1 : W.cell? ⟨b, 1, none⟩ = some (.int .i64 y) := by rw [Lib.cell_of_heap h]; rfl
  have f1 : W.frozen? ⟨b, 1, none⟩ = false := Lib.frozen_of_heap h 1
  have HS := hide' h
  clear h
  go_enter Tryz.func82, Tryz.ntmps82
  go_wp2
  go_ret
  exact ⟨rfl, ⟨_, Go.Joins.block_setCell (i := 1) HS.out _⟩, Mn.ButB.set _ _ _ _⟩
set_option maxHeartbeats 1000000 in
theorem askIsTest0 (nm : ByteArray) (W : World) (hn : nm.size ≤ 140737488351232) (hS : Spans W) (hT : Lib.Utf8Tabs 1 2 W) :
    Calls Tryz.prog 101 #[.int .i64 0, .string nm] W fun r w' => r = .returned (.bool (Tr.nameB nm)) ∧ Below W.heap.size W w' := by
  have c := chName nm W hn hS hT
  clear hS hT
  go_enter Tryz.func101, Tryz.ntmps101
  go_wp2_with fail
  refine c.mono ?_
  rintro e w' ⟨rfl, hb⟩
  go_wp2_with fail
  go_ret
  exact ⟨rfl, hb⟩
set_option maxHeartbeats 1000000 in
theorem askIsTest2 (W : World) : Calls Tryz.prog 101 #[.int .i64 2, .string ⟨#[]⟩] W fun r w' => r = .returned (.bool true) ∧ Below W.heap.size W w' := by
  go_enter Tryz.func101, Tryz.ntmps101
  go_wp2
  go_ret
  exact ⟨by simp, Below.refl _ _⟩
set_option maxHeartbeats 2000000 in
theorem askStep (W : World) (b : Nat) (x y : Int) (h : Mn.Sv W b x y) (hx : 0 ≤ x ∧ x ≤ 1000) (ax test : Int) (nm : ByteArray) (hax : 0 ≤ ax ∧ ax ≤ 3)
    (hT : ∀ W', Mn.ButB W b W' → Calls Tryz.prog 101 #[.int .i64 test, .string nm] W' fun r w' => r = .returned (.bool true) ∧ Below W'.heap.size W' w') :
    Calls Tryz.prog 83 #[.pointer (some ⟨b, 0, none⟩), .agg #[.int .i64 ax, .int .i64 test, .string nm, .slice none 0 0], .int .i64 0] W fun r w' => r = .returned (.bool true) ∧ (∃ x' y', Mn.Sv w' b x' y') ∧ Mn.ButB W b w' := by
  obtain ⟨W1, hW1⟩ : ∃ W1, W.alloc (.cells #[.int .i64 ax, .int .i64 test, .string nm, .slice none 0 0] 64) = W1 := ⟨_, rfl⟩
  have hb1 : Below W.heap.size W W1 := by rw [← hW1]; exact (Below.refl _ _).alloc (Nat.le_refl _) _
  have hs1 : W1.heap[W.heap.size]? = some (.cells #[.int .i64 ax, .int .i64 test, .string nm, .slice none 0 0] 64 (0, 0)) := by rw [← hW1]; exact heap_alloc_new W _
  have hbl : b < W.heap.size := (Array.getElem?_eq_some_iff.1 h).1
  have hv1 : Mn.Sv W1 b x y := (hb1.block _ hbl).trans h
  have c0 : W1.cell? ⟨b, 0, none⟩ = some (.int .i64 x) := by rw [Lib.cell_of_heap hv1]; rfl
  have f0 : W1.frozen? ⟨b, 0, none⟩ = false := Lib.frozen_of_heap hv1 0
  have tw : IntKind.i64.wrap (x + 1) = x + 1 := by rw [IntKind.wrap_i64]; omega
  obtain ⟨W2, hW2⟩ : ∃ W2, W1.setCell ⟨b, 0, none⟩ (.int .i64 (x + 1)) = W2 := ⟨_, rfl⟩
  have hs2 : W2.heap[W.heap.size]? = some (.cells #[.int .i64 ax, .int .i64 test, .string nm, .slice none 0 0] 64 (0, 0)) := by rw [← hW2]; exact (Below.heap_setCell _ _ _ _ (by show W.heap.size ≠ b; omega)).trans hs1
  have hv2 : Mn.Sv W2 b (x + 1) y := by rw [← hW2]; exact Go.Joins.block_setCell (i := 0) hv1 _
  have hbu2 : Mn.ButB W b W2 := by rw [← hW2]; exact (Mn.ButB.of hb1).trans (Mn.ButB.set _ _ _ _)
  have s0 : W2.cell? ⟨W.heap.size, 0, none⟩ = some (.int .i64 ax) := by rw [Lib.cell_of_heap hs2]; rfl
  have s1 : W2.cell? ⟨W.heap.size, 1, none⟩ = some (.int .i64 test) := by rw [Lib.cell_of_heap hs2]; rfl
  have s2 : W2.cell? ⟨W.heap.size, 2, none⟩ = some (.string nm) := by rw [Lib.cell_of_heap hs2]; rfl
  have CT := hide' (hT W2 hbu2)
  have HS2 := hide' hs2
  have HV2 := hide' hv2
  have HBU := hide' hbu2
  have HW1 := hide' hW1
  have HW2 := hide' hW2
  have HBL := hide' hbl
  obtain ⟨ha0, ha3⟩ := hax
  rw [← hW1] at c0 f0
  rw [← hW2, ← hW1] at s0 s1 s2
  clear h hT hb1 hs1 hv1 hs2 hv2 hbu2 hW1 hW2 hx hbl
  go_enter Tryz.func83, Tryz.ntmps83
  go_wp2_with fail
  rw [show (W.alloc (.cells #[.int .i64 ax, .int .i64 test, .string nm, .slice none 0 0] 64)) = W1 from HW1.out, HW2.out]
  refine CT.out.mono ?_
  rintro e w3 ⟨rfl, hb3⟩
  have hl2 : W.heap.size < W2.heap.size := (Array.getElem?_eq_some_iff.1 HS2.out).1
  have s3 : w3.cell? ⟨W.heap.size, 3, none⟩ = some (.slice none 0 0) := by rw [Lib.cell_of_heap ((hb3.block _ hl2).trans HS2.out)]; rfl
  have HV3 : Hid (Mn.Sv w3 b (x + 1) y) := (hb3.block _ (by have := HBL.out; omega)).trans HV2.out
  have HBU3 : Hid (Mn.ButB W b w3) := HBU.out.trans (Mn.ButB.of hb3)
  clear CT hb3 hl2 s0 s1 s2 c0 f0 HV2 HBU HS2
  go_wp2_with fail
  go_loopw [35] (fun v wr => v = .int .i64 0 ∧ wr = w3) (fun _ _ => 0)
  case atStart => exact ⟨rfl, rfl⟩
  case round =>
    obtain ⟨rfl, rfl⟩ := hrel
    have t9 : ¬ (0 : Int) < 0 := by omega
    go_wp2
    go_ret
    exact ⟨rfl, ⟨_, _, HV3.out⟩, HBU3.out⟩
set_option maxHeartbeats 2000000 in
theorem askPath (W : World) (b : Nat) (x y : Int) (h : Mn.Sv W b x y) (hx : 0 ≤ x ∧ x ≤ 1000) (sb : Nat) (ax test : Int) (nm : ByteArray) (hax : 0 ≤ ax ∧ ax ≤ 3) (hst : W.heap[sb]? = some (.cells #[.int .i64 ax, .int .i64 test, .string nm, .slice none 0 0] 64 (0, 0)))
    (hT : ∀ W', Mn.ButB W b W' → Calls Tryz.prog 101 #[.int .i64 test, .string nm] W' fun r w' => r = .returned (.bool true) ∧ Below W'.heap.size W' w') :
    Calls Tryz.prog 60 #[.pointer (some ⟨b, 0, none⟩), .agg #[.slice (some ⟨sb, 0, none⟩) 1 1], .int .i64 0] W fun r w' => r = .returned (.bool true) ∧ (∃ x' y', Mn.Sv w' b x' y') ∧ Mn.ButB W b w' := by
  obtain ⟨W1, hW1⟩ : ∃ W1, W.alloc (.cells #[.slice (some ⟨sb, 0, none⟩) 1 1] 25) = W1 := ⟨_, rfl⟩
  have hb1 : Below W.heap.size W W1 := by rw [← hW1]; exact (Below.refl _ _).alloc (Nat.le_refl _) _
  have hp1 : W1.heap[W.heap.size]? = some (.cells #[.slice (some ⟨sb, 0, none⟩) 1 1] 25 (0, 0)) := by rw [← hW1]; exact heap_alloc_new W _
  have hbl : b < W.heap.size := (Array.getElem?_eq_some_iff.1 h).1
  have hsl : sb < W.heap.size := (Array.getElem?_eq_some_iff.1 hst).1
  have hne : sb ≠ b := fun e => by
    subst e
    rw [show W.heap[sb]? = _ from h] at hst
    have := Option.some.inj hst
    injection this with _ h2 _
    exact absurd h2 (by decide)
  have hv1 : Mn.Sv W1 b x y := (hb1.block _ hbl).trans h
  have CR := hide' (askReach W1 b x y hv1)
  have HB1 := hide' hb1
  have HP1 := hide' hp1
  have HST := hide' hst
  have HT := hide' hT
  have HBL := hide' hbl
  have HSL := hide' hsl
  have HNE := hide' hne
  have HW1 := hide' hW1
  clear h hst hT hb1 hp1 hbl hsl hne hv1 hW1
  go_enter Tryz.func60, Tryz.ntmps60
  go_wp2_with fail
  rw [HW1.out]
  refine CR.out.mono ?_
  rintro e w2 ⟨rfl, ⟨y2, hv2⟩, hbu2⟩
  have hl1 : W.heap.size < W1.heap.size := (Array.getElem?_eq_some_iff.1 HP1.out).1
  have p2 : w2.cell? ⟨W.heap.size, 0, none⟩ = some (.slice (some ⟨sb, 0, none⟩) 1 1) := by rw [Lib.cell_of_heap ((hbu2.same _ hl1 (by have := HBL.out; omega)).trans HP1.out)]; rfl
  have hst2 : w2.heap[sb]? = some (.cells #[.int .i64 ax, .int .i64 test, .string nm, .slice none 0 0] 64 (0, 0)) := (hbu2.same _ (by have := HSL.out; omega) HNE.out).trans ((HB1.out.block _ HSL.out).trans HST.out)
  have HBU2 : Hid (Mn.ButB W b w2) := (Mn.ButB.of HB1.out).trans hbu2
  have HV2 := hide' hv2
  have HST2 := hide' hst2
  clear hv2 hst2 hbu2 CR hl1
  go_wp2_with fail
  go_loopw [22] (fun v wr => ∃ i : Nat, v = .int .i64 i ∧ i ≤ 1 ∧ Hid (Mn.ButB W b wr ∧ (∃ x' y', Mn.Sv wr b x' y') ∧ (i = 0 → wr = w2))) (fun v _ => 1 - (RowKit.intOf v).toNat)
  case atStart => exact ⟨0, rfl, by omega, HBU2.out, ⟨_, _, HV2.out⟩, fun _ => rfl⟩
  case round =>
    obtain ⟨i, rfl, hi, HR⟩ := hrel
    by_cases hi0 : i = 0
    · subst hi0
      obtain rfl := HR.out.2.2 rfl
      have s0 : wr.cell? ⟨sb, 0, none⟩ = some (.int .i64 ax) := by rw [Lib.cell_of_heap HST2.out]; rfl
      have s1 : wr.cell? ⟨sb, 1, none⟩ = some (.int .i64 test) := by rw [Lib.cell_of_heap HST2.out]; rfl
      have s2 : wr.cell? ⟨sb, 2, none⟩ = some (.string nm) := by rw [Lib.cell_of_heap HST2.out]; rfl
      have s3 : wr.cell? ⟨sb, 3, none⟩ = some (.slice none 0 0) := by rw [Lib.cell_of_heap HST2.out]; rfl
      obtain ⟨W3, hW3⟩ : ∃ W3, wr.alloc (.cells #[.int .i64 ax, .int .i64 test, .string nm, .slice none 0 0] 64) = W3 := ⟨_, rfl⟩
      have hb3 : Below wr.heap.size wr W3 := by rw [← hW3]; exact (Below.refl _ _).alloc (Nat.le_refl _) _
      have hbu3 : Mn.ButB W b W3 := HBU2.out.trans (Mn.ButB.of hb3)
      have hst3 : W3.heap[wr.heap.size]? = some (.cells #[.int .i64 ax, .int .i64 test, .string nm, .slice none 0 0] 64 (0, 0)) := by rw [← hW3]; exact heap_alloc_new wr _
      have CS := hide' (askStep W3 b x y2 ((hb3.block _ (Array.getElem?_eq_some_iff.1 HV2.out).1).trans HV2.out) hx ax test nm hax (fun W' hb => HT.out W' (hbu3.trans hb)))
      have HBU3 := hide' hbu3
      have HW3 := hide' hW3
      clear hb3 hbu3 hW3 hst3
      go_wp2_with fail
      rw [HW3.out]
      refine CS.out.mono ?_
      rintro e w4 ⟨rfl, hv4, hbu4⟩
      have HF : Hid (Mn.ButB W b w4 ∧ (∃ x' y', Mn.Sv w4 b x' y') ∧ (1 = 0 → w4 = wr)) := ⟨HBU3.out.trans hbu4, hv4, fun e => absurd e (by decide)⟩
      clear hv4 hbu4 CS HR HBU2 HV2 HST2 HBU3 s0 s1 s2 s3
      go_wp2
      exact ⟨⟨1, rfl, by omega, HF⟩, by simp [RowKit.intOf]⟩
    · obtain rfl : i = 1 := by omega
      have t9 : ¬ (1 : Int) < 1 := by omega
      go_wp2
      go_ret
      exact ⟨rfl, HR.out.2.1, HR.out.1⟩
end Go.Proofs.YtfockjlegpbooaaGreatDoor
/-
  WALKS over ask.look and ask.Check at a path of one step without predicates.
-/
namespace Go.Proofs.YtfockjlegpbooaaGreatDoor
open Go.RowKit Go.Shelf Go.Lib
namespace Mn
theorem svSize : (Tryz.prog.info? 83).map (·.size) = some 2 := by kernel_rfl
theorem load_sv {w : World} {b : Nat} {x y : Int} (h : Sv w b x y) : (loadVar 83 ⟨b, 0, none⟩).run Tryz.prog w = .ok (.agg #[.int .i64 x, .int .i64 y]) w :=
  run_loadVar_mid (P := Tryz.prog) w b 0 83 [.int .i64 x, .int .i64 y] _ (Tr.range_of h) Tryz.underlying83 rfl svSize
end Mn
set_option maxRecDepth 100000 in
set_option maxHeartbeats 2000000 in
theorem askLook (W : World) (sb : Nat) (ax test : Int) (nm : ByteArray) (hax : 0 ≤ ax ∧ ax ≤ 3) (hst : W.heap[sb]? = some (.cells #[.int .i64 ax, .int .i64 test, .string nm, .slice none 0 0] 64 (0, 0)))
    (hT : ∀ W', Below W.heap.size W W' → Calls Tryz.prog 101 #[.int .i64 test, .string nm] W' fun r w' => r = .returned (.bool true) ∧ Below W'.heap.size W' w') :
    Calls Tryz.prog 32 #[.agg #[.slice (some ⟨sb, 0, none⟩) 1 1]] W fun r w' => (∃ x y, r = .returned (.tuple #[.agg #[.int .i64 x, .int .i64 y], .int .i64 0])) ∧ Below W.heap.size W w' := by
  obtain ⟨W1, hW1⟩ : ∃ W1, ((W.alloc (.cells #[.slice (some ⟨sb, 0, none⟩) 1 1] 25)).alloc (.cells #[.int .i64 0, .int .i64 0] 83)).alloc (.cells #[.int .i64 0, .int .i64 0] 83) = W1 := ⟨_, rfl⟩
  have hb1 : Below W.heap.size W W1 := by rw [← hW1]; exact (((Below.refl _ _).alloc (Nat.le_refl _) _).alloc (by simp) _).alloc (by simp; omega) _
  have hv1 : Mn.Sv W1 (W.heap.size + 1 + 1) 0 0 := by
    have h1 := heap_alloc_new ((W.alloc (.cells #[.slice (some ⟨sb, 0, none⟩) 1 1] 25)).alloc (.cells #[.int .i64 0, .int .i64 0] 83)) (.cells #[.int .i64 0, .int .i64 0] 83)
    rw [World.size_alloc, World.size_alloc, hW1] at h1
    exact h1
  have hr1 : Mn.Sv W1 (W.heap.size + 1) 0 0 := by
    have h1 := heap_alloc_new (W.alloc (.cells #[.slice (some ⟨sb, 0, none⟩) 1 1] 25)) (.cells #[.int .i64 0, .int .i64 0] 83)
    rw [World.size_alloc] at h1
    rw [← hW1]
    exact (Below.heap_alloc _ _ _ (by simp)).trans h1
  have hl1 : W1.heap.size = W.heap.size + 3 := by rw [← hW1]; simp
  have hsl : sb < W.heap.size := (Array.getElem?_eq_some_iff.1 hst).1
  have CP := hide' (askPath W1 (W.heap.size + 1 + 1) 0 0 hv1 ⟨by decide, by decide⟩ sb ax test nm hax ((hb1.block _ hsl).trans hst) (fun W' hbu => hT W' (hb1.trans ((hbu.below (by omega)).mono (by omega)))))
  have HB1 := hide' hb1
  have HR1 := hide' hr1
  have HL1 := hide' hl1
  have HW1 := hide' hW1
  clear hst hT hb1 hv1 hr1 hl1 hsl hax hW1
  go_enter Tryz.func32, Tryz.ntmps32
  go_wp2_with fail
  rw [HW1.out]
  refine CP.out.mono ?_
  rintro e w4 ⟨rfl, ⟨x, y, hv4⟩, hbu⟩
  have hl := HL1.out
  have hr4 : Mn.Sv w4 (W.heap.size + 1) 0 0 := (hbu.same _ (by omega) (by omega)).trans HR1.out
  have c0 : w4.cell? ⟨W.heap.size + 1 + 1, 0, none⟩ = some (.int .i64 x) := by rw [Lib.cell_of_heap hv4]; rfl
  have c1 : w4.cell? ⟨W.heap.size + 1 + 1, 1, none⟩ = some (.int .i64 y) := by rw [Lib.cell_of_heap hv4]; rfl
  have r0 : w4.cell? ⟨W.heap.size + 1, 0, none⟩ = some (.int .i64 0) := by rw [Lib.cell_of_heap hr4]; rfl
  have r1 : w4.cell? ⟨W.heap.size + 1, 1, none⟩ = some (.int .i64 0) := by rw [Lib.cell_of_heap hr4]; rfl
  have f0 : w4.frozen? ⟨W.heap.size + 1, 0, none⟩ = false := Lib.frozen_of_heap hr4 0
  have f1 : w4.frozen? ⟨W.heap.size + 1, 1, none⟩ = false := Lib.frozen_of_heap hr4 1
  have HB4 : Hid (Below W.heap.size W w4) := HB1.out.trans ((hbu.below (by omega)).mono (by omega))
  have h5 : Mn.Sv (w4.setCell ⟨W.heap.size + 1, 0, none⟩ (.int .i64 x)) (W.heap.size + 1) x 0 := Go.Joins.block_setCell (i := 0) hr4 _
  have r5 : (w4.setCell ⟨W.heap.size + 1, 0, none⟩ (.int .i64 x)).cell? ⟨W.heap.size + 1, 1, none⟩ = some (.int .i64 0) := by rw [Lib.cell_of_heap h5]; rfl
  have f5 : (w4.setCell ⟨W.heap.size + 1, 0, none⟩ (.int .i64 x)).frozen? ⟨W.heap.size + 1, 1, none⟩ = false := Lib.frozen_of_heap h5 1
  have h6 : Mn.Sv ((w4.setCell ⟨W.heap.size + 1, 0, none⟩ (.int .i64 x)).setCell ⟨W.heap.size + 1, 1, none⟩ (.int .i64 y)) (W.heap.size + 1) x y := Go.Joins.block_setCell (i := 1) h5 _
  have HB6 : Hid (Below W.heap.size W ((w4.setCell ⟨W.heap.size + 1, 0, none⟩ (.int .i64 x)).setCell ⟨W.heap.size + 1, 1, none⟩ (.int .i64 y))) := (HB4.out.setCell (p := ⟨W.heap.size + 1, 0, none⟩) (by show W.heap.size ≤ W.heap.size + 1; omega) _).setCell (p := ⟨W.heap.size + 1, 1, none⟩) (by show W.heap.size ≤ W.heap.size + 1; omega) _
  have H6 := hide' h6
  clear hv4 hbu hr4 h5 h6 hl CP
  go_wp2_with fail
  refine bodyPost_ret (Tr.results_ct Tryz.results32 _ ⟨W.heap.size + 1, 0, none⟩ rfl _ _ (Mn.load_sv H6.out)) rfl ?_
  exact ⟨⟨x, y, rfl⟩, HB6.out⟩
theorem askCheck (W : World) (sb : Nat) (ax test : Int) (nm : ByteArray) (hax : 0 ≤ ax ∧ ax ≤ 3) (hst : W.heap[sb]? = some (.cells #[.int .i64 ax, .int .i64 test, .string nm, .slice none 0 0] 64 (0, 0)))
    (hT : ∀ W', Below W.heap.size W W' → Calls Tryz.prog 101 #[.int .i64 test, .string nm] W' fun r w' => r = .returned (.bool true) ∧ Below W'.heap.size W' w') :
    Calls Tryz.prog 14 #[.agg #[.slice (some ⟨sb, 0, none⟩) 1 1]] W fun r w' => r = .returned (.int .i64 0) ∧ Below W.heap.size W w' := by
  have hb1 : Below W.heap.size W (W.alloc (.cells #[.slice (some ⟨sb, 0, none⟩) 1 1] 25)) := (Below.refl _ _).alloc (Nat.le_refl _) _
  have c := askLook (W.alloc (.cells #[.slice (some ⟨sb, 0, none⟩) 1 1] 25)) sb ax test nm hax ((hb1.block _ (Array.getElem?_eq_some_iff.1 hst).1).trans hst) (fun W' hb => hT W' (hb1.trans (hb.mono hb1.size)))
  have HB1 := hide' hb1
  clear hst hT hax hb1
  go_enter Tryz.func14, Tryz.ntmps14
  go_wp2_with fail
  refine c.mono ?_
  rintro e w1 ⟨⟨x, y, rfl⟩, hb⟩
  have hb2 : Below W.heap.size W w1 := HB1.out.trans (hb.mono HB1.out.size)
  have HB2 := hide' hb2
  clear hb hb2 c
  go_wp2_with fail
  go_ret
  exact ⟨rfl, by first | exact HB2.out | exact HB2.out.alloc HB2.out.size _⟩
end Go.Proofs.YtfockjlegpbooaaGreatDoor
/-
  WALKS over mean.From and mean.Select at a path of one step without predicates.
-/
namespace Go.Proofs.YtfockjlegpbooaaGreatDoor
open Go.RowKit Go.Shelf Go.Lib
namespace Mn
/-- the spots of these nodes, but for where their attributes lie -/
def SpP (E : Nat → Tr.Ev Value) (n : Nat) (k : Int) (ms : List Int) (l : List Sp) : Prop := l.length = ms.length ∧ ∀ i m, ms[i]? = some m → ∃ av, l[i]? = some (spA E n k m (atL E n (ms.take i)) av)
theorem SPS.pure {W : World} {M : Nat} {E : Nat → Tr.Ev Value} {n : Nat} {k : Int} {ms : List Int} {l : List Sp} (h : SPS W M E n k ms l) : SpP E n k ms l :=
  ⟨h.len, fun i m hm => by obtain ⟨av, h1, _⟩ := h.at_ i m hm; exact ⟨av, h1⟩⟩
/-- what From answers -/
def FromE (E : Nat → Tr.Ev Value) (n nd : Nat) (k ax test : Int) (nm : ByteArray) (w : World) (r : Ending) (w' : World) : Prop :=
  ∃ u l, r = .returned (.tuple #[u, .int .i64 0]) ∧ Tr.IO w' w.heap.size u (numsB k (reach1 (str l (l.length - 1)) ax test nm) l.length) ∧ SpP E n k (Tr.numL k (Tr.bh E n nd k)) l ∧ Below w.heap.size w w'
theorem SpP.par {E : Nat → Tr.Ev Value} {n nd : Nat} {k : Int} {l : List Sp} (h : SpP E n k (Tr.numL k (Tr.bh E n nd k)) l) (hs : Tr.Shape E (Tr.grun E n) nd n) (hk1 : -1 ≤ k) (hk2 : k < nd) (c : Nat) :
    ∀ i, 0 < i → i < (str l c).length → 0 ≤ (nth (str l c) i).par ∧ (nth (str l c) i).par < (str l c).length := fun i h0 h1 => by
  rw [str_length] at h1 ⊢
  rw [str_par l i h1 c]
  have hl := h.1
  rw [Tr.numL_length] at hl
  obtain ⟨av, e⟩ := h.2 i (k + i) (Tr.numL_get k _ i (by omega))
  have e2 : nth l i = spA E n k (k + i) (atL E n ((Tr.numL k (Tr.bh E n nd k)).take i)) av := by unfold nth; rw [e]; rfl
  rw [e2]
  unfold spA
  rw [if_neg (by omega)]
  have := par_in hs hk1 hk2 (show k < k + i by omega) (by omega)
  show 0 ≤ parI E n (k + i) - k ∧ parI E n (k + i) - k < _
  omega
end Mn
set_option maxRecDepth 100000 in
set_option maxHeartbeats 4000000 in
theorem mnFrom1 (W : World) (B D n : Nat) (E : Nat → Tr.Ev Value) (L q cap nd : Nat) (h : Tr.TreeR W B D n E L q cap nd) (hs : ∀ i, i < n → Tr.Tiny (E i)) (hn : n ≤ 1048576) (k : Int) (hk1 : -1 ≤ k) (hk2 : k < nd)
    (sb : Nat) (ax test : Int) (nm : ByteArray) (hax : 0 ≤ ax ∧ ax ≤ 3) (hst : W.heap[sb]? = some (.cells #[.int .i64 ax, .int .i64 test, .string nm, .slice none 0 0] 64 (0, 0)))
    (hT : ∀ W', Below W.heap.size W W' → Calls Tryz.prog 101 #[.int .i64 test, .string nm] W' fun r w' => r = .returned (.bool true) ∧ Below W'.heap.size W' w') :
    Calls Tryz.prog 18 #[.pointer (some ⟨D, 0, none⟩), .int .i64 k, .agg #[.slice (some ⟨sb, 0, none⟩) 1 1]] W fun r w' => Mn.FromE E n nd k ax test nm W r w' := by
  have HTR := hide' h
  have HS := hide' hs
  have HST := hide' hst
  have HT := hide' hT
  have hsl : sb < W.heap.size := (Array.getElem?_eq_some_iff.1 hst).1
  have HSL := hide' hsl
  clear h hs hst hT hsl
  obtain ⟨W1, hW1⟩ : ∃ W1, W.alloc (.cells #[.slice (some ⟨sb, 0, none⟩) 1 1] 25) = W1 := ⟨_, rfl⟩
  have hb1 : Below W.heap.size W W1 := by rw [← hW1]; exact (Below.refl _ _).alloc (Nat.le_refl _) _
  have hp1 : W1.heap[W.heap.size]? = some (.cells #[.slice (some ⟨sb, 0, none⟩) 1 1] 25 (0, 0)) := by rw [← hW1]; exact heap_alloc_new W _
  have CL := hide' (trLen W1 B D n E L q cap nd (HTR.out.below hb1))
  have CC := hide' (askCheck W1 sb ax test nm hax ((hb1.block _ HSL.out).trans HST.out) (fun W' hb => HT.out W' (hb1.trans (hb.mono hb1.size))))
  have c1 : W1.cell? ⟨W.heap.size, 0, none⟩ = some (.slice (some ⟨sb, 0, none⟩) 1 1) := by rw [Lib.cell_of_heap hp1]; rfl
  have HB1 := hide' hb1
  have HP1 := hide' hp1
  have HW1 := hide' hW1
  have tk1 : ¬ k < -1 := by omega
  have tk2 : ¬ (nd : Int) ≤ k := by omega
  clear hb1 hp1 hW1
  go_enter Tryz.func18, Tryz.ntmps18
  go_wp2_with fail
  rw [HW1.out]
  refine CL.out.mono ?_
  rintro e w1 ⟨rfl, rfl⟩
  clear CL
  go_wp2_with fail
  refine CC.out.mono ?_
  rintro e w2 ⟨rfl, hb2⟩
  have HB2 := hide' (HB1.out.trans (hb2.mono HB1.out.size))
  have hl1 : W.heap.size < w1.heap.size := (Array.getElem?_eq_some_iff.1 HP1.out).1
  have HP2 : Hid (w2.heap[W.heap.size]? = some (.cells #[.slice (some ⟨sb, 0, none⟩) 1 1] 25 (0, 0))) := (hb2.block _ hl1).trans HP1.out
  have CG := hide' (mnGround w2 B D n E L q cap nd (HTR.out.below HB2.out) HS.out hn k hk1 hk2)
  clear CC hb2 hl1 c1 HP1 HB1 HW1 hax HT
  go_wp2_with fail
  refine CG.out.mono ?_
  rintro e w3 ⟨G, M, v, l, rfl, hb3, hG3, hgr3, hsp3⟩
  have HB3 := hide' (HB2.out.trans (hb3.mono HB2.out.size))
  have hl2 : W.heap.size < w2.heap.size := (Array.getElem?_eq_some_iff.1 HP2.out).1
  have c3 : w3.cell? ⟨W.heap.size, 0, none⟩ = some (.slice (some ⟨sb, 0, none⟩) 1 1) := by rw [Lib.cell_of_heap ((hb3.block _ hl2).trans HP2.out)]; rfl
  have hpu := hsp3.pure
  have hll : (Mn.str l (l.length - 1)).length = l.length := Mn.str_length _ _
  have hlen := hpu.1
  rw [Tr.numL_length] at hlen
  have hbh := Tr.bh_up HTR.out.shp hk1 hk2
  have hnd := HTR.out.shp.ndn
  have CR := hide' (mnReach1 w3 M G k _ v (Mn.str l (l.length - 1)) hgr3 (hpu.par HTR.out.shp hk1 hk2 _) ax test nm none 0 sb ((HB3.out.block _ HSL.out).trans HST.out) (by omega) (by omega))
  have HGR := hide' hgr3
  have HPU := hide' hpu
  have HLL := hide' hll
  have HLN : Hid (l.length ≤ 1048577 ∧ k ≤ 1048576) := ⟨by omega, by omega⟩
  clear hb3 hgr3 hsp3 hpu hll hlen hbh hnd CG hl2 HP2 HB2 hG3
  go_wp2_with fail
  refine CR.out.mono ?_
  rintro e w4 ⟨⟨u, rfl, hset⟩, hb4⟩
  have HB4 := hide' (HB3.out.trans (hb4.mono HB3.out.size))
  have CN := hide' (mnNumbers w4 M G k _ v (Mn.str l (l.length - 1)) (HGR.out.below hb4) w3.heap.size u _ hset (by rw [Mn.reach1_len, HLL.out]; have := HLN.out; omega) ⟨hk1, by have := HLN.out; omega⟩)
  rw [Mn.reach1_len, HLL.out] at CN
  clear hset hb4 CR HGR c3
  go_wp2_with fail
  refine CN.out.mono ?_
  rintro e w5 ⟨⟨u2, rfl, hio⟩, hb5⟩
  have HIO := hide' hio
  have HB5 := hide' (HB4.out.trans (hb5.mono HB4.out.size))
  clear hio hb5 CN
  go_wp2_with fail
  go_ret2
  exact ⟨u2, l, rfl, Tr.owns_base HIO.out HB4.out.size, HPU.out, HB5.out⟩
end Go.Proofs.YtfockjlegpbooaaGreatDoor
/-
  WALKS over mean.Select at a path of one step that leads to one node, and gimletlaw12's ints.
-/
namespace Go.Proofs.YtfockjlegpbooaaGreatDoor
open Go.RowKit Go.Shelf Go.Lib
set_option maxRecDepth 100000 in
set_option maxHeartbeats 4000000 in
theorem mnSelect1 (W : World) (B D n : Nat) (E : Nat → Tr.Ev Value) (L q cap nd : Nat) (h : Tr.TreeR W B D n E L q cap nd) (hs : ∀ i, i < n → Tr.Tiny (E i)) (hn : n ≤ 1048576)
    (sb : Nat) (ax test : Int) (nm : ByteArray) (hax : 0 ≤ ax ∧ ax ≤ 3) (hst : W.heap[sb]? = some (.cells #[.int .i64 ax, .int .i64 test, .string nm, .slice none 0 0] 64 (0, 0)))
    (hT : ∀ W', Below W.heap.size W W' → Calls Tryz.prog 101 #[.int .i64 test, .string nm] W' fun r w' => r = .returned (.bool true) ∧ Below W'.heap.size W' w')
    (x : Int) (hx : 0 ≤ x) (hv : ∀ l, Mn.SpP E n (-1) (Tr.numL (-1) (Tr.bh E n nd (-1))) l → Mn.numsB (-1) (Mn.reach1 (Mn.str l (l.length - 1)) ax test nm) l.length = [x]) :
    Calls Tryz.prog 15 #[.pointer (some ⟨D, 0, none⟩), .agg #[.slice (some ⟨sb, 0, none⟩) 1 1]] W fun r w' => (∃ u, r = .returned (.tuple #[u, .int .i64 0]) ∧ Tr.IO w' W.heap.size u [x]) ∧ Below W.heap.size W w' := by
  have hb1 : Below W.heap.size W (W.alloc (.cells #[.slice (some ⟨sb, 0, none⟩) 1 1] 25)) := (Below.refl _ _).alloc (Nat.le_refl _) _
  have CF := hide' (mnFrom1 (W.alloc (.cells #[.slice (some ⟨sb, 0, none⟩) 1 1] 25)) B D n E L q cap nd (h.below hb1) hs hn (-1) (by omega) (by omega) sb ax test nm hax ((hb1.block _ (Array.getElem?_eq_some_iff.1 hst).1).trans hst) (fun W' hb => hT W' (hb1.trans (hb.mono hb1.size))))
  have HB1 := hide' hb1
  have HV := hide' hv
  clear h hs hst hT hb1 hv
  go_enter Tryz.func15, Tryz.ntmps15
  go_wp2_with fail
  refine CF.out.mono ?_
  rintro e w2 ⟨u, l, rfl, hio, hsp, hb2⟩
  rw [HV.out l hsp] at hio
  have hb3 : Below W.heap.size W w2 := HB1.out.trans (hb2.mono HB1.out.size)
  obtain ⟨p, c, rfl, h1, h2, h3, h4⟩ := hio.row
  obtain ⟨g, o, rfl, hc⟩ := h4 (by simp)
  have c0 := hc 0 x rfl
  rw [Nat.add_zero] at c0
  have t1 : (x == -1) = false := by simp; omega
  have HIO := hide' hio
  have HB3 := hide' hb3
  clear hio hsp hb2 hb3 CF hc h4 HV
  go_wp2_with fail
  go_ret2
  exact ⟨⟨_, rfl, Tr.owns_base HIO.out (by simp)⟩, HB3.out⟩
set_option maxHeartbeats 1000000 in
theorem mnInts (W : World) (va vb : Value) (n : Nat) (l : List Int) (ha : Tr.IRow W va n l) (hb : Tr.IRow W vb n l) (hn : n ≤ 1000000) :
    Calls Tryz.prog 16 #[va, vb] W fun e w' => e = .returned (.bool true) ∧ Below W.heap.size W w' := by
  obtain ⟨p, cap, rfl, ha1, ha2, hl, hac⟩ := ha
  obtain ⟨p', cap', rfl, hb1, hb2, -, hbc⟩ := hb
  have HA := hide' hac
  have HB := hide' hbc
  have HL := hide' hl
  clear hac hbc hl ha1 ha2 hb1 hb2
  go_enter Tryz.func16, Tryz.ntmps16
  go_wp2
  go_loopw [5] (fun v wr => ∃ i : Nat, v = .int .i64 i ∧ i ≤ n ∧ Hid (Below W.heap.size W wr)) (fun v _ => n - (RowKit.intOf v).toNat)
  case atStart => exact ⟨0, rfl, Nat.zero_le _, Below.refl _ _⟩
  case round =>
    obtain ⟨i, rfl, hi, HW⟩ := hrel
    by_cases hlt : i < n
    · obtain ⟨b1, o1, rfl, hc1⟩ := HA.out (by omega)
      obtain ⟨b2, o2, rfl, hc2⟩ := HB.out (by omega)
      obtain ⟨x, hx⟩ : ∃ x, l[i]? = some x := ⟨_, List.getElem?_eq_getElem (by have := HL.out; omega)⟩
      have k1 : wr.cell? ⟨b1, o1 + i, none⟩ = some (.int .i64 x) := (HW.out.cell (p := ⟨b1, o1 + i, none⟩) (block_lt_of_cell (hc1 i x hx))).trans (hc1 i x hx)
      have k2 : wr.cell? ⟨b2, o2 + i, none⟩ = some (.int .i64 x) := (HW.out.cell (p := ⟨b2, o2 + i, none⟩) (block_lt_of_cell (hc2 i x hx))).trans (hc2 i x hx)
      have t1 : (i : Int) < (n : Int) := by omega
      have t0 : (0 : Int) ≤ i := by omega
      have tw : IntKind.i64.wrap ((i : Int) + 1) = (i : Int) + 1 := by rw [IntKind.wrap_i64]; omega
      clear hc1 hc2 hx HA HB HL
      go_wp2
      go_quiet (fail)
      go_wp2
      go_roundw
      case rel => exact ⟨i + 1, rfl, by omega, below_drewN HW.out _⟩
      case measure => simp [RowKit.intOf]; omega
    · have t1 : ¬ (i : Int) < (n : Int) := by omega
      go_wp2
      go_ret
      exact ⟨rfl, HW.out⟩
end Go.Proofs.YtfockjlegpbooaaGreatDoor
