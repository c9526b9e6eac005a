/-
  THE WALKS over errors.as and errors.As at a Fault, the target a *Fault.
-/
import Derived.Test.YtoccedbnnafjcaaDoorErAsB
import Derived.Test.YtoccedbnnafjcaaDoorRnPut
namespace Go.Proofs.YtoccedbnnafjcaaDoor
open Go.RowKit Go.Lib
theorem Er.heap_new (w : World) (o : Obj) : (w.alloc o).heap[w.heap.size]? = some o := by
  show (w.heap.push o)[w.heap.size]? = _
  simp
set_option maxRecDepth 100000 in
set_option maxHeartbeats 4000000 in
theorem errorsas_P (d F b : Nat) (x : Value) (w : World) (hb : w.cell? ⟨b, 0, none⟩ = some (.pointer (some ⟨F, 0, none⟩))) (hF : w.heap[F]? = some (.cells #[x] 34 (0, 0))) :
    Calls Tryd.prog 34 #[.iface 34 (.pointer (some ⟨d, 0, none⟩)), .iface 38 (.pointer (some ⟨F, 0, none⟩)), .agg #[.pointer (some ⟨9, 38, none⟩), .pointer (some ⟨b, 0, none⟩), .int .u64 150], .iface 112 (.agg #[.pointer (some ⟨9, 34, none⟩)])] w
      fun e w' => e = .returned (.bool true) ∧ w'.heap[F]? = some (.cells #[.pointer (some ⟨d, 0, none⟩)] 34 (0, 0)) ∧ But F w w' := by
  obtain ⟨W1, hW1⟩ : ∃ W1, W1 = w.alloc (.cells #[.pointer (some ⟨9, 38, none⟩), .pointer (some ⟨b, 0, none⟩), .int .u64 150] 78) := ⟨_, rfl⟩
  have hbl : Below w.heap.size w W1 := by rw [hW1]; exact (Below.refl _ _).alloc (Nat.le_refl _) _
  have hFl : F < w.heap.size := (Array.getElem?_eq_some_iff.1 hF).1
  have hb1 : W1.cell? ⟨b, 0, none⟩ = some (.pointer (some ⟨F, 0, none⟩)) := (hbl.cell (p := ⟨b, 0, none⟩) (block_lt_of_cell hb)).trans hb
  have hF1 : W1.heap[F]? = some (.cells #[x] 34 (0, 0)) := (hbl.block F hFl).trans hF
  have hs1 : W1.heap.size = w.heap.size + 1 := by rw [hW1]; simp
  have k0 : W1.cell? ⟨w.heap.size, 0, none⟩ = some (.pointer (some ⟨9, 38, none⟩)) := by rw [hW1, Lib.cell_of_heap (Er.heap_new w _)]; rfl
  have k1 : W1.cell? ⟨w.heap.size, 1, none⟩ = some (.pointer (some ⟨b, 0, none⟩)) := by rw [hW1, Lib.cell_of_heap (Er.heap_new w _)]; rfl
  have k2 : W1.cell? ⟨w.heap.size, 2, none⟩ = some (.int .u64 150) := by rw [hW1, Lib.cell_of_heap (Er.heap_new w _)]; rfl
  have tP := Er.tyP
  have mA := Er.mAsg
  have aP := Er.asgP
  have eV := Er.elemVPP b ⟨F, 0, none⟩ W1 hb1
  have vP := Er.valP ⟨d, 0, none⟩ W1
  have hF2 : (W1.alloc (.cells #[.pointer (some ⟨d, 0, none⟩)] 34)).heap[F]? = some (.cells #[x] 34 (0, 0)) := (((Below.refl W1.heap.size W1).alloc (Nat.le_refl _) _).block F (by omega)).trans hF1
  have sP := Er.setP W1.heap.size F (.pointer (some ⟨d, 0, none⟩)) x (W1.alloc (.cells #[.pointer (some ⟨d, 0, none⟩)] 34)) (by rw [Lib.cell_of_heap (Er.heap_new W1 _)]; rfl) hF2 rfl
  have HB := hide' (And.intro hbl (And.intro hF2 hs1))
  clear hb hF hb1 hF1 hbl hF2 hs1
  go_enter Tryd.func34, Tryd.ntmps34
  go_wp2_with fail
  rw [← hW1]
  clear hW1
  go_loopw [0] (fun E wl => wl = W1 ∧ E = .iface 34 (.pointer (some ⟨d, 0, none⟩))) (fun _ _ => 0)
  case atStart => exact ⟨rfl, rfl⟩
  case round =>
    obtain ⟨rfl, rfl⟩ := hrel
    go_wp2
    go_ret
    obtain ⟨a1, a2, a3⟩ := HB.out
    refine ⟨rfl, setRow_heap _ F _ _ _ _ a2, ⟨?_, ?_, ?_, ?_, fun k hk hne => ?_⟩⟩
    · exact a1.os
    · exact a1.tape
    · exact a1.output
    · rw [setRow_size]; simp; omega
    · rw [setRow_other _ _ _ _ hne]
      exact (((Below.refl _ _).alloc (Nat.le_refl _) _).block k (by omega)).trans (a1.block k hk)
set_option maxRecDepth 100000 in
set_option maxHeartbeats 4000000 in
theorem errorsAs_P (d F : Nat) (x : Value) (w : World) (hE : Er.ETab w) (hF : w.heap[F]? = some (.cells #[x] 34 (0, 0))) :
    Calls Tryd.prog 12 #[.iface 34 (.pointer (some ⟨d, 0, none⟩)), .iface 38 (.pointer (some ⟨F, 0, none⟩))] w
      fun e w' => e = .returned (.bool true) ∧ w'.heap[F]? = some (.cells #[.pointer (some ⟨d, 0, none⟩)] 34 (0, 0)) ∧ But F w w' := by
  have hFl : F < w.heap.size := (Array.getElem?_eq_some_iff.1 hF).1
  have vPP := Er.valPP ⟨F, 0, none⟩ w
  obtain ⟨W1, hW1⟩ : ∃ W1, W1 = w.alloc (.cells #[.pointer (some ⟨F, 0, none⟩)] 38) := ⟨_, rfl⟩
  have hbl : Below w.heap.size w W1 := by rw [hW1]; exact (Below.refl _ _).alloc (Nat.le_refl _) _
  have hc1 : W1.cell? ⟨w.heap.size, 0, none⟩ = some (.pointer (some ⟨F, 0, none⟩)) := by rw [hW1, Lib.cell_of_heap (Er.heap_new w _)]; rfl
  rw [← hW1] at vPP
  clear hW1
  obtain ⟨W2, hW2⟩ : ∃ W2, W2 = W1.alloc (.cells #[.pointer (some ⟨9, 38, none⟩), .pointer (some ⟨w.heap.size, 0, none⟩), .int .u64 150] 78) := ⟨_, rfl⟩
  have hb2 : Below W1.heap.size W1 W2 := by rw [hW2]; exact (Below.refl _ _).alloc (Nat.le_refl _) _
  have hbb := hbl.trans (hb2.mono hbl.size)
  have hc2 := (hb2.cell (p := ⟨w.heap.size, 0, none⟩) (block_lt_of_cell hc1)).trans hc1
  have hF2 := (hbb.block F hFl).trans hF
  have k0 : W2.cell? ⟨W1.heap.size, 0, none⟩ = some (.pointer (some ⟨9, 38, none⟩)) := by rw [hW2, Lib.cell_of_heap (Er.heap_new W1 _)]; rfl
  have k1 : W2.cell? ⟨W1.heap.size, 1, none⟩ = some (.pointer (some ⟨w.heap.size, 0, none⟩)) := by rw [hW2, Lib.cell_of_heap (Er.heap_new W1 _)]; rfl
  have k2 : W2.cell? ⟨W1.heap.size, 2, none⟩ = some (.int .u64 150) := by rw [hW2, Lib.cell_of_heap (Er.heap_new W1 _)]; rfl
  have kE : W2.cell? ⟨0, 0, none⟩ = some (.iface 112 (.agg #[.pointer (some ⟨9, 26, none⟩)])) := (hbb.cell (p := ⟨0, 0, none⟩) (block_lt_of_cell hE)).trans hE
  have vT := Er.valType
  have mK := Er.mKind
  have kPP := Er.kindPP
  have kP := Er.kindP
  have iN := Er.isNilPP w.heap.size ⟨F, 0, none⟩ W2 hc2
  have mE := Er.mElem
  have eP := Er.elemPP
  have mI := Er.mImpl
  have iP := Er.implP
  have cA := errorsas_P d F w.heap.size x W2 hc2 hF2
  have HB := hide' hbb
  clear hF hE hbl hc1 hb2 hbb hc2 hF2
  go_enter Tryd.func12, Tryd.ntmps12
  go_wp2_with fail
  rw [← hW2]
  clear hW2
  rw [iN]
  go_wp2_with fail
  refine cA.mono ?_
  rintro e w' ⟨rfl, hF', hBut⟩
  clear cA
  go_wp2
  go_ret
  exact ⟨rfl, hF', (But.of_below HB.out).trans hBut⟩
end Go.Proofs.YtoccedbnnafjcaaDoor
