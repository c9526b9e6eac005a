/-
  THE WALK over gimletlaw01.RunesTakes: at every two scripts of bytes.
-/
import Derived.Test.YtacmenmneilamaaDoorRnTakes
import Derived.Test.YtacmenmneilamaaDoorRnAwake
namespace Go.Proofs.YtacmenmneilamaaDoor
open Go.RowKit Go.Lib

/-- a slice of bytes that came in: no byte, or bytes that are told by their place -/
def SlB (w : World) (pa : Option Addr) (n : Nat) (f : Nat → Nat) : Prop := n = 0 ∨ ∃ b o, pa = some ⟨b, o, none⟩ ∧ b < w.heap.size ∧ Bytes w b o n f

theorem heap_new (w : World) (o : Obj) {k : Nat} (h : k = w.heap.size) : (w.alloc o).heap[k]? = some o := by
  subst h
  show (w.heap.push o)[w.heap.size]? = _
  simp
theorem pair_new (w : World) (D M : Nat) (hD : w.heap[D]? = some (.cells #[.int .u8 0, .int .u8 0, .int .u8 0, .int .u8 0, .int .i64 0, .bool false] 92 (0, 0)))
    (hM : w.heap[M]? = some (.cells #[.slice none 0 0, .bool false] 54 (0, 0))) : Pair w D M :=
  ⟨fun _ => 0, 0, false, _, hD, ⟨hM, World.ownsRow_nil _ _ _ _⟩, by omega, upd_zero_lt, fun _ => .inl rfl, fun _ => rfl⟩
theorem Pair.dec {w : World} {D M : Nat} (h : Pair w D M) : ∃ c, w.heap[D]? = some (.cells c 92 (0, 0)) := by
  obtain ⟨x, n, bad, v, hd, _⟩ := h
  exact ⟨_, hd⟩
theorem Pair.ref {w : World} {D M : Nat} (h : Pair w D M) : ∃ c, w.heap[M]? = some (.cells c 54 (0, 0)) := by
  obtain ⟨x, n, bad, v, _, hr, _⟩ := h
  exact ⟨_, hr.1⟩

set_option maxRecDepth 100000 in
set_option maxHeartbeats 4000000 in
theorem lawTakes_any (pb pc : Option Addr) (nb nc capb capc : Nat) (f g : Nat → Nat) (w : World) (hT : Lib.Utf8Tabs 0 1 w) (hf : ∀ j, f j < 256) (hg : ∀ j, g j < 256)
    (hnb : nb ≤ 9223372036854775807) (hnc : nc ≤ 9223372036854775807) (hb : SlB w pb nb f) (hc : SlB w pc nc g) :
    Calls Tryd.prog 5 #[.slice pb nb capb, .slice pc nc capc] w fun e w' => e = .returned (.bool true) ∧ Below w.heap.size w w' := by
  have cA := awake_any w hT
  go_enter Tryd.func5, Tryd.ntmps5
  go_wp2_with fail
  refine cA.mono ?_
  rintro e w1 ⟨rfl, hb1⟩
  clear cA
  go_wp2_with fail
  refine (new_any w1).mono ?_
  rintro e w2 ⟨rfl, rfl⟩
  go_wp2_with fail
  refine (new_any _).mono ?_
  rintro e w3 ⟨rfl, rfl⟩
  go_wp2_with fail
  go_loopw [9] (fun i wr => ∃ k : Nat, i = .int .i64 k ∧ (k ≤ nb ∨ k ≤ nc) ∧ Pair wr w1.heap.size (w1.heap.size + 1 + 1) ∧ Pair wr (w1.heap.size + 1) (w1.heap.size + 1 + 1 + 1) ∧ Below w1.heap.size w1 wr) (fun i _ => (nb + nc) - (RowKit.intOf i).toNat)
  case atStart =>
    refine ⟨0, rfl, .inl (Nat.zero_le _), pair_new _ _ _ ?_ ?_, pair_new _ _ _ ?_ ?_, (((((Below.refl w1.heap.size w1).alloc (Nat.le_refl _) _).alloc (by simp) _).alloc (by simp; omega) _).alloc (by simp; omega) _)⟩
    · rw [Below.heap_alloc _ _ _ (by simp; omega), Below.heap_alloc _ _ _ (by simp; omega), Below.heap_alloc _ _ _ (by simp)]
      show (w1.heap.push _)[w1.heap.size]? = _
      simp
    · rw [Below.heap_alloc _ _ _ (by simp)]
      exact heap_new _ _ (by simp)
    · rw [Below.heap_alloc _ _ _ (by simp), Below.heap_alloc _ _ _ (by simp)]
      exact heap_new _ _ (by simp)
    · exact heap_new _ _ (by simp)
  case round =>
    obtain ⟨k, rfl, hk, hP1, hP2, hBr⟩ := hrel
    have hBw := hb1.trans (hBr.mono hb1.size)
    have hTr := tabs_below hT hBw (Nat.le_refl _)
    by_cases hlb : k < nb
    · have gb : (k : Int) < nb := by omega
      rcases hb with h0 | ⟨bb, ob, rfl, hbb, hby⟩
      · omega
      have ck := (hby.below hBw (Nat.le_refl _)) k hlb
      have hfk := hf k
      by_cases hlc : k < nc
      · have gc : (k : Int) < nc := by omega
        rcases hc with h0 | ⟨bc, oc, rfl, hbc, hcy⟩
        · omega
        go_wp2_with fail
        refine (takes_any w1.heap.size (w1.heap.size + 1 + 1) (f k) wr hfk hTr (by omega) hP1).mono ?_
        rintro e w4 ⟨rfl, hP1', hq1⟩
        obtain ⟨cD, hcD⟩ := hP1.dec
        obtain ⟨cM, hcM⟩ := hP1.ref
        have hP2' := hP2.kept hq1 (by omega) (by omega) (by omega) (by omega) hcD hcM
        have hB4 : Below w1.heap.size w1 w4 := hBr.trans (hq1.below (Nat.le_refl _) (by omega) hBr.size)
        have hBw4 := hb1.trans (hB4.mono hb1.size)
        have hT4 := tabs_below hT hBw4 (Nat.le_refl _)
        have ck4 := (hcy.below hBw4 (Nat.le_refl _)) k hlc
        have hgk := hg k
        clear hP1 hP2 hq1 hcD hcM
        go_wp2_with fail
        refine (takes_any (w1.heap.size + 1) (w1.heap.size + 1 + 1 + 1) (g k) w4 hgk hT4 (by omega) hP2').mono ?_
        rintro e w5 ⟨rfl, hP2'', hq2⟩
        obtain ⟨cD, hcD⟩ := hP2'.dec
        obtain ⟨cM, hcM⟩ := hP2'.ref
        have hP1'' := hP1'.kept hq2 (by omega) (by omega) (by omega) (by omega) hcD hcM
        have hB5 : Below w1.heap.size w1 w5 := hB4.trans (hq2.below (by omega) (by omega) hB4.size)
        go_wp2_with fail
        go_roundw
        case rel => exact ⟨k + 1, by go_num, by omega, hP1'', hP2'', hB5⟩
        case measure => simp [RowKit.intOf]; omega
      · have gc : ¬ (k : Int) < nc := by omega
        have gc' : decide ((k : Int) < nc) = false := by simp; omega
        go_wp2_with fail
        refine (takes_any w1.heap.size (w1.heap.size + 1 + 1) (f k) wr hfk hTr (by omega) hP1).mono ?_
        rintro e w4 ⟨rfl, hP1', hq1⟩
        obtain ⟨cD, hcD⟩ := hP1.dec
        obtain ⟨cM, hcM⟩ := hP1.ref
        have hP2' := hP2.kept hq1 (by omega) (by omega) (by omega) (by omega) hcD hcM
        have hB4 : Below w1.heap.size w1 w4 := hBr.trans (hq1.below (Nat.le_refl _) (by omega) hBr.size)
        clear hP1 hP2 hq1 hcD hcM
        go_wp2_with fail
        go_roundw
        case rel => exact ⟨k + 1, by go_num, by omega, hP1', hP2', hB4⟩
        case measure => simp [RowKit.intOf]; omega
    · have gb : ¬ (k : Int) < nb := by omega
      have gb' : decide ((k : Int) < nb) = false := by simp; omega
      by_cases hlc : k < nc
      · have gc : (k : Int) < nc := by omega
        rcases hc with h0 | ⟨bc, oc, rfl, hbc, hcy⟩
        · omega
        have ck4 := (hcy.below hBw (Nat.le_refl _)) k hlc
        have hgk := hg k
        go_wp2_with fail
        refine (takes_any (w1.heap.size + 1) (w1.heap.size + 1 + 1 + 1) (g k) wr hgk hTr (by omega) hP2).mono ?_
        rintro e w5 ⟨rfl, hP2'', hq2⟩
        obtain ⟨cD, hcD⟩ := hP2.dec
        obtain ⟨cM, hcM⟩ := hP2.ref
        have hP1'' := hP1.kept hq2 (by omega) (by omega) (by omega) (by omega) hcD hcM
        have hB5 : Below w1.heap.size w1 w5 := hBr.trans (hq2.below (by omega) (by omega) hBr.size)
        go_wp2_with fail
        go_roundw
        case rel => exact ⟨k + 1, by go_num, by omega, hP1'', hP2'', hB5⟩
        case measure => simp [RowKit.intOf]; omega
      · have gc : ¬ (k : Int) < nc := by omega
        have gc' : decide ((k : Int) < nc) = false := by simp; omega
        go_wp2_with fail
        refine (take_nil 65 wr).mono ?_
        rintro e w4 ⟨rfl, rfl⟩
        go_wp2_with fail
        refine (pending_nil _).mono ?_
        rintro e w5 ⟨rfl, rfl⟩
        go_wp2_with fail
        go_ret
        exact ⟨rfl, hBw⟩
end Go.Proofs.YtacmenmneilamaaDoor
