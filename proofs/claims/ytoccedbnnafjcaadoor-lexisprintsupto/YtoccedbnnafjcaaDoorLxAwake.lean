/-
  THE WALK over gimletlaw10.awake.
-/
import Derived.Test.YtoccedbnnafjcaaDoorLxNone
import Derived.Lib.SlBytesConst
import Derived.Laws.OwnMore
namespace Go.Proofs.YtoccedbnnafjcaaDoor
open Go.RowKit Go.Lib
namespace Lx
/-- the bytes of awake -/
def awB : List Nat := [47, 47, 97, 91, 64, 120, 45, 49, 61, 39, 121, 39, 93, 62, 48, 48, 55]
def awF : Nat → Nat := fun j => awB.getD j 0
theorem awF_lt (j : Nat) : awF j < 256 := by
  unfold awF
  by_cases h : j < 17
  · have : ∀ j, j < 17 → awB.getD j 0 < 256 := by decide
    exact this j h
  · rw [List.getD_eq_getElem?_getD, List.getElem?_eq_none (by show 17 ≤ j; omega)]
    decide
theorem aw_flt : flt awF 17 = none := by kernel_rfl
theorem aw_len : (words awF 17).1.length = 10 := by kernel_rfl
theorem aw_1 : (wdls awF 17 (words awF 17).1)[1]? = some (.string ⟨#[47, 47]⟩) := by kernel_rfl
theorem aw_29 : (wdls awF 17 (words awF 17).1)[29]? = some (.string ⟨#[120, 45, 49]⟩) := by kernel_rfl
theorem aw_42 : (wdls awF 17 (words awF 17).1)[42]? = some (.int .i64 1) := by kernel_rfl
theorem aw_43 : (wdls awF 17 (words awF 17).1)[43]? = some (.string ⟨#[121]⟩) := by kernel_rfl
theorem aw_45 : (wdls awF 17 (words awF 17).1)[45]? = some (.int .i64 9) := by kernel_rfl
theorem aw_65 : (wdls awF 17 (words awF 17).1)[65]? = some (.int .i64 7) := by kernel_rfl
theorem row_shape {w : World} {B : Nat} {e : TypeId} {size : Nat} {v : Value} {n : Nat} {xs : List Value} (h : w.ownsRow B e size v n xs) (hn : 0 < n) : ∃ g cap, v = .slice (some ⟨g, 0, none⟩) n cap ∧ n ≤ cap ∧ cap ≤ maxLen ∧ B ≤ g ∧ ∀ j u, xs[j]? = some u → w.cell? ⟨g, j, none⟩ = some u := by
  obtain ⟨k, rfl⟩ : ∃ k, n = k + 1 := ⟨n - 1, by omega⟩
  rcases h.2 with ⟨e1, e2⟩ | ⟨g, cap, cur, e1, hb, hg, hc, hm, hs⟩
  · omega
  · subst e1
    refine ⟨g, cap, rfl, by omega, by omega, hb, fun j u hj => ?_⟩
    have := h.cells (g := g) rfl j u hj
    rwa [show ((⟨g, 0, none⟩ : Addr).add j) = ⟨g, j, none⟩ from by simp [Addr.add]; exact fun h => h.symm] at this
end Lx
set_option maxRecDepth 100000 in
set_option maxHeartbeats 4000000 in
theorem lxAwake_any (w : World) (hT : Lib.Utf8Tabs 1 2 w) (hS : Spans w) (hG : Signs w) :
    Calls Tryd.prog 7 #[] w fun e w' => e = .returned (.bool true) ∧ Below w.heap.size w w' := by
  have kc := Lib.run_convert_bytes_const (P := Tryd.prog) w 22 5 #[.int .u8 47, .int .u8 47, .int .u8 97, .int .u8 91, .int .u8 64, .int .u8 120, .int .u8 45, .int .u8 49, .int .u8 61, .int .u8 39, .int .u8 121, .int .u8 39, .int .u8 93, .int .u8 62, .int .u8 48, .int .u8 48, .int .u8 55] 17 17 Tryd.underlying22 Tryd.underlying5
  have hb : Below w.heap.size w (w.alloc (.cells #[.int .u8 47, .int .u8 47, .int .u8 97, .int .u8 91, .int .u8 64, .int .u8 120, .int .u8 45, .int .u8 49, .int .u8 61, .int .u8 39, .int .u8 121, .int .u8 39, .int .u8 93, .int .u8 62, .int .u8 48, .int .u8 48, .int .u8 55] 5 (17, 18))) := (Below.refl _ _).alloc (Nat.le_refl _) _
  have hby : Bytes (w.alloc (.cells #[.int .u8 47, .int .u8 47, .int .u8 97, .int .u8 91, .int .u8 64, .int .u8 120, .int .u8 45, .int .u8 49, .int .u8 61, .int .u8 39, .int .u8 121, .int .u8 39, .int .u8 93, .int .u8 62, .int .u8 48, .int .u8 48, .int .u8 55] 5 (17, 18))) w.heap.size 0 17 Lx.awF := by
    intro j hj
    rw [Nat.zero_add, Lib.cell_of_heap (Lx.heap_new w _)]
    have : ∀ j, j < 17 → (#[.int .u8 47, .int .u8 47, .int .u8 97, .int .u8 91, .int .u8 64, .int .u8 120, .int .u8 45, .int .u8 49, .int .u8 61, .int .u8 39, .int .u8 121, .int .u8 39, .int .u8 93, .int .u8 62, .int .u8 48, .int .u8 48, .int .u8 55] : Array Value)[j]? = some (.int .u8 (Lx.awF j : Nat)) := by
      intro j hj
      match j, hj with
      | 0, _ => rfl
      | 1, _ => rfl
      | 2, _ => rfl
      | 3, _ => rfl
      | 4, _ => rfl
      | 5, _ => rfl
      | 6, _ => rfl
      | 7, _ => rfl
      | 8, _ => rfl
      | 9, _ => rfl
      | 10, _ => rfl
      | 11, _ => rfl
      | 12, _ => rfl
      | 13, _ => rfl
      | 14, _ => rfl
      | 15, _ => rfl
      | 16, _ => rfl
      | (k + 17), h => omega
    exact this j hj
  have cW := words_any Lx.awF 17 w.heap.size 0 17 _ (tabs_below hT hb (Nat.le_refl _)) (hS.below hb (Nat.le_refl _)) (hG.below hb (Nat.le_refl _)) Lx.awF_lt (Nat.le_refl _) (by decide) (by decide) hby
  have HW := hide' cW
  have HB := hide' hb
  clear cW hb hby hT hS hG
  go_enter Tryd.func7, Tryd.ntmps7
  go_wp2_with fail
  refine HW.out.mono ?_
  intro e w1 hE
  cases hE with
  | bad a why d _ h => rw [Lx.aw_flt] at h; cases h
  | ok v _ _ _ hr hbl =>
    rw [Lx.aw_len] at hr
    obtain ⟨g, cap, rfl, hc1, hc2, _, hcell⟩ := Lx.row_shape hr (by omega)
    have hb2 := hide' (HB.out.trans (hbl.mono HB.out.size))
    have c1 := hcell 1 _ Lx.aw_1
    have c29 := hcell 29 _ Lx.aw_29
    have c42 := hcell 42 _ Lx.aw_42
    have c43 := hcell 43 _ Lx.aw_43
    have c45 := hcell 45 _ Lx.aw_45
    have c65 := hcell 65 _ Lx.aw_65
    have hc3 : cap ≤ 9223372036854775807 := by unfold maxLen at hc2; omega
    clear hr hbl hcell HW HB hc2 kc
    go_wp2
    go_ret
    exact ⟨rfl, hb2.out⟩
end Go.Proofs.YtoccedbnnafjcaaDoor
