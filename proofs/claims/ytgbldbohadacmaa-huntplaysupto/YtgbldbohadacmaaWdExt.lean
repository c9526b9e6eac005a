/-
  WALKS over words.extend and words.borders.
-/
import Derived.Test.YtgbldbohadacmaaWdKmp
import Derived.Test.YtgbldbohadacmaaProg
import Derived.Below
import Derived.RangeFuncRecord
import Derived.Lib.Builder
import Derived.Deep.DeepFit
namespace Go.Proofs.Ytgbldbohadacmaa
open Go.RowKit Go.Lib

theorem wHide {p : Prop} (h : p) : Hid p := h
/-- numbers that lie one behind the other -/
def Row (k : IntKind) (w : World) (b o n : Nat) (p : Nat → Nat) : Prop := ∀ j, j < n → w.cell? ⟨b, o + j, none⟩ = some (.int k (p j))
theorem Row.below {k : IntKind} {w w' : World} {B b o n : Nat} {p : Nat → Nat} (h : Row k w b o n p) (hb : Below B w w') (hB : w.heap.size ≤ B) : Row k w' b o n p :=
  fun j hj => (hb.cell (p := ⟨b, o + j, none⟩) (Nat.lt_of_lt_of_le (block_lt_of_cell (h j hj)) hB)).trans (h j hj)

set_option maxHeartbeats 1000000 in
theorem extend_any (p bf t : Nat → Nat) (m g og capg b ob capb q0 r tl : Nat) (w : World) (_hg2 : capg ≤ maxLen) (hb : m ≤ capb) (_hb2 : capb ≤ maxLen)
    (hl : Row .i32 w g og m p) (hr : Row .i64 w b ob q0 bf) (hbd : ∀ j, j < q0 → Wd.Bd p (bf j) j) (hL : Wd.Lps p m t tl q0) (hq : q0 < m) (ht : t tl = r) :
    Calls Try.prog 32 #[.slice (some ⟨g, og, none⟩) m capg, .slice (some ⟨b, ob, none⟩) m capb, .int .i64 q0, .int .i32 r] w fun e w' => ∃ x : Nat, e = .returned (.int .i64 x) ∧ Wd.Lps p m t (tl + 1) x ∧ w' = w := by
  have hg2 : capg ≤ 9223372036854775807 := by unfold maxLen at _hg2; omega
  have hb2 : capb ≤ 9223372036854775807 := by unfold maxLen at _hb2; omega
  have h0 : Hid (Wd.Ext p m t tl r q0) := Wd.Ext.of hL hq
  have HT := wHide ht
  clear ht hL
  go_enter Try.func32, Try.ntmps32
  go_wp2
  go_loop [2] (fun a => ∃ q : Nat, a = .int .i64 q ∧ Hid (Wd.Ext p m t tl r q) ∧ q ≤ q0) (fun a => (intOf a).toNat)
  case atStart => exact ⟨q0, rfl, h0, Nat.le_refl _⟩
  case round =>
    obtain ⟨q, rfl, hE, hqq⟩ := hrel
    have hqm := hE.out.lt
    have cq := hl q hqm
    by_cases hz : q = 0
    · have hz' : ¬ 0 < (q : Int) := by omega
      by_cases hp : p q = r
      · have hx := hE.out.hit hp HT.out
        rw [hp] at cq
        clear hp hz
        go_wp2
        go_ret
        exact ⟨q + 1, by go_num, hx, rfl⟩
      · have hx : Wd.Lps p m t (tl + 1) q := by
          have h := hE.out
          subst hz
          exact h.miss hp HT.out
        have hpi : ¬ ((p q : Int) = (r : Int)) := by omega
        clear hz
        go_wp2
        go_ret
        exact ⟨q, rfl, hx, rfl⟩
    · have hz' : 0 < (q : Int) := by omega
      by_cases hp : p q = r
      · have hx := hE.out.hit hp HT.out
        rw [hp] at cq
        clear hp
        go_wp2
        go_ret
        exact ⟨q + 1, by go_num, hx, rfl⟩
      · obtain ⟨hx, hlt⟩ := hE.out.back (by omega) hp (hbd (q - 1) (by omega))
        have hpi : ¬ ((p q : Int) = (r : Int)) := by omega
        have cb := hr (q - 1) (by omega)
        have HX := wHide hx
        clear hp hx
        go_wp2
        go_round
        case rel => exact ⟨bf (q - 1), by go_num, HX, by omega⟩
        case measure => simp [intOf]; omega

theorem infoInt' : (Try.prog.info? 3).map (fun i => (i.zero, i.size, i.bytes)) = some (some (.int .i64 0), 1, 8) := by kernel_rfl
theorem info3 {o : Option TypeInfo} {z : Option Value} {s b : Nat} (h : o.map (fun i => (i.zero, i.size, i.bytes)) = some (z, s, b)) : ∃ i, o = some i ∧ i.zero = z ∧ i.size = s ∧ i.bytes = b := by
  obtain ⟨i, h1, h2⟩ := Option.map_eq_some_iff.1 h
  simp only [Prod.mk.injEq] at h2
  exact ⟨i, h1, h2.1, h2.2.1, h2.2.2⟩

/-- the border's numbers, in a block of its own -/
structure Bords (p : Nat → Nat) (cur : Array Value) (k : Nat) (bf : Nat → Nat) : Prop where
  get : ∀ j, j < k → cur[j]? = some (.int .i64 (bf j))
  bd : ∀ j, j < k → Wd.Bd p (bf j) j

set_option maxHeartbeats 1000000 in
set_option maxRecDepth 100000 in
theorem borders_any (p : Nat → Nat) (m g og capg : Nat) (w : World) (hm : m ≤ 17592186044416) (_hg2 : capg ≤ maxLen) (hl : Row .i32 w g og m p) :
    Calls Try.prog 24 #[.slice (some ⟨g, og, none⟩) m capg] w fun e w' => e = .returned (.slice (some ⟨w.heap.size, 0, none⟩) m m) ∧ ∃ cur, w' = w.alloc (.cells cur 3) ∧ cur.size = m ∧ ∃ bf, Bords p cur m bf := by
  have hg2 : capg ≤ 9223372036854775807 := by unfold maxLen at _hg2; omega
  obtain ⟨i0, hi, hz0, hz1, hz2⟩ := info3 infoInt'
  have hmk := run_make (P := Try.prog) w 44 3 i0 (.int .i64 0) Try.underlying44 hi hz0 .i64 .i64 m m (by omega) (by omega) (by rw [hz2]; omega) (by omega)
  rw [hz1, show (m : Int).toNat = m by omega, Nat.mul_one] at hmk
  obtain ⟨cur, hcur⟩ : ∃ cur, madeCells (Value.int .i64 0).cells m = cur := ⟨_, rfl⟩
  have hsz : cur.size = m := by rw [← hcur, size_madeCells]
  have hc0 : 0 < m → cur[0]? = some (.int .i64 0) := by
    intro h
    rw [← hcur]
    simp [madeCells, Value.cells, h]
  rw [hcur] at hmk
  clear hcur hi hz0 hz1 hz2
  have cE : ∀ (cur : Array Value) (bf : Nat → Nat) (q i : Nat), Bords p cur i bf → q < i → i < m → Wd.Lps p m (fun j => p (j + 1)) (i - 1) q → _ := fun cur bf q i hB hq hi hL =>
    extend_any p bf (fun j => p (j + 1)) m g og capg w.heap.size 0 m q (p i) (i - 1) (w.alloc (.cells cur 3)) _hg2 (Nat.le_refl _) (by unfold maxLen; omega)
      (hl.below ((Below.refl w.heap.size w).alloc (Nat.le_refl _) _) (Nat.le_refl _)) (fun j hj => by
        have := World.alloc_heap_new w (.cells cur 3)
        rw [Lib.cell_of_heap this, Nat.zero_add]
        exact hB.get j (by omega)) (fun j hj => hB.bd j (by omega)) hL (by omega) (by show p (i - 1 + 1) = p i; congr 1; omega)
  go_enter Try.func24, Try.ntmps24
  go_wp2
  go_loopw [4, 5] (fun a b wr => ∃ (q i : Nat) (cur : Array Value) (bf : Nat → Nat), a = .int .i64 q ∧ b = .int .i64 i ∧ wr = w.alloc (.cells cur 3) ∧ cur.size = m ∧ 1 ≤ i ∧ (0 < m → i ≤ m) ∧ Hid (Bords p cur (min i m) bf) ∧ q < i ∧ Hid (Wd.Lps p m (fun j => p (j + 1)) (i - 1) q))
    (fun _ b _ => m - (intOf b).toNat)
  case atStart =>
    refine ⟨0, 1, cur, fun _ => 0, rfl, rfl, rfl, hsz, Nat.le_refl _, fun h => h, ⟨fun j hj => ?_, fun j hj => ?_⟩, by omega, Wd.lps_zero _ _ _⟩
    · obtain rfl : j = 0 := by omega
      exact hc0 (by omega)
    · obtain rfl : j = 0 := by omega
      exact Wd.bd_zero p
  case round =>
    clear hmk hsz hc0 cur
    obtain ⟨q, i, cur, bf, rfl, rfl, rfl, hsz, hi1, him, hB, hqi, hL⟩ := hrel
    by_cases hlt : i < m
    · have c := cE cur bf q i (by have := hB.out; rwa [show min i m = i by omega] at this) hqi hlt hL.out
      have ci := hl i hlt
      have hgl := block_lt_of_cell ci
      have hlti : (i : Int) < (m : Int) := by omega
      clear cE
      go_wp2_with fail
      refine c.mono ?_
      rintro e w1 ⟨x, rfl, hx, rfl⟩
      rw [show i - 1 + 1 = i by omega] at hx
      have HX := wHide hx
      clear hx c
      go_wp2
      go_roundw
      case rel =>
        refine ⟨x, i + 1, cur.setIfInBounds i (.int .i64 x), fun j => if j = i then x else bf j, rfl, by go_num, rfl, by simp [hsz], by omega, fun _ => by omega, ⟨fun j hj => ?_, fun j hj => ?_⟩, ?_, by simpa using HX⟩
        · by_cases e : j = i
          · subst e
            simp [hsz, hlt]
          · have := hB.out.get j (by omega)
            rw [if_neg e, Array.getElem?_setIfInBounds_ne (fun h => e h.symm)]
            exact this
        · by_cases e : j = i
          · subst e
            rw [if_pos rfl]
            exact HX.out.bd hlt
          · rw [if_neg e]
            exact hB.out.bd j (by omega)
        · have := HX.out.2.1.1
          omega
      case measure => simp [intOf]; omega
    · have hlti : ¬ (i : Int) < (m : Int) := by omega
      clear cE
      go_wp2
      go_ret
      exact ⟨rfl, cur, rfl, hsz, bf, by have := hB.out; rwa [show min i m = m by omega] at this⟩
end Go.Proofs.Ytgbldbohadacmaa
