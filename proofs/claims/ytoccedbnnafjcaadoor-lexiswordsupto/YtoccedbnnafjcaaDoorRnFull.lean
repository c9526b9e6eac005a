/-
  WALKS over unicode/utf8.FullRune: what it says of the bytes of a slice, told by their place; nothing old in memory turns.
-/
import Derived.Test.YtoccedbnnafjcaaDoorRnPlain
import Derived.Test.YtoccedbnnafjcaaDoorRows
import Derived.WalkKit
import Derived.WalkSpells
import Derived.WalkLawsBesides
import Derived.Deep.QuietTactic
import Derived.BigQuiet
import Derived.Shelf.Unicode.DecodeSlow
namespace Go.Proofs.YtoccedbnnafjcaaDoor
open Go.RowKit Go.Lib

set_option maxHeartbeats 400000 in
theorem isWrong_any (r n : Int) (w : World) :
    Calls Tryd.prog 62 #[.int .i32 r, .int .i64 n] w fun e w' => e = .returned (.bool ((r == 65533) && (n == 1))) ∧ w' = w := by
  by_cases h : r = 65533
  · subst h
    go_enter Tryd.func62, Tryd.ntmps62
    go_wp2
    go_ret
    exact ⟨by simp, rfl⟩
  · have h' : (r == 65533) = false := by simp [h]
    go_enter Tryd.func62, Tryd.ntmps62
    go_wp2
    go_ret
    exact ⟨by rw [h']; rfl, rfl⟩

/-- no bytes: not full -/
theorem full_none (b : Option Addr) (cap : Nat) (w : World) :
    Calls Tryd.prog 60 #[.slice b 0 cap] w fun e w' => e = .returned (.bool false) ∧ Below w.heap.size w w' := by
  go_enter Tryd.func60, Tryd.ntmps60
  go_wp2
  go_ret
  exact ⟨rfl, Below.refl _ _⟩

theorem full_240 (n b0 b off cap : Nat) (w : World) (hn : 0 < n) (hb : b0 < 256)
    (c0 : w.cell? ⟨b, off, none⟩ = some (.int .u8 b0)) (hc : w.cell? ⟨1, b0, none⟩ = some (.int .u8 240)) :
    Calls Tryd.prog 60 #[.slice (some ⟨b, off, none⟩) n cap] w fun e w' => e = .returned (.bool true) ∧ Below w.heap.size w w' := by
  have h0 : ((n : Int) == 0) = false := by simp; omega
  have hz : (0 : Int) < n := by omega
  have h1 : (0 : Int) ≤ n := by omega
  go_enter Tryd.func60, Tryd.ntmps60
  go_wp2
  go_ret
  exact ⟨rfl, Below.refl _ _⟩

theorem full_241 (n b0 b off cap : Nat) (w : World) (hn : 0 < n) (hb : b0 < 256)
    (c0 : w.cell? ⟨b, off, none⟩ = some (.int .u8 b0)) (hc : w.cell? ⟨1, b0, none⟩ = some (.int .u8 241)) :
    Calls Tryd.prog 60 #[.slice (some ⟨b, off, none⟩) n cap] w fun e w' => e = .returned (.bool true) ∧ Below w.heap.size w w' := by
  have h0 : ((n : Int) == 0) = false := by simp; omega
  have hz : (0 : Int) < n := by omega
  have h1 : (1 : Int) ≤ n := by omega
  go_enter Tryd.func60, Tryd.ntmps60
  go_wp2
  go_ret
  exact ⟨rfl, Below.refl _ _⟩

set_option maxHeartbeats 1000000 in
/-- a first byte whose row in utf8.first is 2 -/
theorem full_2 (n b0 b1 b2 b off cap : Nat) (w : World) (hn : 0 < n) (hb : b0 < 256)
    (c0 : w.cell? ⟨b, off, none⟩ = some (.int .u8 b0)) (c1 : 1 < n → w.cell? ⟨b, off + 1, none⟩ = some (.int .u8 b1)) (c2 : 2 < n → w.cell? ⟨b, off + 2, none⟩ = some (.int .u8 b2))
    (hc : w.cell? ⟨1, b0, none⟩ = some (.int .u8 2)) (ha : w.cell? ⟨2, 0, none⟩ = some (.int .u8 128)) (ha' : w.cell? ⟨2, 1, none⟩ = some (.int .u8 191)) :
    Calls Tryd.prog 60 #[.slice (some ⟨b, off, none⟩) n cap] w fun e w' => e = .returned (.bool (decide (2 ≤ n ∨ (1 < n ∧ (b1 < 128 ∨ 191 < b1)) ∨ (2 < n ∧ (b2 < 128 ∨ 191 < b2))))) ∧ Below w.heap.size w w' := by
  have h0 : ((n : Int) == 0) = false := by simp; omega
  have hz : (0 : Int) < n := by omega
  have hbk : b < w.heap.size := block_lt_of_cell c0
  by_cases hs : 2 ≤ n
  · rw [decide_eq_true (Or.inl hs)]
    have h1 : (2 : Int) ≤ n := by omega
    clear c1 c2 ha ha'
    go_enter Tryd.func60, Tryd.ntmps60
    go_wp2
    go_ret
    exact ⟨rfl, Below.refl _ _⟩
  have h1 : ¬ ((2 : Int) ≤ n) := by omega
  by_cases hn1 : n = 1
  · subst hn1
    rw [decide_eq_false (by omega)]
    clear c1 c2
    go_enter Tryd.func60, Tryd.ntmps60
    go_wp2
    go_quiet (fail)
    go_wp2
    go_ret
    exact ⟨rfl, by repeat (first | exact Below.refl _ _ | apply below_drewN | apply Below.drew | exact (Below.refl _ _).alloc (Nat.le_refl _) _)⟩
  exfalso; omega

set_option maxHeartbeats 1000000 in
/-- a first byte whose row in utf8.first is 19 -/
theorem full_19 (n b0 b1 b2 b off cap : Nat) (w : World) (hn : 0 < n) (hb : b0 < 256)
    (c0 : w.cell? ⟨b, off, none⟩ = some (.int .u8 b0)) (c1 : 1 < n → w.cell? ⟨b, off + 1, none⟩ = some (.int .u8 b1)) (c2 : 2 < n → w.cell? ⟨b, off + 2, none⟩ = some (.int .u8 b2))
    (hc : w.cell? ⟨1, b0, none⟩ = some (.int .u8 19)) (ha : w.cell? ⟨2, 2, none⟩ = some (.int .u8 160)) (ha' : w.cell? ⟨2, 3, none⟩ = some (.int .u8 191)) :
    Calls Tryd.prog 60 #[.slice (some ⟨b, off, none⟩) n cap] w fun e w' => e = .returned (.bool (decide (3 ≤ n ∨ (1 < n ∧ (b1 < 160 ∨ 191 < b1)) ∨ (2 < n ∧ (b2 < 128 ∨ 191 < b2))))) ∧ Below w.heap.size w w' := by
  have h0 : ((n : Int) == 0) = false := by simp; omega
  have hz : (0 : Int) < n := by omega
  have hbk : b < w.heap.size := block_lt_of_cell c0
  by_cases hs : 3 ≤ n
  · rw [decide_eq_true (Or.inl hs)]
    have h1 : (3 : Int) ≤ n := by omega
    clear c1 c2 ha ha'
    go_enter Tryd.func60, Tryd.ntmps60
    go_wp2
    go_ret
    exact ⟨rfl, Below.refl _ _⟩
  have h1 : ¬ ((3 : Int) ≤ n) := by omega
  by_cases hn1 : n = 1
  · subst hn1
    rw [decide_eq_false (by omega)]
    clear c1 c2
    go_enter Tryd.func60, Tryd.ntmps60
    go_wp2
    go_quiet (fail)
    go_wp2
    go_ret
    exact ⟨rfl, by repeat (first | exact Below.refl _ _ | apply below_drewN | apply Below.drew | exact (Below.refl _ _).alloc (Nat.le_refl _) _)⟩
  have d1 := c1 (by omega)
  have g1 : (1 : Int) < n := by omega
  by_cases q1 : b1 < 160
  · rw [decide_eq_true (by omega)]
    have e1 : decide ((b1 : Int) < 160) = true := by simp; omega
    clear c1 c2
    go_enter Tryd.func60, Tryd.ntmps60
    go_wp2
    go_quiet (fail)
    go_wp2
    go_ret
    exact ⟨rfl, by repeat (first | exact Below.refl _ _ | apply below_drewN | apply Below.drew | exact (Below.refl _ _).alloc (Nat.le_refl _) _)⟩
  have e1 : decide ((b1 : Int) < 160) = false := by simp; omega
  by_cases q2 : 191 < b1
  · rw [decide_eq_true (by omega)]
    have e2 : decide (191 < (b1 : Int)) = true := by simp; omega
    clear c1 c2
    go_enter Tryd.func60, Tryd.ntmps60
    go_wp2
    go_quiet (fail)
    go_wp2
    go_ret
    exact ⟨rfl, by repeat (first | exact Below.refl _ _ | apply below_drewN | apply Below.drew | exact (Below.refl _ _).alloc (Nat.le_refl _) _)⟩
  have e2 : decide (191 < (b1 : Int)) = false := by simp; omega
  by_cases hn2 : n = 2
  · subst hn2
    rw [decide_eq_false (by omega)]
    clear c1 c2
    go_enter Tryd.func60, Tryd.ntmps60
    go_wp2
    go_quiet (fail)
    go_wp2
    go_ret
    exact ⟨rfl, by repeat (first | exact Below.refl _ _ | apply below_drewN | apply Below.drew | exact (Below.refl _ _).alloc (Nat.le_refl _) _)⟩
  exfalso; omega

set_option maxHeartbeats 1000000 in
/-- a first byte whose row in utf8.first is 3 -/
theorem full_3 (n b0 b1 b2 b off cap : Nat) (w : World) (hn : 0 < n) (hb : b0 < 256)
    (c0 : w.cell? ⟨b, off, none⟩ = some (.int .u8 b0)) (c1 : 1 < n → w.cell? ⟨b, off + 1, none⟩ = some (.int .u8 b1)) (c2 : 2 < n → w.cell? ⟨b, off + 2, none⟩ = some (.int .u8 b2))
    (hc : w.cell? ⟨1, b0, none⟩ = some (.int .u8 3)) (ha : w.cell? ⟨2, 0, none⟩ = some (.int .u8 128)) (ha' : w.cell? ⟨2, 1, none⟩ = some (.int .u8 191)) :
    Calls Tryd.prog 60 #[.slice (some ⟨b, off, none⟩) n cap] w fun e w' => e = .returned (.bool (decide (3 ≤ n ∨ (1 < n ∧ (b1 < 128 ∨ 191 < b1)) ∨ (2 < n ∧ (b2 < 128 ∨ 191 < b2))))) ∧ Below w.heap.size w w' := by
  have h0 : ((n : Int) == 0) = false := by simp; omega
  have hz : (0 : Int) < n := by omega
  have hbk : b < w.heap.size := block_lt_of_cell c0
  by_cases hs : 3 ≤ n
  · rw [decide_eq_true (Or.inl hs)]
    have h1 : (3 : Int) ≤ n := by omega
    clear c1 c2 ha ha'
    go_enter Tryd.func60, Tryd.ntmps60
    go_wp2
    go_ret
    exact ⟨rfl, Below.refl _ _⟩
  have h1 : ¬ ((3 : Int) ≤ n) := by omega
  by_cases hn1 : n = 1
  · subst hn1
    rw [decide_eq_false (by omega)]
    clear c1 c2
    go_enter Tryd.func60, Tryd.ntmps60
    go_wp2
    go_quiet (fail)
    go_wp2
    go_ret
    exact ⟨rfl, by repeat (first | exact Below.refl _ _ | apply below_drewN | apply Below.drew | exact (Below.refl _ _).alloc (Nat.le_refl _) _)⟩
  have d1 := c1 (by omega)
  have g1 : (1 : Int) < n := by omega
  by_cases q1 : b1 < 128
  · rw [decide_eq_true (by omega)]
    have e1 : decide ((b1 : Int) < 128) = true := by simp; omega
    clear c1 c2
    go_enter Tryd.func60, Tryd.ntmps60
    go_wp2
    go_quiet (fail)
    go_wp2
    go_ret
    exact ⟨rfl, by repeat (first | exact Below.refl _ _ | apply below_drewN | apply Below.drew | exact (Below.refl _ _).alloc (Nat.le_refl _) _)⟩
  have e1 : decide ((b1 : Int) < 128) = false := by simp; omega
  by_cases q2 : 191 < b1
  · rw [decide_eq_true (by omega)]
    have e2 : decide (191 < (b1 : Int)) = true := by simp; omega
    clear c1 c2
    go_enter Tryd.func60, Tryd.ntmps60
    go_wp2
    go_quiet (fail)
    go_wp2
    go_ret
    exact ⟨rfl, by repeat (first | exact Below.refl _ _ | apply below_drewN | apply Below.drew | exact (Below.refl _ _).alloc (Nat.le_refl _) _)⟩
  have e2 : decide (191 < (b1 : Int)) = false := by simp; omega
  by_cases hn2 : n = 2
  · subst hn2
    rw [decide_eq_false (by omega)]
    clear c1 c2
    go_enter Tryd.func60, Tryd.ntmps60
    go_wp2
    go_quiet (fail)
    go_wp2
    go_ret
    exact ⟨rfl, by repeat (first | exact Below.refl _ _ | apply below_drewN | apply Below.drew | exact (Below.refl _ _).alloc (Nat.le_refl _) _)⟩
  exfalso; omega

set_option maxHeartbeats 1000000 in
/-- a first byte whose row in utf8.first is 35 -/
theorem full_35 (n b0 b1 b2 b off cap : Nat) (w : World) (hn : 0 < n) (hb : b0 < 256)
    (c0 : w.cell? ⟨b, off, none⟩ = some (.int .u8 b0)) (c1 : 1 < n → w.cell? ⟨b, off + 1, none⟩ = some (.int .u8 b1)) (c2 : 2 < n → w.cell? ⟨b, off + 2, none⟩ = some (.int .u8 b2))
    (hc : w.cell? ⟨1, b0, none⟩ = some (.int .u8 35)) (ha : w.cell? ⟨2, 4, none⟩ = some (.int .u8 128)) (ha' : w.cell? ⟨2, 5, none⟩ = some (.int .u8 159)) :
    Calls Tryd.prog 60 #[.slice (some ⟨b, off, none⟩) n cap] w fun e w' => e = .returned (.bool (decide (3 ≤ n ∨ (1 < n ∧ (b1 < 128 ∨ 159 < b1)) ∨ (2 < n ∧ (b2 < 128 ∨ 191 < b2))))) ∧ Below w.heap.size w w' := by
  have h0 : ((n : Int) == 0) = false := by simp; omega
  have hz : (0 : Int) < n := by omega
  have hbk : b < w.heap.size := block_lt_of_cell c0
  by_cases hs : 3 ≤ n
  · rw [decide_eq_true (Or.inl hs)]
    have h1 : (3 : Int) ≤ n := by omega
    clear c1 c2 ha ha'
    go_enter Tryd.func60, Tryd.ntmps60
    go_wp2
    go_ret
    exact ⟨rfl, Below.refl _ _⟩
  have h1 : ¬ ((3 : Int) ≤ n) := by omega
  by_cases hn1 : n = 1
  · subst hn1
    rw [decide_eq_false (by omega)]
    clear c1 c2
    go_enter Tryd.func60, Tryd.ntmps60
    go_wp2
    go_quiet (fail)
    go_wp2
    go_ret
    exact ⟨rfl, by repeat (first | exact Below.refl _ _ | apply below_drewN | apply Below.drew | exact (Below.refl _ _).alloc (Nat.le_refl _) _)⟩
  have d1 := c1 (by omega)
  have g1 : (1 : Int) < n := by omega
  by_cases q1 : b1 < 128
  · rw [decide_eq_true (by omega)]
    have e1 : decide ((b1 : Int) < 128) = true := by simp; omega
    clear c1 c2
    go_enter Tryd.func60, Tryd.ntmps60
    go_wp2
    go_quiet (fail)
    go_wp2
    go_ret
    exact ⟨rfl, by repeat (first | exact Below.refl _ _ | apply below_drewN | apply Below.drew | exact (Below.refl _ _).alloc (Nat.le_refl _) _)⟩
  have e1 : decide ((b1 : Int) < 128) = false := by simp; omega
  by_cases q2 : 159 < b1
  · rw [decide_eq_true (by omega)]
    have e2 : decide (159 < (b1 : Int)) = true := by simp; omega
    clear c1 c2
    go_enter Tryd.func60, Tryd.ntmps60
    go_wp2
    go_quiet (fail)
    go_wp2
    go_ret
    exact ⟨rfl, by repeat (first | exact Below.refl _ _ | apply below_drewN | apply Below.drew | exact (Below.refl _ _).alloc (Nat.le_refl _) _)⟩
  have e2 : decide (159 < (b1 : Int)) = false := by simp; omega
  by_cases hn2 : n = 2
  · subst hn2
    rw [decide_eq_false (by omega)]
    clear c1 c2
    go_enter Tryd.func60, Tryd.ntmps60
    go_wp2
    go_quiet (fail)
    go_wp2
    go_ret
    exact ⟨rfl, by repeat (first | exact Below.refl _ _ | apply below_drewN | apply Below.drew | exact (Below.refl _ _).alloc (Nat.le_refl _) _)⟩
  exfalso; omega

set_option maxHeartbeats 1000000 in
/-- a first byte whose row in utf8.first is 52 -/
theorem full_52 (n b0 b1 b2 b off cap : Nat) (w : World) (hn : 0 < n) (hb : b0 < 256)
    (c0 : w.cell? ⟨b, off, none⟩ = some (.int .u8 b0)) (c1 : 1 < n → w.cell? ⟨b, off + 1, none⟩ = some (.int .u8 b1)) (c2 : 2 < n → w.cell? ⟨b, off + 2, none⟩ = some (.int .u8 b2))
    (hc : w.cell? ⟨1, b0, none⟩ = some (.int .u8 52)) (ha : w.cell? ⟨2, 6, none⟩ = some (.int .u8 144)) (ha' : w.cell? ⟨2, 7, none⟩ = some (.int .u8 191)) :
    Calls Tryd.prog 60 #[.slice (some ⟨b, off, none⟩) n cap] w fun e w' => e = .returned (.bool (decide (4 ≤ n ∨ (1 < n ∧ (b1 < 144 ∨ 191 < b1)) ∨ (2 < n ∧ (b2 < 128 ∨ 191 < b2))))) ∧ Below w.heap.size w w' := by
  have h0 : ((n : Int) == 0) = false := by simp; omega
  have hz : (0 : Int) < n := by omega
  have hbk : b < w.heap.size := block_lt_of_cell c0
  by_cases hs : 4 ≤ n
  · rw [decide_eq_true (Or.inl hs)]
    have h1 : (4 : Int) ≤ n := by omega
    clear c1 c2 ha ha'
    go_enter Tryd.func60, Tryd.ntmps60
    go_wp2
    go_ret
    exact ⟨rfl, Below.refl _ _⟩
  have h1 : ¬ ((4 : Int) ≤ n) := by omega
  by_cases hn1 : n = 1
  · subst hn1
    rw [decide_eq_false (by omega)]
    clear c1 c2
    go_enter Tryd.func60, Tryd.ntmps60
    go_wp2
    go_quiet (fail)
    go_wp2
    go_ret
    exact ⟨rfl, by repeat (first | exact Below.refl _ _ | apply below_drewN | apply Below.drew | exact (Below.refl _ _).alloc (Nat.le_refl _) _)⟩
  have d1 := c1 (by omega)
  have g1 : (1 : Int) < n := by omega
  by_cases q1 : b1 < 144
  · rw [decide_eq_true (by omega)]
    have e1 : decide ((b1 : Int) < 144) = true := by simp; omega
    clear c1 c2
    go_enter Tryd.func60, Tryd.ntmps60
    go_wp2
    go_quiet (fail)
    go_wp2
    go_ret
    exact ⟨rfl, by repeat (first | exact Below.refl _ _ | apply below_drewN | apply Below.drew | exact (Below.refl _ _).alloc (Nat.le_refl _) _)⟩
  have e1 : decide ((b1 : Int) < 144) = false := by simp; omega
  by_cases q2 : 191 < b1
  · rw [decide_eq_true (by omega)]
    have e2 : decide (191 < (b1 : Int)) = true := by simp; omega
    clear c1 c2
    go_enter Tryd.func60, Tryd.ntmps60
    go_wp2
    go_quiet (fail)
    go_wp2
    go_ret
    exact ⟨rfl, by repeat (first | exact Below.refl _ _ | apply below_drewN | apply Below.drew | exact (Below.refl _ _).alloc (Nat.le_refl _) _)⟩
  have e2 : decide (191 < (b1 : Int)) = false := by simp; omega
  by_cases hn2 : n = 2
  · subst hn2
    rw [decide_eq_false (by omega)]
    clear c1 c2
    go_enter Tryd.func60, Tryd.ntmps60
    go_wp2
    go_quiet (fail)
    go_wp2
    go_ret
    exact ⟨rfl, by repeat (first | exact Below.refl _ _ | apply below_drewN | apply Below.drew | exact (Below.refl _ _).alloc (Nat.le_refl _) _)⟩
  have d2 := c2 (by omega)
  have g2 : (2 : Int) < n := by omega
  by_cases q3 : b2 < 128
  · rw [decide_eq_true (by omega)]
    have e3 : decide ((b2 : Int) < 128) = true := by simp; omega
    clear c1 c2
    go_enter Tryd.func60, Tryd.ntmps60
    go_wp2
    go_quiet (fail)
    go_wp2
    go_ret
    exact ⟨rfl, by repeat (first | exact Below.refl _ _ | apply below_drewN | apply Below.drew | exact (Below.refl _ _).alloc (Nat.le_refl _) _)⟩
  have e3 : decide ((b2 : Int) < 128) = false := by simp; omega
  by_cases q4 : 191 < b2
  · rw [decide_eq_true (by omega)]
    have e4 : decide (191 < (b2 : Int)) = true := by simp; omega
    clear c1 c2
    go_enter Tryd.func60, Tryd.ntmps60
    go_wp2
    go_quiet (fail)
    go_wp2
    go_ret
    exact ⟨rfl, by repeat (first | exact Below.refl _ _ | apply below_drewN | apply Below.drew | exact (Below.refl _ _).alloc (Nat.le_refl _) _)⟩
  have e4 : decide (191 < (b2 : Int)) = false := by simp; omega
  rw [decide_eq_false (by omega)]
  clear c1 c2
  go_enter Tryd.func60, Tryd.ntmps60
  go_wp2
  go_quiet (fail)
  go_wp2
  go_ret
  exact ⟨rfl, by repeat (first | exact Below.refl _ _ | apply below_drewN | apply Below.drew | exact (Below.refl _ _).alloc (Nat.le_refl _) _)⟩

set_option maxHeartbeats 1000000 in
/-- a first byte whose row in utf8.first is 4 -/
theorem full_4 (n b0 b1 b2 b off cap : Nat) (w : World) (hn : 0 < n) (hb : b0 < 256)
    (c0 : w.cell? ⟨b, off, none⟩ = some (.int .u8 b0)) (c1 : 1 < n → w.cell? ⟨b, off + 1, none⟩ = some (.int .u8 b1)) (c2 : 2 < n → w.cell? ⟨b, off + 2, none⟩ = some (.int .u8 b2))
    (hc : w.cell? ⟨1, b0, none⟩ = some (.int .u8 4)) (ha : w.cell? ⟨2, 0, none⟩ = some (.int .u8 128)) (ha' : w.cell? ⟨2, 1, none⟩ = some (.int .u8 191)) :
    Calls Tryd.prog 60 #[.slice (some ⟨b, off, none⟩) n cap] w fun e w' => e = .returned (.bool (decide (4 ≤ n ∨ (1 < n ∧ (b1 < 128 ∨ 191 < b1)) ∨ (2 < n ∧ (b2 < 128 ∨ 191 < b2))))) ∧ Below w.heap.size w w' := by
  have h0 : ((n : Int) == 0) = false := by simp; omega
  have hz : (0 : Int) < n := by omega
  have hbk : b < w.heap.size := block_lt_of_cell c0
  by_cases hs : 4 ≤ n
  · rw [decide_eq_true (Or.inl hs)]
    have h1 : (4 : Int) ≤ n := by omega
    clear c1 c2 ha ha'
    go_enter Tryd.func60, Tryd.ntmps60
    go_wp2
    go_ret
    exact ⟨rfl, Below.refl _ _⟩
  have h1 : ¬ ((4 : Int) ≤ n) := by omega
  by_cases hn1 : n = 1
  · subst hn1
    rw [decide_eq_false (by omega)]
    clear c1 c2
    go_enter Tryd.func60, Tryd.ntmps60
    go_wp2
    go_quiet (fail)
    go_wp2
    go_ret
    exact ⟨rfl, by repeat (first | exact Below.refl _ _ | apply below_drewN | apply Below.drew | exact (Below.refl _ _).alloc (Nat.le_refl _) _)⟩
  have d1 := c1 (by omega)
  have g1 : (1 : Int) < n := by omega
  by_cases q1 : b1 < 128
  · rw [decide_eq_true (by omega)]
    have e1 : decide ((b1 : Int) < 128) = true := by simp; omega
    clear c1 c2
    go_enter Tryd.func60, Tryd.ntmps60
    go_wp2
    go_quiet (fail)
    go_wp2
    go_ret
    exact ⟨rfl, by repeat (first | exact Below.refl _ _ | apply below_drewN | apply Below.drew | exact (Below.refl _ _).alloc (Nat.le_refl _) _)⟩
  have e1 : decide ((b1 : Int) < 128) = false := by simp; omega
  by_cases q2 : 191 < b1
  · rw [decide_eq_true (by omega)]
    have e2 : decide (191 < (b1 : Int)) = true := by simp; omega
    clear c1 c2
    go_enter Tryd.func60, Tryd.ntmps60
    go_wp2
    go_quiet (fail)
    go_wp2
    go_ret
    exact ⟨rfl, by repeat (first | exact Below.refl _ _ | apply below_drewN | apply Below.drew | exact (Below.refl _ _).alloc (Nat.le_refl _) _)⟩
  have e2 : decide (191 < (b1 : Int)) = false := by simp; omega
  by_cases hn2 : n = 2
  · subst hn2
    rw [decide_eq_false (by omega)]
    clear c1 c2
    go_enter Tryd.func60, Tryd.ntmps60
    go_wp2
    go_quiet (fail)
    go_wp2
    go_ret
    exact ⟨rfl, by repeat (first | exact Below.refl _ _ | apply below_drewN | apply Below.drew | exact (Below.refl _ _).alloc (Nat.le_refl _) _)⟩
  have d2 := c2 (by omega)
  have g2 : (2 : Int) < n := by omega
  by_cases q3 : b2 < 128
  · rw [decide_eq_true (by omega)]
    have e3 : decide ((b2 : Int) < 128) = true := by simp; omega
    clear c1 c2
    go_enter Tryd.func60, Tryd.ntmps60
    go_wp2
    go_quiet (fail)
    go_wp2
    go_ret
    exact ⟨rfl, by repeat (first | exact Below.refl _ _ | apply below_drewN | apply Below.drew | exact (Below.refl _ _).alloc (Nat.le_refl _) _)⟩
  have e3 : decide ((b2 : Int) < 128) = false := by simp; omega
  by_cases q4 : 191 < b2
  · rw [decide_eq_true (by omega)]
    have e4 : decide (191 < (b2 : Int)) = true := by simp; omega
    clear c1 c2
    go_enter Tryd.func60, Tryd.ntmps60
    go_wp2
    go_quiet (fail)
    go_wp2
    go_ret
    exact ⟨rfl, by repeat (first | exact Below.refl _ _ | apply below_drewN | apply Below.drew | exact (Below.refl _ _).alloc (Nat.le_refl _) _)⟩
  have e4 : decide (191 < (b2 : Int)) = false := by simp; omega
  rw [decide_eq_false (by omega)]
  clear c1 c2
  go_enter Tryd.func60, Tryd.ntmps60
  go_wp2
  go_quiet (fail)
  go_wp2
  go_ret
  exact ⟨rfl, by repeat (first | exact Below.refl _ _ | apply below_drewN | apply Below.drew | exact (Below.refl _ _).alloc (Nat.le_refl _) _)⟩

set_option maxHeartbeats 1000000 in
/-- a first byte whose row in utf8.first is 68 -/
theorem full_68 (n b0 b1 b2 b off cap : Nat) (w : World) (hn : 0 < n) (hb : b0 < 256)
    (c0 : w.cell? ⟨b, off, none⟩ = some (.int .u8 b0)) (c1 : 1 < n → w.cell? ⟨b, off + 1, none⟩ = some (.int .u8 b1)) (c2 : 2 < n → w.cell? ⟨b, off + 2, none⟩ = some (.int .u8 b2))
    (hc : w.cell? ⟨1, b0, none⟩ = some (.int .u8 68)) (ha : w.cell? ⟨2, 8, none⟩ = some (.int .u8 128)) (ha' : w.cell? ⟨2, 9, none⟩ = some (.int .u8 143)) :
    Calls Tryd.prog 60 #[.slice (some ⟨b, off, none⟩) n cap] w fun e w' => e = .returned (.bool (decide (4 ≤ n ∨ (1 < n ∧ (b1 < 128 ∨ 143 < b1)) ∨ (2 < n ∧ (b2 < 128 ∨ 191 < b2))))) ∧ Below w.heap.size w w' := by
  have h0 : ((n : Int) == 0) = false := by simp; omega
  have hz : (0 : Int) < n := by omega
  have hbk : b < w.heap.size := block_lt_of_cell c0
  by_cases hs : 4 ≤ n
  · rw [decide_eq_true (Or.inl hs)]
    have h1 : (4 : Int) ≤ n := by omega
    clear c1 c2 ha ha'
    go_enter Tryd.func60, Tryd.ntmps60
    go_wp2
    go_ret
    exact ⟨rfl, Below.refl _ _⟩
  have h1 : ¬ ((4 : Int) ≤ n) := by omega
  by_cases hn1 : n = 1
  · subst hn1
    rw [decide_eq_false (by omega)]
    clear c1 c2
    go_enter Tryd.func60, Tryd.ntmps60
    go_wp2
    go_quiet (fail)
    go_wp2
    go_ret
    exact ⟨rfl, by repeat (first | exact Below.refl _ _ | apply below_drewN | apply Below.drew | exact (Below.refl _ _).alloc (Nat.le_refl _) _)⟩
  have d1 := c1 (by omega)
  have g1 : (1 : Int) < n := by omega
  by_cases q1 : b1 < 128
  · rw [decide_eq_true (by omega)]
    have e1 : decide ((b1 : Int) < 128) = true := by simp; omega
    clear c1 c2
    go_enter Tryd.func60, Tryd.ntmps60
    go_wp2
    go_quiet (fail)
    go_wp2
    go_ret
    exact ⟨rfl, by repeat (first | exact Below.refl _ _ | apply below_drewN | apply Below.drew | exact (Below.refl _ _).alloc (Nat.le_refl _) _)⟩
  have e1 : decide ((b1 : Int) < 128) = false := by simp; omega
  by_cases q2 : 143 < b1
  · rw [decide_eq_true (by omega)]
    have e2 : decide (143 < (b1 : Int)) = true := by simp; omega
    clear c1 c2
    go_enter Tryd.func60, Tryd.ntmps60
    go_wp2
    go_quiet (fail)
    go_wp2
    go_ret
    exact ⟨rfl, by repeat (first | exact Below.refl _ _ | apply below_drewN | apply Below.drew | exact (Below.refl _ _).alloc (Nat.le_refl _) _)⟩
  have e2 : decide (143 < (b1 : Int)) = false := by simp; omega
  by_cases hn2 : n = 2
  · subst hn2
    rw [decide_eq_false (by omega)]
    clear c1 c2
    go_enter Tryd.func60, Tryd.ntmps60
    go_wp2
    go_quiet (fail)
    go_wp2
    go_ret
    exact ⟨rfl, by repeat (first | exact Below.refl _ _ | apply below_drewN | apply Below.drew | exact (Below.refl _ _).alloc (Nat.le_refl _) _)⟩
  have d2 := c2 (by omega)
  have g2 : (2 : Int) < n := by omega
  by_cases q3 : b2 < 128
  · rw [decide_eq_true (by omega)]
    have e3 : decide ((b2 : Int) < 128) = true := by simp; omega
    clear c1 c2
    go_enter Tryd.func60, Tryd.ntmps60
    go_wp2
    go_quiet (fail)
    go_wp2
    go_ret
    exact ⟨rfl, by repeat (first | exact Below.refl _ _ | apply below_drewN | apply Below.drew | exact (Below.refl _ _).alloc (Nat.le_refl _) _)⟩
  have e3 : decide ((b2 : Int) < 128) = false := by simp; omega
  by_cases q4 : 191 < b2
  · rw [decide_eq_true (by omega)]
    have e4 : decide (191 < (b2 : Int)) = true := by simp; omega
    clear c1 c2
    go_enter Tryd.func60, Tryd.ntmps60
    go_wp2
    go_quiet (fail)
    go_wp2
    go_ret
    exact ⟨rfl, by repeat (first | exact Below.refl _ _ | apply below_drewN | apply Below.drew | exact (Below.refl _ _).alloc (Nat.le_refl _) _)⟩
  have e4 : decide (191 < (b2 : Int)) = false := by simp; omega
  rw [decide_eq_false (by omega)]
  clear c1 c2
  go_enter Tryd.func60, Tryd.ntmps60
  go_wp2
  go_quiet (fail)
  go_wp2
  go_ret
  exact ⟨rfl, by repeat (first | exact Below.refl _ _ | apply below_drewN | apply Below.drew | exact (Below.refl _ _).alloc (Nat.le_refl _) _)⟩

/-- FullRune AT EVERY SLICE OF BYTES THAT IS NOT nil -/
theorem full_any (f : Nat → Nat) (n b off cap : Nat) (w : World) (hT : Lib.Utf8Tabs 1 2 w) (hf : ∀ j, f j < 256)
    (hp : ∀ j, j < n → w.cell? ⟨b, off + j, none⟩ = some (.int .u8 (f j))) :
    Calls Tryd.prog 60 #[.slice (some ⟨b, off, none⟩) n cap] w fun e w' => e = .returned (.bool (Rn.fullN n (f 0) (f 1) (f 2))) ∧ Below w.heap.size w w' := by
  by_cases h0 : n = 0
  · subst h0
    exact full_none _ _ _
  have e : Rn.fullN n (f 0) (f 1) (f 2) = decide (firstT (f 0) % 8 ≤ n ∨ (1 < n ∧ (f 1 < accLo (firstT (f 0) / 16) ∨ accHi (firstT (f 0) / 16) < f 1)) ∨ (2 < n ∧ (f 2 < 128 ∨ 191 < f 2))) := by
    simp [Rn.fullN, h0]
  rw [e]
  have c0 : w.cell? ⟨b, off, none⟩ = some (.int .u8 (f 0)) := hp 0 (by omega)
  have hc := hT.1 (f 0) (hf 0)
  rcases Lib.firstT_cases (f 0) with hX | hX | hX | hX | hX | hX | hX | hX | hX
  · rw [hX] at hc ⊢
    rw [decide_eq_true (Or.inl (by omega))]
    exact full_240 n (f 0) b off cap w (by omega) (hf 0) c0 hc
  · rw [hX] at hc ⊢
    rw [decide_eq_true (Or.inl (by omega))]
    exact full_241 n (f 0) b off cap w (by omega) (hf 0) c0 hc
  · rw [hX] at hc ⊢
    have ha := (hT.2 0 (by omega)).1
    have ha' := (hT.2 0 (by omega)).2
    exact full_2 n (f 0) (f 1) (f 2) b off cap w (by omega) (hf 0) c0 (hp 1) (hp 2) hc ha ha'
  · rw [hX] at hc ⊢
    have ha := (hT.2 1 (by omega)).1
    have ha' := (hT.2 1 (by omega)).2
    exact full_19 n (f 0) (f 1) (f 2) b off cap w (by omega) (hf 0) c0 (hp 1) (hp 2) hc ha ha'
  · rw [hX] at hc ⊢
    have ha := (hT.2 0 (by omega)).1
    have ha' := (hT.2 0 (by omega)).2
    exact full_3 n (f 0) (f 1) (f 2) b off cap w (by omega) (hf 0) c0 (hp 1) (hp 2) hc ha ha'
  · rw [hX] at hc ⊢
    have ha := (hT.2 2 (by omega)).1
    have ha' := (hT.2 2 (by omega)).2
    exact full_35 n (f 0) (f 1) (f 2) b off cap w (by omega) (hf 0) c0 (hp 1) (hp 2) hc ha ha'
  · rw [hX] at hc ⊢
    have ha := (hT.2 3 (by omega)).1
    have ha' := (hT.2 3 (by omega)).2
    exact full_52 n (f 0) (f 1) (f 2) b off cap w (by omega) (hf 0) c0 (hp 1) (hp 2) hc ha ha'
  · rw [hX] at hc ⊢
    have ha := (hT.2 0 (by omega)).1
    have ha' := (hT.2 0 (by omega)).2
    exact full_4 n (f 0) (f 1) (f 2) b off cap w (by omega) (hf 0) c0 (hp 1) (hp 2) hc ha ha'
  · rw [hX] at hc ⊢
    have ha := (hT.2 4 (by omega)).1
    have ha' := (hT.2 4 (by omega)).2
    exact full_68 n (f 0) (f 1) (f 2) b off cap w (by omega) (hf 0) c0 (hp 1) (hp 2) hc ha ha'
end Go.Proofs.YtoccedbnnafjcaaDoor
