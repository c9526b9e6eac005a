/-
  THE WALK over gimletlaw04.FeedPlays.
-/
import Derived.Test.YtbfabpjhdhhpfaaDoorFdOneK
import Derived.Test.YtbfabpjhdhhpfaaDoorFdNil
import Derived.Test.YtbfabpjhdhhpfaaDoorFdAwake
namespace Go.Proofs.YtbfabpjhdhhpfaaDoor
open Go.RowKit Go.Lib

/-- the document's Feed, made in place -/
theorem ref4_fresh (w : World) (B : Nat) (F : Nat → Nat) : Ref4 (w.alloc (.cells #[.slice none 0 0, .int .i64 0, .bool false] 29)) w.heap.size B (.slice none 0 0) F 0 0 false :=
  ⟨heap_top _ _ rfl, World.ownsRow_nil _ _ _ _⟩

set_option maxRecDepth 100000 in
set_option maxHeartbeats 2000000 in
theorem lawPlays_any (W : World) (pa : Option Addr) (n cap : Nat) (S : Nat → SOp) (hT : Lib.Utf8Tabs 0 1 W) (hc : n ≤ cap) (hn : n ≤ 1048576) (hS : SOps W pa n S) (hok : ∀ i, i < n → (S i).Ok W) (hlo : ∀ i, i < n → (S i).lo ≤ 1048576) :
    Calls Tryd.prog 3 #[.slice pa n cap] W fun e w' => e = .returned (.bool true) ∧ Below W.heap.size W w' := by
  have cA := feedAwake_any W hT
  have HS := hide' (And.intro hS (And.intro hok (And.intro hlo hT)))
  clear hS hok hlo hT
  go_enter Tryd.func3, Tryd.ntmps3
  go_wp2_with fail
  refine cA.mono ?_
  rintro e w1 ⟨rfl, hb1⟩
  have c1 := feedNew_abs w1 (fun _ => 0) W.heap.size
  clear cA
  go_wp2_with fail
  refine c1.mono ?_
  rintro e w2 ⟨rfl, hF1, hb2, hs2⟩
  have c2 := feedNew_abs w2 (fun _ => 0) W.heap.size
  clear c1
  go_wp2_with fail
  refine c2.mono ?_
  rintro e w3 ⟨rfl, hF2, hb3, hs3⟩
  clear c2
  have hs1 := hb1.size
  obtain ⟨D, hD⟩ : ∃ D, D = w1.heap.size := ⟨_, rfl⟩
  obtain ⟨D', hD'⟩ : ∃ D', D' = w2.heap.size := ⟨_, rfl⟩
  obtain ⟨M, hM⟩ : ∃ M, M = w3.heap.size := ⟨_, rfl⟩
  obtain ⟨w4, hw4⟩ : ∃ w4, w4 = (w3.alloc (.cells #[.slice none 0 0, .int .i64 0, .bool false] 29)).alloc (.cells #[.slice none 0 0, .int .i64 0, .bool false] 29) := ⟨_, rfl⟩
  have hbA : Below w3.heap.size w3 (w3.alloc (.cells #[.slice none 0 0, .int .i64 0, .bool false] 29)) := (Below.refl _ _).alloc (Nat.le_refl _) _
  have hbB : Below w3.heap.size w3 w4 := by rw [hw4]; exact hbA.alloc (by simp) _
  have hbC : Below (w3.heap.size + 1) (w3.alloc (.cells #[.slice none 0 0, .int .i64 0, .bool false] 29)) w4 := by rw [hw4]; exact (Below.refl _ _).alloc (by simp) _
  have hszA : (w3.alloc (.cells #[.slice none 0 0, .int .i64 0, .bool false] 29)).heap.size = w3.heap.size + 1 := by simp
  have hBl : Below W.heap.size W w4 := ((hb1.trans (hb2.mono hs1)).trans (hb3.mono (by omega))).trans (hbB.mono (by omega))
  have hTwo : Two W.heap.size D M D' (M + 1) 0 w4 := by
    refine ⟨.slice none 0 0, .slice none 0 0, fun _ => 0, 0, 0, false, .slice none 0 0, .slice none 0 0, fun _ => 0, 0, 0, false, ?_, ?_, by omega, by omega, ?_⟩
    · refine ⟨?_, ?_, fun _ => by show 0 < 256; omega, .refl _, fun _ _ => .inl rfl, by omega, by simp [Value.ownBlock], by simp [Value.ownBlock], by simp [Value.ownBlock], by omega⟩
      · rw [hD]
        exact ((hF1.below (hb3.mono (Nat.le_refl _))).below hbB)
      · have := (ref4_fresh w3 W.heap.size (fun _ => 0)).below (by rw [hszA]; exact hbC)
        rw [← hM] at this
        exact this
    · refine ⟨?_, ?_, fun _ => by show 0 < 256; omega, .refl _, fun _ _ => .inl rfl, by omega, by simp [Value.ownBlock], by simp [Value.ownBlock], by simp [Value.ownBlock], by omega⟩
      · rw [hD']
        exact hF2.below hbB
      · have := ref4_fresh (w3.alloc (.cells #[.slice none 0 0, .int .i64 0, .bool false] 29)) W.heap.size (fun _ => 0)
        rw [hszA, ← hM, ← hw4] at this
        exact this
    · rintro q (rfl | rfl | e | e) (h | h | h | h) <;> first | omega | (simp [Value.ownBlock] at e) | (simp [Value.ownBlock] at h)
  have hDX : W.heap.size ≤ D := by omega
  have hMX : W.heap.size ≤ M := by omega
  have hDX' : W.heap.size ≤ D' := by omega
  have HX := hide' (And.intro hBl hTwo)
  have HE := hide' (And.intro hDX (And.intro hMX hDX'))
  have HW4 := hide' hw4
  clear hb1 hF1 hb2 hs2 hF2 hb3 hs3 hs1 hbA hbB hbC hszA hBl hTwo hDX hMX hDX' hw4
  subst hD hD' hM
  go_wp2
  go_loopw [7] (fun i wr => ∃ a : Nat, i = .int .i64 a ∧ a ≤ n ∧ Below W.heap.size W wr ∧ Two W.heap.size w1.heap.size w3.heap.size w2.heap.size (w3.heap.size + 1) a wr) (fun i _ => n - (RowKit.intOf i).toNat)
  case atStart => exact ⟨0, rfl, Nat.zero_le _, by rw [← HW4.out]; exact HX.out.1, by rw [← HW4.out]; exact HX.out.2⟩
  case round =>
    obtain ⟨a, rfl, han, hbW, hTwo⟩ := hrel
    by_cases hlt : a < n
    · have g1 : (a : Int) < n := by omega
      obtain ⟨b, o, e, hbl, hcl⟩ := HS.out.1 (by omega)
      subst e
      obtain ⟨k0, k1, k2⟩ := hcl a hlt
      have hs := HS.out.2.1 a hlt
      have hlo := HS.out.2.2.1 a hlt
      clear hcl
      generalize S a = s at k0 k1 k2 hs hlo
      have r0 := (hbW.cell (p := ⟨b, o + a * 3, none⟩) hbl).trans k0
      have r1 := (hbW.cell (p := ⟨b, o + a * 3 + 1, none⟩) hbl).trans k1
      have r2 := (hbW.cell (p := ⟨b, o + a * 3 + 2, none⟩) hbl).trans k2
      have hbA : Below wr.heap.size wr (wr.alloc (.cells #[.int .i64 s.kind, .bool s.oth, .slice s.po s.lo s.co] 31)) := (Below.refl _ _).alloc (Nat.le_refl _) _
      have hbWA := hbW.trans (hbA.mono hbW.size)
      have H1 := hTwo.one hbA hbWA HE.out.1 HE.out.2.1 (by omega) HS.out.2.2.2 s hs hlo
      have H2 := hTwo.swap.one hbA hbWA HE.out.2.2 (by have := HE.out.2.1; omega) (by omega) HS.out.2.2.2 s hs hlo
      clear k0 k1 k2 hs hlo hTwo hbWA hbA hbW
      obtain ⟨kd, oth, po, lo, co, f⟩ := s
      cases oth
      · clear H2
        go_wp2_with fail
        refine H1.mono ?_
        rintro e w5 ⟨rfl, hT5, hb5, _⟩
        have HF := hide' (And.intro hb5 hT5)
        clear H1 r0 r1 r2 hT5 hb5
        go_wp2
        go_roundw
        case rel => exact ⟨a + 1, by go_num, by omega, HF.out.1, HF.out.2⟩
        case measure => simp [RowKit.intOf]; omega
      · clear H1
        go_wp2_with fail
        refine H2.mono ?_
        rintro e w5 ⟨rfl, hT5, hb5, hq5⟩
        have hbx : w5.heap[wr.heap.size]? = some (.cells #[.int .i64 kd, .bool true, .slice po lo co] 31 (0, 0)) := (hq5 wr.heap.size (Nat.le_refl _) (by simp)).trans (heap_top _ _ rfl)
        have hc5 : w5.cell? ⟨wr.heap.size, 1, none⟩ = some (.bool true) := by rw [Lib.cell_of_heap hbx]; rfl
        have HF := hide' (And.intro hb5 hT5.swap)
        clear H2 r0 r1 r2 hT5 hb5 hq5 hbx
        go_wp2
        go_roundw
        case rel => exact ⟨a + 1, by go_num, by omega, HF.out.1, HF.out.2⟩
        case measure => simp [RowKit.intOf]; omega
    · obtain rfl : a = n := by omega
      have g1 : ¬ (a : Int) < a := by omega
      have cN := nilNext wr
      have HB := hide' hbW
      clear hTwo hbW HS HX HE HW4
      go_wp2_with fail
      refine cN.mono ?_
      rintro e w5 ⟨rfl, hb5⟩
      have hB5 : Below W.heap.size W (w5.alloc (.cells #[.int .i32 0, .int .i64 0, .int .i64 0, .int .i64 0, .int .i64 0, .int .i64 0] 36)) := (HB.out.trans (hb5.mono HB.out.size)).alloc (Nat.le_trans HB.out.size hb5.size) _
      have HB5 := hide' hB5
      have cP := nilPeek (w5.alloc (.cells #[.int .i32 0, .int .i64 0, .int .i64 0, .int .i64 0, .int .i64 0, .int .i64 0] 36))
      clear cN HB hb5 hB5
      go_wp2_with fail
      refine cP.mono ?_
      rintro e w6 ⟨rfl, hb6⟩
      have hB6 := HB5.out.trans (hb6.mono HB5.out.size)
      have hs6 : (w5.alloc (.cells #[.int .i32 0, .int .i64 0, .int .i64 0, .int .i64 0, .int .i64 0, .int .i64 0] 36)).heap.size = w5.heap.size + 1 := by simp
      have hR : w6.heap[w5.heap.size]? = some (.cells #[.int .i32 0, .int .i64 0, .int .i64 0, .int .i64 0, .int .i64 0, .int .i64 0] 36 (0, 0)) := (hb6.block w5.heap.size (by omega)).trans (heap_top _ _ rfl)
      have hlt6 : w5.heap.size < w6.heap.size := by have := hb6.size; omega
      obtain ⟨z0, z1, z2, z3, z4, z5⟩ := keepC hR
      have HB6 := hide' (hB6.alloc hB6.size (.cells #[.int .i32 0, .int .i64 0, .int .i64 0, .int .i64 0, .int .i64 0, .int .i64 0] 36))
      have cU := nilPush (w6.alloc (.cells #[.int .i32 0, .int .i64 0, .int .i64 0, .int .i64 0, .int .i64 0, .int .i64 0] 36)) (.slice none 0 0)
      have cE := nilEnd (w6.alloc (.cells #[.int .i32 0, .int .i64 0, .int .i64 0, .int .i64 0, .int .i64 0, .int .i64 0] 36))
      have cR := nilRest (w6.alloc (.cells #[.int .i32 0, .int .i64 0, .int .i64 0, .int .i64 0, .int .i64 0, .int .i64 0] 36))
      have cL := nilPlace (w6.alloc (.cells #[.int .i32 0, .int .i64 0, .int .i64 0, .int .i64 0, .int .i64 0, .int .i64 0] 36))
      clear cP HB5 hb6 hB6 hs6 hR
      go_wp2_with fail
      refine cU.mono ?_
      rintro e w7 ⟨rfl, rfl⟩
      clear cU
      go_wp2_with fail
      refine cE.mono ?_
      rintro e w7 ⟨rfl, rfl⟩
      clear cE
      go_wp2_with fail
      refine cR.mono ?_
      rintro e w7 ⟨rfl, rfl⟩
      clear cR
      go_wp2_with fail
      refine cL.mono ?_
      rintro e w7 ⟨rfl, hb7⟩
      have hB7 := HB6.out.trans (hb7.mono HB6.out.size)
      clear cL hb7
      go_wp2
      go_ret
      exact ⟨rfl, hB7⟩
end Go.Proofs.YtbfabpjhdhhpfaaDoor
