/-
  THE WALK over gimletlaw05.RefsGoOn.
-/
import Derived.Test.YtbbbokkfhfmoeabDoorRfGoOn
import Derived.Lib.AppendStr
namespace Go.Proofs.YtbbbokkfhfmoeabDoor
open Go.RowKit Go.Lib

theorem byteCells_bs (r : List UInt8) : Lib.byteCells r = bs (Rf.lfn r) r.length := by
  apply List.ext_getElem?
  intro j
  by_cases h : j < r.length
  · simp [Lib.byteCells, bs, h, Rf.lfn]
  · simp [Lib.byteCells, bs, h]
theorem rests_len : ∀ r ∈ Rf.rests, r.length ≤ 5 := by decide

set_option maxRecDepth 100000 in
set_option maxHeartbeats 1000000 in
theorem lawGoOn_any (vb : Value) (f : Nat → Nat) (n : Nat) (w : World) (hS : Spans w) (hf : ∀ j, f j < 256) (hn : n ≤ 1048576) (hA : ArgS w f n vb) :
    Calls Tryd.prog 3 #[vb] w fun e w' => e = .returned (.bool true) ∧ Below w.heap.size w w' := by
  obtain ⟨i0, hi, hz0, hz1, hz2⟩ := info_parts infoB8
  have cF := rfFixed_any w hS
  have HA := hide' (And.intro hA hS)
  obtain ⟨pb, cb, rfl, hcb, -⟩ := hA.span
  clear hA hS
  go_enter Tryd.func3, Tryd.ntmps3
  go_wp2_with fail
  refine cF.mono ?_
  rintro e w1 ⟨rfl, hb1⟩
  clear cF
  have hA1 := HA.out.1.below (hb1.alloc hb1.size (.cells #[] 5)) (Nat.le_refl _)
  go_wp2_with (at_builtin; refine append_argS rfl _ _ rfl w1.heap.size _ _ 0 n [] f rfl (owns_none w1) rfl hA1 (by omega) (by simp) ?_)
  intro v1 w2 hown hgrow
  have hB2 : Below w.heap.size w w2 := hb1.trans ((((Below.refl w1.heap.size w1).alloc (Nat.le_refl _) _).grown hgrow (by simp) (fun k hk => by simp [Value.ownBlock] at hk; omega)).mono hb1.size)
  obtain ⟨-, hAm⟩ := slAt_own (f := f) (by simpa using hown)
  have cR := rfRead_arg (HA.out.2.below hB2 (Nat.le_refl _)) hf (by omega) hAm
  have hfine := Rf.rd_fine f n
  have hgo := fun h => Rf.goes_on (f := f) (n := n) h
  unfold Rf.rdV at cR
  obtain ⟨X, hX⟩ : ∃ X, Rf.rd f n = X := ⟨_, rfl⟩
  rw [hX] at hfine hgo cR
  obtain ⟨x1, x2, x3⟩ := X
  dsimp only at cR
  have HB2 := hide' hB2
  clear hgrow hown hA1 hAm hb1 hB2 hX
  by_cases h1 : x3 = 1
  · obtain ⟨r0, hr0, y0, hy0⟩ := hgo h1
    obtain ⟨K0, hK0, hKr⟩ := List.getElem_of_mem hr0
    have hK22 : K0 < 22 := hK0
    have hxx : (x1, x2, x3) = (0, 0, 1) := by
      rcases hfine with q | q | q
      · exact q
      · have := q.1; dsimp only at this; omega
      · have := q.1; dsimp only at this; omega
    cases hxx
    have HK := hide' (And.intro hKr hy0)
    clear hfine hgo hr0 hKr hy0
    go_wp2_with fail
    refine cR.mono ?_
    rintro e w3 ⟨rfl, hb3⟩
    have hB3 := HB2.out.trans (hb3.mono HB2.out.size)
    clear cR hb3 HB2
    have HB3 := hide' hB3
    clear hB3
    have hcell : ∀ k (h : k < Rf.rests.length), (w3.alloc (.cells #[.string ⟨#[38, 97, 109, 112, 59]⟩, .string ⟨#[97, 109, 112, 59]⟩, .string ⟨#[109, 112, 59]⟩, .string ⟨#[112, 59]⟩, .string ⟨#[59]⟩, .string ⟨#[108, 116, 59]⟩, .string ⟨#[116, 59]⟩, .string ⟨#[103, 116, 59]⟩, .string ⟨#[113, 117, 111, 116, 59]⟩, .string ⟨#[117, 111, 116, 59]⟩, .string ⟨#[111, 116, 59]⟩, .string ⟨#[97, 112, 111, 115, 59]⟩, .string ⟨#[112, 111, 115, 59]⟩, .string ⟨#[111, 115, 59]⟩, .string ⟨#[115, 59]⟩, .string ⟨#[54, 53, 59]⟩, .string ⟨#[53, 59]⟩, .string ⟨#[48, 59]⟩, .string ⟨#[48, 48, 59]⟩, .string ⟨#[48, 48, 48, 59]⟩, .string ⟨#[120, 52, 49, 59]⟩, .string ⟨#[52, 49, 59]⟩] 9)).cell? ⟨w3.heap.size, k, none⟩ = some (.string ⟨(Rf.rests[k]'h).toArray⟩) := by
      intro k h
      have hh : (w3.alloc (.cells #[.string ⟨#[38, 97, 109, 112, 59]⟩, .string ⟨#[97, 109, 112, 59]⟩, .string ⟨#[109, 112, 59]⟩, .string ⟨#[112, 59]⟩, .string ⟨#[59]⟩, .string ⟨#[108, 116, 59]⟩, .string ⟨#[116, 59]⟩, .string ⟨#[103, 116, 59]⟩, .string ⟨#[113, 117, 111, 116, 59]⟩, .string ⟨#[117, 111, 116, 59]⟩, .string ⟨#[111, 116, 59]⟩, .string ⟨#[97, 112, 111, 115, 59]⟩, .string ⟨#[112, 111, 115, 59]⟩, .string ⟨#[111, 115, 59]⟩, .string ⟨#[115, 59]⟩, .string ⟨#[54, 53, 59]⟩, .string ⟨#[53, 59]⟩, .string ⟨#[48, 59]⟩, .string ⟨#[48, 48, 59]⟩, .string ⟨#[48, 48, 48, 59]⟩, .string ⟨#[120, 52, 49, 59]⟩, .string ⟨#[52, 49, 59]⟩] 9)).heap[w3.heap.size]? = some (.cells #[.string ⟨#[38, 97, 109, 112, 59]⟩, .string ⟨#[97, 109, 112, 59]⟩, .string ⟨#[109, 112, 59]⟩, .string ⟨#[112, 59]⟩, .string ⟨#[59]⟩, .string ⟨#[108, 116, 59]⟩, .string ⟨#[116, 59]⟩, .string ⟨#[103, 116, 59]⟩, .string ⟨#[113, 117, 111, 116, 59]⟩, .string ⟨#[117, 111, 116, 59]⟩, .string ⟨#[111, 116, 59]⟩, .string ⟨#[97, 112, 111, 115, 59]⟩, .string ⟨#[112, 111, 115, 59]⟩, .string ⟨#[111, 115, 59]⟩, .string ⟨#[115, 59]⟩, .string ⟨#[54, 53, 59]⟩, .string ⟨#[53, 59]⟩, .string ⟨#[48, 59]⟩, .string ⟨#[48, 48, 59]⟩, .string ⟨#[48, 48, 48, 59]⟩, .string ⟨#[120, 52, 49, 59]⟩, .string ⟨#[52, 49, 59]⟩] 9 (0, 0)) := by show (w3.heap.push _)[w3.heap.size]? = _; simp
      rw [Lib.cell_of_heap hh]
      have e : (#[.string ⟨#[38, 97, 109, 112, 59]⟩, .string ⟨#[97, 109, 112, 59]⟩, .string ⟨#[109, 112, 59]⟩, .string ⟨#[112, 59]⟩, .string ⟨#[59]⟩, .string ⟨#[108, 116, 59]⟩, .string ⟨#[116, 59]⟩, .string ⟨#[103, 116, 59]⟩, .string ⟨#[113, 117, 111, 116, 59]⟩, .string ⟨#[117, 111, 116, 59]⟩, .string ⟨#[111, 116, 59]⟩, .string ⟨#[97, 112, 111, 115, 59]⟩, .string ⟨#[112, 111, 115, 59]⟩, .string ⟨#[111, 115, 59]⟩, .string ⟨#[115, 59]⟩, .string ⟨#[54, 53, 59]⟩, .string ⟨#[53, 59]⟩, .string ⟨#[48, 59]⟩, .string ⟨#[48, 48, 59]⟩, .string ⟨#[48, 48, 48, 59]⟩, .string ⟨#[120, 52, 49, 59]⟩, .string ⟨#[52, 49, 59]⟩] : Array Value) = (Rf.rests.map fun r => Value.string ⟨r.toArray⟩).toArray := rfl
      rw [e]
      simp [h]
    have hb4 : Below w.heap.size w (w3.alloc (.cells #[.string ⟨#[38, 97, 109, 112, 59]⟩, .string ⟨#[97, 109, 112, 59]⟩, .string ⟨#[109, 112, 59]⟩, .string ⟨#[112, 59]⟩, .string ⟨#[59]⟩, .string ⟨#[108, 116, 59]⟩, .string ⟨#[116, 59]⟩, .string ⟨#[103, 116, 59]⟩, .string ⟨#[113, 117, 111, 116, 59]⟩, .string ⟨#[117, 111, 116, 59]⟩, .string ⟨#[111, 116, 59]⟩, .string ⟨#[97, 112, 111, 115, 59]⟩, .string ⟨#[112, 111, 115, 59]⟩, .string ⟨#[111, 115, 59]⟩, .string ⟨#[115, 59]⟩, .string ⟨#[54, 53, 59]⟩, .string ⟨#[53, 59]⟩, .string ⟨#[48, 59]⟩, .string ⟨#[48, 48, 59]⟩, .string ⟨#[48, 48, 48, 59]⟩, .string ⟨#[120, 52, 49, 59]⟩, .string ⟨#[52, 49, 59]⟩] 9)) := HB3.out.alloc HB3.out.size _
    have HC := hide' hcell
    have HB4 := hide' hb4
    clear hcell hb4 HB3
    go_wp2
    generalize w3.alloc (.cells #[.string ⟨#[38, 97, 109, 112, 59]⟩, .string ⟨#[97, 109, 112, 59]⟩, .string ⟨#[109, 112, 59]⟩, .string ⟨#[112, 59]⟩, .string ⟨#[59]⟩, .string ⟨#[108, 116, 59]⟩, .string ⟨#[116, 59]⟩, .string ⟨#[103, 116, 59]⟩, .string ⟨#[113, 117, 111, 116, 59]⟩, .string ⟨#[117, 111, 116, 59]⟩, .string ⟨#[111, 116, 59]⟩, .string ⟨#[97, 112, 111, 115, 59]⟩, .string ⟨#[112, 111, 115, 59]⟩, .string ⟨#[111, 115, 59]⟩, .string ⟨#[115, 59]⟩, .string ⟨#[54, 53, 59]⟩, .string ⟨#[53, 59]⟩, .string ⟨#[48, 59]⟩, .string ⟨#[48, 48, 59]⟩, .string ⟨#[48, 48, 48, 59]⟩, .string ⟨#[120, 52, 49, 59]⟩, .string ⟨#[52, 49, 59]⟩] 9) = w4 at *
    obtain ⟨Q0, hQ0⟩ : ∃ Q0, w3.heap.size = Q0 := ⟨_, rfl⟩
    rw [hQ0] at HC ⊢
    clear hQ0
    go_loopw [31] (fun i wr => ∃ k : Nat, i = .int .i64 k ∧ k ≤ K0 ∧ Below w4.heap.size w4 wr) (fun i _ => 22 - (RowKit.intOf i).toNat)
    case atStart => exact ⟨0, rfl, Nat.zero_le _, Below.refl _ _⟩
    case round =>
      obtain ⟨k, rfl, hk, hB⟩ := hrel
      have g1 : (k : Int) < 22 := by omega
      have hkl : k < Rf.rests.length := by show k < 22; omega
      have hce := HC.out k hkl
      have hrl := rests_len _ (List.getElem_mem hkl)
      have hlast : k = K0 → ∃ y, Rf.rd (Rf.two f (Rf.lfn Rf.rests[k]) n) (n + (Rf.rests[k]).length) = (y, n + (Rf.rests[k]).length, 0) := by
        intro e
        subst e
        have h9 := HK.out
        rw [← h9.1] at h9
        exact ⟨y0, h9.2⟩
      generalize Rf.rests[k] = r at *
      have hcr := (hB.cell (p := ⟨Q0, k, none⟩) (block_lt_of_cell hce)).trans hce
      have hBr : Below w.heap.size w wr := HB4.out.trans (hB.mono HB4.out.size)
      have hAr := HA.out.1.below (hBr.alloc hBr.size (.cells #[] 5)) (Nat.le_refl _)
      obtain ⟨lr, hlr⟩ : ∃ lr, r.length = lr := ⟨_, rfl⟩
      have hsz : (ByteArray.mk r.toArray).size = lr := by rw [← hlr]; simp [ByteArray.size]
      have HSZ := hide' hsz
      have HLR := hide' hlr
      rw [hlr] at hrl hlast
      have HLAST := hide' hlast
      have HBr := hide' hBr
      clear hce hsz hlast hBr
      go_wp2_with (at_builtin; refine append_argS rfl _ _ rfl wr.heap.size _ _ 0 n [] f rfl (owns_none wr) rfl hAr (by omega) (by simp) ?_)
      intro v5 w5 hown hgrow
      have hB5 : Below wr.heap.size wr w5 := ((Below.refl wr.heap.size wr).alloc (Nat.le_refl _) _).grown hgrow (by simp) (fun k hk => by simp [Value.ownBlock] at hk; omega)
      have hown5 : w5.ownsRow wr.heap.size 5 1 v5 n (bs f n) := by simpa using hown
      have hs5 := hB5.size
      have hlt5 := hown5.lt
      have HB5 := hide' hB5
      have q1 : n + (ByteArray.mk r.toArray).size ≤ maxLen := by rw [HSZ.out]; unfold maxLen; omega
      have q2 : n + (ByteArray.mk r.toArray).size ≤ 140737488355328 := by rw [HSZ.out]; omega
      have HQ := hide' (And.intro q1 q2)
      clear hown hgrow hAr hB5 q1 q2
      go_wp2_with (at_builtin; refine Lib.wpList_append_own_string _ rfl _ _ 22 9 rfl wr.heap.size 5 i0 Tryd.underlying22 Tryd.underlying9 hi hz0 hz1 hz2 v5 n (bs f n) rfl hown5 ⟨r.toArray⟩ rfl HQ.out.1 HQ.out.2 hs5 ?_)
      intro v6 w6 hown hgrow _
      rw [strCells_mk, byteCells_bs, HLR.out, Rf.two_bs] at hown
      have hB6 : Below wr.heap.size wr w6 := HB5.out.grown hgrow hs5 (fun k hk => (hlt5 k hk).1)
      obtain ⟨-, hAm⟩ := slAt_own hown
      have hBw6 : Below w.heap.size w w6 := HBr.out.trans (hB6.mono HBr.out.size)
      have cL := rfRead_arg (HA.out.2.below hBw6 (Nat.le_refl _)) (Rf.two_lt hf (Rf.lfn_lt r) n) (by omega) hAm
      have hL := HLAST.out
      obtain ⟨Z, hZ⟩ : ∃ Z, Rf.rd (Rf.two f (Rf.lfn r) n) (n + lr) = Z := ⟨_, rfl⟩
      rw [hZ] at cL hL
      obtain ⟨z1, z2, z3⟩ := Z
      unfold Rf.rdV at cL
      dsimp only at cL
      have hB4' : Below w4.heap.size w4 w6 := hB.trans (hB6.mono hB.size)
      have HB4' := hide' hB4'
      have HBw6 := hide' hBw6
      clear hown hgrow hAm hown5 hlt5 hs5 HB5 HQ hB6 hB4' hBw6 hZ HLAST hB hcr
      go_wp2_with fail
      refine cL.mono ?_
      rintro e w7 ⟨rfl, hb7⟩
      have hB7 := HBw6.out.trans (hb7.mono HBw6.out.size)
      have hB47 := HB4'.out.trans (hb7.mono HB4'.out.size)
      clear cL hb7
      by_cases h3 : z3 = 0
      · have e3 : ((z3 : Int) == 0) = true := by simp; omega
        by_cases h2 : z2 = n + lr
        · have e2 : ((z2 : Int) == (n : Int) + (lr : Int)) = true := by simp; omega
          clear h3 h2 hL
          go_wp2
          go_ret
          exact ⟨rfl, hB7⟩
        · have e2 : ((z2 : Int) == (n : Int) + (lr : Int)) = false := by simp; omega
          have hne : k ≠ K0 := fun e => by obtain ⟨y, hy⟩ := hL e; cases hy; exact h2 rfl
          clear h3 h2 hL
          go_wp2
          go_roundw
          case rel => exact ⟨k + 1, by go_num, by omega, hB47⟩
          case measure => simp [RowKit.intOf]; omega
      · have e3 : ((z3 : Int) == 0) = false := by simp; omega
        have hne : k ≠ K0 := fun e => by obtain ⟨y, hy⟩ := hL e; cases hy; exact h3 rfl
        clear h3 hL
        go_wp2
        go_roundw
        case rel => exact ⟨k + 1, by go_num, by omega, hB47⟩
        case measure => simp [RowKit.intOf]; omega
  · have t1 : ((x3 : Int) != 1) = true := by simp; omega
    have hx : ((x3 : Int) == 0) = true ∨ (((x3 : Int) == 0) = false ∧ ((x3 : Int) == 2) = true) := by
      rcases hfine with q | q | q
      · cases q; exact absurd rfl h1
      · have := q.1; dsimp only at this; right; constructor <;> (simp; omega)
      · have := q.1; dsimp only at this; left; simp; omega
    clear hfine hgo h1
    go_wp2_with fail
    refine cR.mono ?_
    rintro e w3 ⟨rfl, hb3⟩
    have hB3 := HB2.out.trans (hb3.mono HB2.out.size)
    clear cR hb3 HB2
    rcases hx with t2 | ⟨t2, t3⟩
    · go_wp2
      go_ret
      exact ⟨rfl, hB3⟩
    · go_wp2
      go_ret
      exact ⟨rfl, hB3⟩
end Go.Proofs.YtbbbokkfhfmoeabDoor
