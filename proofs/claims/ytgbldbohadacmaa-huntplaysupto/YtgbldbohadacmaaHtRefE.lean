/-
  THE WALK over the document's Runes of layer 1: the characters as numbers, in a new row.
-/
import Derived.Test.YtgbldbohadacmaaHtRefB
import Derived.Test.YtgbldbohadacmaaRnChars
import Derived.Test.YtgbldbohadacmaaRnRefAt
namespace Go.Proofs.Ytgbldbohadacmaa
open Go.RowKit Go.Lib
namespace Ht
def ic (L : List Nat) : List Value := L.map fun (r : Nat) => .int .i64 (r : Int)
theorem ic_length (L : List Nat) : (ic L).length = L.length := by simp [ic]
theorem ic_app (L M : List Nat) : ic (L ++ M) = ic L ++ ic M := by simp [ic]
theorem ic_one (M : List Nat) : ∀ u ∈ ic M, u.oneCell' = true := by
  intro u hu
  unfold ic at hu
  obtain ⟨j, _, rfl⟩ := List.mem_map.1 hu
  rfl
theorem ic_news (W : World) (r : Nat) : ∀ j u, (ic [r])[j]? = some u → (W.alloc (.cells #[.int .i64 (r : Int)] 3)).cell? (Addr.add ⟨W.heap.size, 0, none⟩ j) = some u := by
  intro j u hj
  match j, hj with
  | 0, hj => simp [ic] at hj; subst hj; simp [Addr.add]
  | (j + 1), hj => simp [ic] at hj
theorem cs_chs (f : Nat → Nat) (n : Nat) (hf : ∀ j, f j < 256) : ∀ fuel p, (Rn.chlFrom f n fuel p).map (fun x => (x.1, x.2.1)) = (Rn.chFrom f n hf fuel p).map (·.1)
  | 0, _ => rfl
  | fuel + 1, p => by
    unfold Rn.chlFrom Rn.chFrom
    by_cases h : p < n
    · rw [if_pos h, dif_pos h, List.map_cons, List.map_cons, cs_chs f n hf fuel]
    · rw [if_neg h, dif_neg h]
      rfl
theorem chl_R (f : Nat → Nat) (n : Nat) (hf : ∀ j, f j < 256) : (Rn.chl f n).map (·.2.1) = Wd.R f n 0 := by
  have h := congrArg (List.map (·.2)) (cs_chs f n hf n 0)
  rw [List.map_map, List.map_map] at h
  rw [← Wd.R_rl f n hf]
  exact h
theorem ni_of {w : World} {B : Nat} {v : Value} {L : List Nat} (h : w.ownsRow B 3 1 v L.length (ic L)) : Ni w v L := by
  rcases h.2 with ⟨h1, h2⟩ | ⟨g, cap, cur, h1, h2, h3, h4, h5, h6, h7⟩
  · exact ⟨none, 0, by rw [h1, h2], by omega, by omega, .inl h2⟩
  · refine ⟨_, cap, h1, h4, by unfold maxLen at h5; omega, .inr ⟨g, 0, rfl, fun j hj => ?_⟩⟩
    rw [Lib.cell_of_heap h3, Nat.zero_add]
    have e : cur.toList[j]? = (ic L)[j]? := by
      rw [← h7, List.getElem?_take]
      rw [if_pos (by omega)]
    rw [← Array.getElem?_toList, e]
    simp [ic, lg, hj]
end Ht
theorem htInfoI : (Try.prog.info? 3).map (fun i => (i.zero, i.size, i.bytes)) = some (some (.int .i64 0), 1, 8) := by kernel_rfl
set_option maxRecDepth 100000 in
set_option maxHeartbeats 2000000 in
theorem htRefRunes (f : Nat → Nat) (n : Nat) (w : World) (hf : ∀ j, f j < 256) (hbig : n ≤ 1099511627776) :
    Calls Try.prog 15 #[.string (Rn.arr f n)] w fun e w' => ∃ v, e = .returned v ∧ w'.ownsRow w.heap.size 3 1 v (Wd.R f n 0).length (Ht.ic (Wd.R f n 0)) ∧ Below w.heap.size w w' := by
  obtain ⟨i0, hi, hz0, hz1, hz2⟩ := info_parts htInfoI
  obtain ⟨cap1, W1, hcv, d1, d2, d3, d4, d5⟩ := conv_bytes f n w hf (by omega)
  have hrl := Ht.chl_R f n hf
  rw [← hrl]
  go_enter Try.func15, Try.ntmps15
  go_wp2_with fail
  refine (chars_any f _ n cap1 W1 hf d1 d2 hbig (.inr ⟨_, _, rfl, d3⟩)).mono ?_
  rintro e w2 ⟨v, rfl, hown, hlen, hb2⟩
  have hB2 : Below w.heap.size w w2 := d4.trans (hb2.mono (by omega))
  clear hcv d1 d2 d3 d4 d5 hrl
  obtain ⟨ao, capc, rfl⟩ : ∃ ao capc, v = .slice ao (Rn.chl f n).length capc := by
    rcases hown.2 with ⟨hv, h0⟩ | ⟨g, cap, cur, hv, _⟩
    · exact ⟨none, 0, by rw [hv, h0]⟩
    · exact ⟨_, _, hv⟩
  have hrow : 0 < (Rn.chl f n).length → ∃ g, ao = some ⟨g, 0, none⟩ ∧ g < w2.heap.size ∧ ∀ j u, (chCells (Rn.chl f n))[j]? = some u → w2.cell? ⟨g, j, none⟩ = some u := fun h => by
    rcases hown.2 with ⟨_, h0⟩ | ⟨g, cap, cur, hv, hg, hgg, _⟩
    · omega
    · cases hv
      refine ⟨g, rfl, lt_of_heap hgg, fun j u hu => ?_⟩
      have := hown.cells (g := g) rfl j u hu
      rw [show (Addr.add ⟨g, 0, none⟩ j) = ⟨g, j, none⟩ by simp [Addr.add]; omega] at this
      exact this
  clear hown hb2
  generalize hL : Rn.chl f n = L at *
  have HL := hide' hL
  clear hL
  have HB2 := hide' hB2
  clear hB2
  go_wp2_with fail
  go_loopw [4, 5] (fun out i wr => ∃ k : Nat, i = .int .i64 k ∧ k ≤ L.length ∧ wr.ownsRow w2.heap.size 3 1 out k (Ht.ic ((L.take k).map (·.2.1))) ∧ Below w2.heap.size w2 wr) (fun _ i _ => L.length - (RowKit.intOf i).toNat)
  case atStart => exact ⟨0, rfl, Nat.zero_le _, World.ownsRow_nil _ _ _ _, Below.refl _ _⟩
  case round =>
    obtain ⟨k, rfl, hk, hown, hB⟩ := hrel
    by_cases hlt : k < L.length
    · have g1 : (k : Int) < L.length := by omega
      obtain ⟨g, rfl, hg2, hcs⟩ := hrow (by omega)
      obtain ⟨-, q1, -⟩ := chCells_get L k hlt
      rw [Nat.mul_comm] at q1
      have c1 := (hB.cell (p := ⟨g, k * 3 + 1, none⟩) hg2).trans (hcs _ _ q1)
      have sn : (L.take (k + 1)).map (·.2.1) = (L.take k).map (·.2.1) ++ [L[k].2.1] := by rw [List.take_succ_eq_append_getElem hlt, List.map_append]; rfl
      have HS := hide' sn
      clear hrow hcs q1 sn
      generalize L[k].2.1 = r at *
      generalize (L.take k).map (·.2.1) = pre at *
      have hbs := hB.size
      go_wp2_with (at_builtin; refine wpList_append_own _ rfl _ _ 44 rfl w2.heap.size 3 i0 (.int .i64 0) 1 8 Try.underlying44 hi hz0 hz1 hz2 rfl (by decide) _ k (Ht.ic pre) rfl (hown.alloc _) ⟨wr.heap.size, 0, none⟩ 1 1 (Ht.ic [r]) rfl rfl ?c1 ?c2 ?c3 ?c4 ?c5 ?_)
      case c1 => exact Ht.ic_news _ r
      case c2 => exact Ht.ic_one _
      case c3 => unfold maxLen; omega
      case c4 => omega
      case c5 => simp; omega
      intro v' w4 hown' hgrow _
      have hB4 : Below w2.heap.size w2 w4 := (hB.alloc hB.size _).grown hgrow (by simp; omega) (fun j hj => (hown.lt j hj).1)
      have hown4 : w4.ownsRow w2.heap.size 3 1 v' (k + 1) (Ht.ic ((L.take (k + 1)).map (·.2.1))) := by
        rw [HS.out, Ht.ic_app]
        exact hown'
      clear hown hown' hgrow
      go_wp2_with fail
      go_roundw
      case rel => exact ⟨k + 1, by go_num, by omega, hown4, hB4⟩
      case measure => simp [RowKit.intOf]; omega
    · have g1 : ¬ (k : Int) < L.length := by omega
      obtain rfl : k = L.length := by omega
      clear hlt
      go_wp2_with fail
      go_ret
      rw [List.take_length] at hown
      refine ⟨_, rfl, ?_, HB2.out.trans (hB.mono HB2.out.size)⟩
      rw [HL.out]
      exact Joins.ownsRow_le hown HB2.out.size
end Go.Proofs.Ytgbldbohadacmaa
