/-
  THE WALK over the document's Mend: each character's bytes, one behind the other.
-/
import Derived.Test.YtacmenmneilamaaDoorRnForm
import Derived.Test.YtacmenmneilamaaDoorRnRefAt
import Derived.Test.YtacmenmneilamaaDoorRnLawMends
import Derived.Test.YtacmenmneilamaaDoorRnLaid
namespace Go.Proofs.YtacmenmneilamaaDoor
open Go.RowKit Go.Lib

namespace Rn
theorem chl_chs (f : Nat → Nat) (n : Nat) (hf : ∀ j, f j < 256) : ∀ fuel p, (chlFrom f n fuel p).map (fun x => (x.1, x.2.1)) = (chFrom f n hf fuel p).map (·.1)
  | 0, _ => rfl
  | fuel + 1, p => by
    unfold chlFrom chFrom
    by_cases h : p < n
    · rw [if_pos h, dif_pos h, List.map_cons, List.map_cons, chl_chs f n hf fuel]
    · rw [if_neg h, dif_neg h]
      rfl
theorem chl_rl (f : Nat → Nat) (n : Nat) (hf : ∀ j, f j < 256) : (chl f n).map (·.2.1) = rl (chs f n hf) := by
  have h := congrArg (List.map (·.2)) (chl_chs f n hf n 0)
  rw [List.map_map, List.map_map] at h
  exact h
end Rn

theorem owns_below {w w' : World} {B : Nat} {e : TypeId} {k : Nat} {v : Value} {n : Nat} {ys : List Value} (h : w.ownsRow B e k v n ys) (hb : Below w.heap.size w w') : w'.ownsRow B e k v n ys := by
  refine h.kept (row := none) ⟨hb.os, hb.tape, hb.output, hb.size, fun j hj _ => hb.block j hj⟩ ?_
  cases v.ownBlock with
  | none => exact .inl rfl
  | some g => exact .inr (by simp)
theorem byteCells_one' (l : List UInt8) : ∀ u ∈ byteCells l, u.oneCell' = true := by
  intro u hu
  unfold byteCells at hu
  obtain ⟨j, _, rfl⟩ := List.mem_map.1 hu
  rfl
/-- a row of bytes, made a string -/
theorem conv_owned {w : World} {B : Nat} {v : Value} {l : List UInt8} (h : w.ownsRow B 5 1 v l.length (byteCells l)) : (convert 22 9 v).run Tryd.prog w = .ok (.string ⟨l.toArray⟩) w := by
  rcases h.2 with ⟨rfl, h0⟩ | ⟨g, cap, cur, rfl, hg, hgg, h1, h2, h3, h4⟩
  · obtain rfl : l = [] := List.length_eq_zero_iff.1 h0
    rw [run_convert_bytes_string w 22 9 5 none 0 0 Tryd.underlying22 Tryd.underlying5 Tryd.underlying9]
    rfl
  · have hc := h.cells (g := g) rfl
    exact run_convert_bytes_back (P := Tryd.prog) w 22 9 5 ⟨g, 0, none⟩ cap l Tryd.underlying22 Tryd.underlying5 Tryd.underlying9 (fun j hj => hc j _ (by simp [byteCells, hj]))
/-- bytes that lie somewhere, as what is put behind a row -/
theorem news_of {W : World} {g o n : Nat} {f : Nat → Nat} {l : List UInt8} (h : Bytes W g o n f) (hl : l.length ≤ n) (hj : ∀ j, j < l.length → Rn.lf l j = f j) :
    ∀ j u, (byteCells l)[j]? = some u → W.cell? (Addr.add ⟨g, o, none⟩ j) = some u := by
  intro j u hu
  unfold byteCells at hu
  rw [List.getElem?_map] at hu
  rcases Nat.lt_or_ge j l.length with hlt | hge
  · rw [List.getElem?_eq_getElem hlt] at hu
    simp at hu
    subst hu
    have e : (Addr.add ⟨g, o, none⟩ j) = ⟨g, o + j, none⟩ := by simp [Addr.add]
    rw [e, h j (by omega), ← hj j hlt]
    unfold Rn.lf
    rw [List.getElem?_eq_getElem hlt]
    rfl
  · rw [List.getElem?_eq_none hge] at hu
    cases hu
theorem news_enc {W : World} {g : Nat} (r : Nat) (h : Bytes W g 0 (Rn.el r) (Rn.eb r)) : ∀ j u, (byteCells (encodeRune r))[j]? = some u → W.cell? (Addr.add ⟨g, 0, none⟩ j) = some u :=
  news_of h (by rw [Rn.enc_length]; exact Nat.le_refl _) (fun j _ => Rn.enc_get r j)

set_option maxRecDepth 100000 in
set_option maxHeartbeats 2000000 in
theorem refMend_any (f : Nat → Nat) (n : Nat) (w : World) (hf : ∀ j, f j < 256) (hbig : n ≤ 1099511627776) :
    Calls Tryd.prog 20 #[.string (Rn.arr f n)] w fun e w' => e = .returned (.string ⟨(Rn.cat (Rn.rl (Rn.chs f n hf))).toArray⟩) ∧ Below w.heap.size w w' := by
  obtain ⟨i0, hi, hz0, hz1, hz2⟩ := info_parts infoByte'
  obtain ⟨cap1, W1, hcv, d1, d2, d3, d4, d5⟩ := conv_bytes f n w hf (by omega)
  have hrl := Rn.chl_rl f n hf
  have hsc := Rn.chs_scal f n hf
  rw [← hrl] at hsc ⊢
  go_enter Tryd.func20, Tryd.ntmps20
  go_wp2_with fail
  refine (chars_any f _ n cap1 W1 hf d1 d2 hbig (.inr ⟨_, _, rfl, d3⟩)).mono ?_
  rintro e w2 ⟨v, rfl, hown, hlen, hb2⟩
  have hB2 : Below w.heap.size w w2 := d4.trans (hb2.mono (by omega))
  clear hcv d1 d2 d3 d4 d5 hrl
  obtain ⟨ao, capc, rfl⟩ : ∃ ao capc, v = .slice ao (Rn.chl f n).length capc := by
    rcases hown.2 with ⟨hv, h0⟩ | ⟨g, cap, cur, hv, _⟩
    · exact ⟨none, 0, by rw [hv, h0]⟩
    · exact ⟨_, _, hv⟩
  have hrow : 0 < (Rn.chl f n).length → ∃ g, ao = some ⟨g, 0, none⟩ ∧ g < w2.heap.size ∧ ∀ j u, (chCells (Rn.chl f n))[j]? = some u → w2.cell? ⟨g, j, none⟩ = some u := fun h => by
    rcases hown.2 with ⟨_, h0⟩ | ⟨g, cap, cur, hv, hg, hgg, _⟩
    · omega
    · cases hv
      refine ⟨g, rfl, lt_of_heap hgg, fun j u hu => ?_⟩
      have := hown.cells (g := g) rfl j u hu
      rw [show (Addr.add ⟨g, 0, none⟩ j) = ⟨g, j, none⟩ by simp [Addr.add]; omega] at this
      exact this
  clear hown hb2
  generalize hL : Rn.chl f n = L at *
  have HL := hide' hL
  clear hL
  go_wp2_with fail
  go_loopw [4, 5] (fun out i wr => ∃ k : Nat, i = .int .i64 k ∧ k ≤ L.length ∧ wr.ownsRow w2.heap.size 5 1 out (Rn.cat ((L.take k).map (·.2.1))).length (byteCells (Rn.cat ((L.take k).map (·.2.1)))) ∧ Below w2.heap.size w2 wr) (fun _ i _ => L.length - (RowKit.intOf i).toNat)
  case atStart => exact ⟨0, rfl, Nat.zero_le _, World.ownsRow_nil _ _ _ _, Below.refl _ _⟩
  case round =>
    obtain ⟨k, rfl, hk, hown, hB⟩ := hrel
    by_cases hlt : k < L.length
    · have g1 : (k : Int) < L.length := by omega
      obtain ⟨g, rfl, hg2, hcs⟩ := hrow (by omega)
      obtain ⟨-, q1, -⟩ := chCells_get L k hlt
      rw [Nat.mul_comm] at q1
      have c1 := (hB.cell (p := ⟨g, k * 3 + 1, none⟩) hg2).trans (hcs _ _ q1)
      have hr : Rn.scal L[k].2.1 := hsc _ (List.mem_map_of_mem (List.getElem_mem hlt))
      have sn : (L.take (k + 1)).map (·.2.1) = (L.take k).map (·.2.1) ++ [L[k].2.1] := by rw [List.take_succ_eq_append_getElem hlt, List.map_append]; rfl
      have hcl := Rn.cat_le ((L.take k).map (·.2.1))
      have hk2 : ((L.take k).map (·.2.1)).length = k := by simp; omega
      rw [hk2] at hcl
      have sc := congrArg Rn.cat sn
      rw [Rn.cat_append, show Rn.cat [L[k].2.1] = encodeRune (L[k].2.1 : Nat) by simp [Rn.cat]] at sc
      have HS := hide' sc
      have hel := Rn.el_pos (L[k].2.1 : Nat)
      clear hrow hcs q1 sn sc hk2 hsc
      generalize L[k].2.1 = r at *
      generalize Rn.cat ((L.take k).map (·.2.1)) = out at *
      go_wp2_with fail
      refine (refForm_some r _ hr).mono ?_
      rintro e w3 ⟨rfl, hby, hb3⟩
      have hown3 := owns_below hown hb3
      have hB3 := hB.trans (hb3.mono hB.size)
      have hbs := hB.size
      have hbs3 := hb3.size
      go_wp2_with (at_builtin; refine wpList_append_own _ rfl _ _ 22 rfl w2.heap.size 5 i0 (.int .u8 0) 1 1 Tryd.underlying22 hi hz0 hz1 hz2 rfl (by decide) _ out.length (byteCells out) rfl hown3 ⟨wr.heap.size, 0, none⟩ (Rn.el r) (Rn.el r) (byteCells (encodeRune r)) rfl (by rw [byteCells_length, Rn.enc_length]; omega) ?c1 ?c2 ?c3 ?c4 ?c5 ?_)
      case c1 => exact news_enc r hby
      case c2 => exact byteCells_one' _
      case c3 => unfold maxLen; omega
      case c4 => omega
      case c5 => omega
      intro v' w4 hown' hgrow _
      have hB4 : Below w2.heap.size w2 w4 := hB3.grown hgrow (by omega) (fun j hj => (hown3.lt j hj).1)
      have hown4 : w4.ownsRow w2.heap.size 5 1 v' (Rn.cat ((L.take (k + 1)).map (·.2.1))).length (byteCells (Rn.cat ((L.take (k + 1)).map (·.2.1)))) := by
        rw [HS.out, byteCells_append, List.length_append, Rn.enc_length]
        exact hown'
      clear hown hown' hgrow hown3
      go_wp2_with fail
      go_roundw
      case rel => exact ⟨k + 1, by go_num, by omega, hown4, hB4⟩
      case measure => simp [RowKit.intOf]; omega
    · have g1 : ¬ (k : Int) < L.length := by omega
      obtain rfl : k = L.length := by omega
      rw [List.take_length] at hown
      have hcv := conv_owned hown
      clear hown hrow
      go_wp2_with fail
      go_ret
      exact ⟨by rw [HL.out]; rfl, hB2.trans (hB.mono hB2.size)⟩
end Go.Proofs.YtacmenmneilamaaDoor
