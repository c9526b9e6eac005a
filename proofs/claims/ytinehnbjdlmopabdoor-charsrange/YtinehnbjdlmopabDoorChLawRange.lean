/-
  THE WALK over gimletlaw02.CharsRange: of any text.
-/
import Derived.Test.YtinehnbjdlmopabDoorChFix
import Derived.Test.YtinehnbjdlmopabDoorChValid
namespace Go.Proofs.YtinehnbjdlmopabDoor
open Go.RowKit Go.Lib

namespace Ch
/-- three bytes of a text against those of U+FFFD -/
theorem arr_cut3 (f : Nat → Nat) (n p : Nat) (hf : ∀ j, f j < 256) (h : p + 3 ≤ n) : (((Rn.arr f n).extract p (p + 3)).toList == [239, 191, 189]) = decide (f p = 239 ∧ f (p + 1) = 191 ∧ f (p + 2) = 189) := by
  rw [ByteArray.toList_eq]
  have e : ((Rn.arr f n).extract p (p + 3)).data.toList = [(f p).toUInt8, (f (p + 1)).toUInt8, (f (p + 2)).toUInt8] := by
    rw [ByteArray.data_extract]
    apply List.ext_getElem
    · simp [Rn.arr]; omega
    · intro i h1 h2
      simp at h2
      have hi : i = 0 ∨ i = 1 ∨ i = 2 := by omega
      rcases hi with rfl | rfl | rfl <;> simp [Rn.arr]
  rw [e]
  have a0 := hf p
  have a1 := hf (p + 1)
  have a2 := hf (p + 2)
  rw [Bool.eq_iff_iff]
  simp [← UInt8.toNat_inj]
  omega
end Ch

set_option maxRecDepth 100000 in
set_option maxHeartbeats 4000000 in
theorem lawRange_any (f : Nat → Nat) (n : Nat) (w : World) (hf : ∀ j, f j < 256) (hn : n ≤ 4611686018427387904) (hS : Spans w) (hT : Lib.Utf8Tabs 1 2 w) :
    Calls Tryd.prog 3 #[.string (Rn.arr f n)] w fun e w' => e = .returned (.bool true) ∧ Below w.heap.size w w' := by
  have cF := fixed_any w hS hT
  have hsz := Rn.arr_size f n
  have hem := Rn.arr_empty f n
  have cM : ∀ w1, Below w.heap.size w w1 → _ := fun w1 hb => name_any f n w1 hf (by omega) (hS.below hb (Nat.le_refl _)) (tabs_below hT hb (Nat.le_refl _))
  have cX : ∀ w1, Below w.heap.size w w1 → _ := fun w1 hb => texts_any f n w1 hf (by omega) (hS.below hb (Nat.le_refl _)) (tabs_below hT hb (Nat.le_refl _))
  have cI : ∀ (c r : Int) w1, Below w.heap.size w w1 → _ := fun c r w1 hb => is_any c r w1 (hS.below hb (Nat.le_refl _))
  clear hS hT
  go_enter Tryd.func3, Tryd.ntmps3
  go_wp2_with fail
  refine cF.mono ?_
  rintro e w0 ⟨rfl, hb0⟩
  have hs0 := hb0.size
  clear cF
  go_wp2_with fail
  go_loopw [3, 4] (fun a b wr => ∃ (pos fuel : Nat) (nm al : Bool), a = .bool nm ∧ b = .bool al ∧ wr.heap[w0.heap.size]? = some (.stringIter (Rn.arr f n) pos) ∧
      (nm && Ch.allFrom f n 3 fuel pos (if pos = 0 then 2 else 3)) = (!decide (n = 0) && Ch.allFrom f n 3 n 0 2) ∧ (al && Ch.allFrom f n 0 fuel pos 0) = Ch.allFrom f n 0 n 0 0 ∧ Ch.V f n pos = Ch.valid f n ∧ n ≤ pos + fuel ∧ Below w0.heap.size w0 wr)
    (fun _ _ wr => n - wr.iterPos w0.heap.size)
  case atStart => exact ⟨0, n, _, true, rfl, rfl, World.iter_heap w0 _ 0, by simp, by simp, Ch.V_zero f n, by omega, (Below.refl _ _).alloc (Nat.le_refl _) _⟩
  case round =>
    obtain ⟨pos, fuel, nm, al, rfl, rfl, hit, hN, hA, hV, hfu, hB⟩ := hrel
    by_cases hlt : pos < n
    · have hnx : ∀ ty, (Instr.next (.pointer (some ⟨w0.heap.size, 0, none⟩)) true ty).run Tryd.prog wr = _ := fun ty => Lib.run_next_any_at wr w0.heap.size (Rn.arr f n) pos ty hit (by rw [hsz]; exact hlt)
      rw [Rn.arr_decode f n pos hf hlt] at hnx
      obtain ⟨q, rfl⟩ : ∃ q, fuel = q + 1 := ⟨fuel - 1, by omega⟩
      rw [Ch.allFrom_step _ _ _ _ _ _ hlt] at hN hA
      rw [Ch.V_step f n pos hf hlt] at hV
      obtain ⟨hd1, hd2, hd3⟩ := Rn.dec_pos (Rn.off f pos) (n - pos) (fun _ => hf _) (by omega)
      have hfd := Ch.dec_fffd (Rn.off f pos) (n - pos) (fun _ => hf _) (by omega)
      have hcut := Ch.arr_cut3 f n pos hf
      have hit2 := Lib.iterAt_heap wr w0.heap.size (Rn.arr f n) pos (pos + (Rn.dec (Rn.off f pos) (n - pos)).2) hit
      have hB2 := Lib.below_iterAt hB (Nat.le_refl _) (Rn.arr f n) (pos + (Rn.dec (Rn.off f pos) (n - pos)).2)
      have hi1 : w0.heap.size < (wr.iterAt w0.heap.size (Rn.arr f n) (pos + (Rn.dec (Rn.off f pos) (n - pos)).2)).heap.size := by
        obtain ⟨hh, _⟩ := Array.getElem?_eq_some_iff.1 hit2
        exact hh
      have hW2 := hb0.trans (hB2.mono hs0)
      have hlen2 : pos + 3 ≤ 9223372036854775807 := by omega
      generalize (Rn.dec (Rn.off f pos) (n - pos)).1 = r at *
      generalize (Rn.dec (Rn.off f pos) (n - pos)).2 = d at *
      by_cases hr : r = 65533
      · subst hr
        rcases hfd rfl with ⟨hd, hno⟩ | ⟨hd, h3, k0, k1, k2⟩
        · subst hd
          simp only [and_self, if_true] at hV
          have cm := cM
          have cx := cX
          rw [← hV] at cm cx
          simp only [Bool.and_false] at cm cx
          clear hN hA hV cM cX cI hfd
          by_cases hl : (n : Int) < pos + 3
          · clear hcut hno
            go_wp2_with fail
            refine (cm _ hW2).mono ?_
            rintro e w1 ⟨rfl, hb1⟩
            have hW3 := hW2.trans (hb1.mono hW2.size)
            go_wp2_with fail
            refine (cx w1 hW3).mono ?_
            rintro e w2 ⟨rfl, hb2⟩
            go_wp2_with fail
            go_ret
            exact ⟨rfl, hW3.trans (hb2.mono hW3.size)⟩
          · have hc := hcut (by omega)
            rw [show decide (f pos = 239 ∧ f (pos + 1) = 191 ∧ f (pos + 2) = 189) = false from by
              rw [decide_eq_false_iff_not]
              rintro ⟨a0, a1, a2⟩
              exact hno ⟨by omega, by simpa [Rn.off] using a0, by simpa [Rn.off] using a1, by simpa [Rn.off] using a2⟩] at hc
            clear hcut hno
            go_wp2_with fail
            refine (cm _ hW2).mono ?_
            rintro e w1 ⟨rfl, hb1⟩
            have hW3 := hW2.trans (hb1.mono hW2.size)
            go_wp2_with fail
            refine (cx w1 hW3).mono ?_
            rintro e w2 ⟨rfl, hb2⟩
            go_wp2_with fail
            go_ret
            exact ⟨rfl, hW3.trans (hb2.mono hW3.size)⟩
        · subst hd
          have hc := hcut (by omega)
          rw [show decide (f pos = 239 ∧ f (pos + 1) = 191 ∧ f (pos + 2) = 189) = true from by
            rw [decide_eq_true_iff]
            exact ⟨by simpa [Rn.off] using k0, by simpa [Rn.off] using k1, by simpa [Rn.off] using k2⟩] at hc
          have hl : ¬ (n : Int) < pos + 3 := by omega
          rw [if_neg (by omega)] at hV
          clear hcut k0 k1 k2
          have HV := hide' hV
          clear hV cM cX hfd
          by_cases hp : pos = 0
          · have hp1 : ((pos : Int) == 0) = true := by simp; omega
            rw [if_pos hp] at hN
            have hq : (if pos + 3 = 0 then (2 : Int) else 3) = 3 := if_neg (by omega)
            have HN := hide' hN
            have HA := hide' hA
            clear hN hA hp
            cases nm
            · cases al
              · go_wp2_with fail
                have hW3 := hW2
                have hB3 := hB2
                have hit3 := hit2
                have hi3 := hi1
                have hB4 := hB3
                have hit4 := hit3
                go_roundw
                case rel => exact ⟨pos + 3, q, false, false, rfl, rfl, hit4, by rw [← HN.out]; rfl, by rw [← HA.out]; rfl, HV.out, by omega, hB4⟩
                case measure => simp only [World.iterPos, hit4, hit]; omega
              · go_wp2_with fail
                have hW3 := hW2
                have hB3 := hB2
                have hit3 := hit2
                have hi3 := hi1
                refine (cI 0 65533 _ hW3).mono ?_
                rintro e v1 ⟨rfl, hv1⟩
                have hB4 := hB3.trans (hv1.mono (Nat.le_of_lt hi3))
                have hit4 := (hv1.block w0.heap.size hi3).trans hit3
                go_wp2_with fail
                go_roundw
                case rel => exact ⟨pos + 3, q, false, _, rfl, rfl, hit4, by rw [← HN.out]; rfl, by rw [← HA.out]; simp, HV.out, by omega, hB4⟩
                case measure => simp only [World.iterPos, hit4, hit]; omega
            · cases al
              · go_wp2_with fail
                refine (cI 2 65533 _ hW2).mono ?_
                rintro e w1 ⟨rfl, hb1⟩
                have hW3 := hW2.trans (hb1.mono hW2.size)
                have hB3 := hB2.trans (hb1.mono (Nat.le_of_lt hi1))
                have hit3 := (hb1.block w0.heap.size hi1).trans hit2
                have hi3 : w0.heap.size < w1.heap.size := Nat.lt_of_lt_of_le hi1 hb1.size
                go_wp2_with fail
                have hB4 := hB3
                have hit4 := hit3
                go_roundw
                case rel => exact ⟨pos + 3, q, _, false, rfl, rfl, hit4, by rw [hq, ← HN.out]; simp, by rw [← HA.out]; rfl, HV.out, by omega, hB4⟩
                case measure => simp only [World.iterPos, hit4, hit]; omega
              · go_wp2_with fail
                refine (cI 2 65533 _ hW2).mono ?_
                rintro e w1 ⟨rfl, hb1⟩
                have hW3 := hW2.trans (hb1.mono hW2.size)
                have hB3 := hB2.trans (hb1.mono (Nat.le_of_lt hi1))
                have hit3 := (hb1.block w0.heap.size hi1).trans hit2
                have hi3 : w0.heap.size < w1.heap.size := Nat.lt_of_lt_of_le hi1 hb1.size
                go_wp2_with fail
                refine (cI 0 65533 _ hW3).mono ?_
                rintro e v1 ⟨rfl, hv1⟩
                have hB4 := hB3.trans (hv1.mono (Nat.le_of_lt hi3))
                have hit4 := (hv1.block w0.heap.size hi3).trans hit3
                go_wp2_with fail
                go_roundw
                case rel => exact ⟨pos + 3, q, _, _, rfl, rfl, hit4, by rw [hq, ← HN.out]; simp, by rw [← HA.out]; simp, HV.out, by omega, hB4⟩
                case measure => simp only [World.iterPos, hit4, hit]; omega
          · have hp1 : ((pos : Int) == 0) = false := by simp; omega
            rw [if_neg hp] at hN
            have hq : (if pos + 3 = 0 then (2 : Int) else 3) = 3 := if_neg (by omega)
            have HN := hide' hN
            have HA := hide' hA
            clear hN hA hp
            cases nm
            · cases al
              · go_wp2_with fail
                have hW3 := hW2
                have hB3 := hB2
                have hit3 := hit2
                have hi3 := hi1
                have hB4 := hB3
                have hit4 := hit3
                go_roundw
                case rel => exact ⟨pos + 3, q, false, false, rfl, rfl, hit4, by rw [← HN.out]; rfl, by rw [← HA.out]; rfl, HV.out, by omega, hB4⟩
                case measure => simp only [World.iterPos, hit4, hit]; omega
              · go_wp2_with fail
                have hW3 := hW2
                have hB3 := hB2
                have hit3 := hit2
                have hi3 := hi1
                refine (cI 0 65533 _ hW3).mono ?_
                rintro e v1 ⟨rfl, hv1⟩
                have hB4 := hB3.trans (hv1.mono (Nat.le_of_lt hi3))
                have hit4 := (hv1.block w0.heap.size hi3).trans hit3
                go_wp2_with fail
                go_roundw
                case rel => exact ⟨pos + 3, q, false, _, rfl, rfl, hit4, by rw [← HN.out]; rfl, by rw [← HA.out]; simp, HV.out, by omega, hB4⟩
                case measure => simp only [World.iterPos, hit4, hit]; omega
            · cases al
              · go_wp2_with fail
                refine (cI 3 65533 _ hW2).mono ?_
                rintro e w1 ⟨rfl, hb1⟩
                have hW3 := hW2.trans (hb1.mono hW2.size)
                have hB3 := hB2.trans (hb1.mono (Nat.le_of_lt hi1))
                have hit3 := (hb1.block w0.heap.size hi1).trans hit2
                have hi3 : w0.heap.size < w1.heap.size := Nat.lt_of_lt_of_le hi1 hb1.size
                go_wp2_with fail
                have hB4 := hB3
                have hit4 := hit3
                go_roundw
                case rel => exact ⟨pos + 3, q, _, false, rfl, rfl, hit4, by rw [hq, ← HN.out]; simp, by rw [← HA.out]; rfl, HV.out, by omega, hB4⟩
                case measure => simp only [World.iterPos, hit4, hit]; omega
              · go_wp2_with fail
                refine (cI 3 65533 _ hW2).mono ?_
                rintro e w1 ⟨rfl, hb1⟩
                have hW3 := hW2.trans (hb1.mono hW2.size)
                have hB3 := hB2.trans (hb1.mono (Nat.le_of_lt hi1))
                have hit3 := (hb1.block w0.heap.size hi1).trans hit2
                have hi3 : w0.heap.size < w1.heap.size := Nat.lt_of_lt_of_le hi1 hb1.size
                go_wp2_with fail
                refine (cI 0 65533 _ hW3).mono ?_
                rintro e v1 ⟨rfl, hv1⟩
                have hB4 := hB3.trans (hv1.mono (Nat.le_of_lt hi3))
                have hit4 := (hv1.block w0.heap.size hi3).trans hit3
                go_wp2_with fail
                go_roundw
                case rel => exact ⟨pos + 3, q, _, _, rfl, rfl, hit4, by rw [hq, ← HN.out]; simp, by rw [← HA.out]; simp, HV.out, by omega, hB4⟩
                case measure => simp only [World.iterPos, hit4, hit]; omega
      · have hre : ((r : Int) == 65533) = false := by simp; omega
        rw [if_neg (fun h => hr h.1)] at hV
        clear hcut hr
        have HV := hide' hV
        clear hV cM cX hfd
        by_cases hp : pos = 0
        · have hp1 : ((pos : Int) == 0) = true := by simp; omega
          rw [if_pos hp] at hN
          have hq : (if pos + d = 0 then (2 : Int) else 3) = 3 := if_neg (by omega)
          have HN := hide' hN
          have HA := hide' hA
          clear hN hA hp
          cases nm
          · cases al
            · go_wp2_with fail
              have hW3 := hW2
              have hB3 := hB2
              have hit3 := hit2
              have hi3 := hi1
              have hB4 := hB3
              have hit4 := hit3
              go_roundw
              case rel => exact ⟨pos + d, q, false, false, rfl, rfl, hit4, by rw [← HN.out]; rfl, by rw [← HA.out]; rfl, HV.out, by omega, hB4⟩
              case measure => simp only [World.iterPos, hit4, hit]; omega
            · go_wp2_with fail
              have hW3 := hW2
              have hB3 := hB2
              have hit3 := hit2
              have hi3 := hi1
              refine (cI 0 r _ hW3).mono ?_
              rintro e v1 ⟨rfl, hv1⟩
              have hB4 := hB3.trans (hv1.mono (Nat.le_of_lt hi3))
              have hit4 := (hv1.block w0.heap.size hi3).trans hit3
              go_wp2_with fail
              go_roundw
              case rel => exact ⟨pos + d, q, false, _, rfl, rfl, hit4, by rw [← HN.out]; rfl, by rw [← HA.out]; simp, HV.out, by omega, hB4⟩
              case measure => simp only [World.iterPos, hit4, hit]; omega
          · cases al
            · go_wp2_with fail
              refine (cI 2 r _ hW2).mono ?_
              rintro e w1 ⟨rfl, hb1⟩
              have hW3 := hW2.trans (hb1.mono hW2.size)
              have hB3 := hB2.trans (hb1.mono (Nat.le_of_lt hi1))
              have hit3 := (hb1.block w0.heap.size hi1).trans hit2
              have hi3 : w0.heap.size < w1.heap.size := Nat.lt_of_lt_of_le hi1 hb1.size
              go_wp2_with fail
              have hB4 := hB3
              have hit4 := hit3
              go_roundw
              case rel => exact ⟨pos + d, q, _, false, rfl, rfl, hit4, by rw [hq, ← HN.out]; simp, by rw [← HA.out]; rfl, HV.out, by omega, hB4⟩
              case measure => simp only [World.iterPos, hit4, hit]; omega
            · go_wp2_with fail
              refine (cI 2 r _ hW2).mono ?_
              rintro e w1 ⟨rfl, hb1⟩
              have hW3 := hW2.trans (hb1.mono hW2.size)
              have hB3 := hB2.trans (hb1.mono (Nat.le_of_lt hi1))
              have hit3 := (hb1.block w0.heap.size hi1).trans hit2
              have hi3 : w0.heap.size < w1.heap.size := Nat.lt_of_lt_of_le hi1 hb1.size
              go_wp2_with fail
              refine (cI 0 r _ hW3).mono ?_
              rintro e v1 ⟨rfl, hv1⟩
              have hB4 := hB3.trans (hv1.mono (Nat.le_of_lt hi3))
              have hit4 := (hv1.block w0.heap.size hi3).trans hit3
              go_wp2_with fail
              go_roundw
              case rel => exact ⟨pos + d, q, _, _, rfl, rfl, hit4, by rw [hq, ← HN.out]; simp, by rw [← HA.out]; simp, HV.out, by omega, hB4⟩
              case measure => simp only [World.iterPos, hit4, hit]; omega
        · have hp1 : ((pos : Int) == 0) = false := by simp; omega
          rw [if_neg hp] at hN
          have hq : (if pos + d = 0 then (2 : Int) else 3) = 3 := if_neg (by omega)
          have HN := hide' hN
          have HA := hide' hA
          clear hN hA hp
          cases nm
          · cases al
            · go_wp2_with fail
              have hW3 := hW2
              have hB3 := hB2
              have hit3 := hit2
              have hi3 := hi1
              have hB4 := hB3
              have hit4 := hit3
              go_roundw
              case rel => exact ⟨pos + d, q, false, false, rfl, rfl, hit4, by rw [← HN.out]; rfl, by rw [← HA.out]; rfl, HV.out, by omega, hB4⟩
              case measure => simp only [World.iterPos, hit4, hit]; omega
            · go_wp2_with fail
              have hW3 := hW2
              have hB3 := hB2
              have hit3 := hit2
              have hi3 := hi1
              refine (cI 0 r _ hW3).mono ?_
              rintro e v1 ⟨rfl, hv1⟩
              have hB4 := hB3.trans (hv1.mono (Nat.le_of_lt hi3))
              have hit4 := (hv1.block w0.heap.size hi3).trans hit3
              go_wp2_with fail
              go_roundw
              case rel => exact ⟨pos + d, q, false, _, rfl, rfl, hit4, by rw [← HN.out]; rfl, by rw [← HA.out]; simp, HV.out, by omega, hB4⟩
              case measure => simp only [World.iterPos, hit4, hit]; omega
          · cases al
            · go_wp2_with fail
              refine (cI 3 r _ hW2).mono ?_
              rintro e w1 ⟨rfl, hb1⟩
              have hW3 := hW2.trans (hb1.mono hW2.size)
              have hB3 := hB2.trans (hb1.mono (Nat.le_of_lt hi1))
              have hit3 := (hb1.block w0.heap.size hi1).trans hit2
              have hi3 : w0.heap.size < w1.heap.size := Nat.lt_of_lt_of_le hi1 hb1.size
              go_wp2_with fail
              have hB4 := hB3
              have hit4 := hit3
              go_roundw
              case rel => exact ⟨pos + d, q, _, false, rfl, rfl, hit4, by rw [hq, ← HN.out]; simp, by rw [← HA.out]; rfl, HV.out, by omega, hB4⟩
              case measure => simp only [World.iterPos, hit4, hit]; omega
            · go_wp2_with fail
              refine (cI 3 r _ hW2).mono ?_
              rintro e w1 ⟨rfl, hb1⟩
              have hW3 := hW2.trans (hb1.mono hW2.size)
              have hB3 := hB2.trans (hb1.mono (Nat.le_of_lt hi1))
              have hit3 := (hb1.block w0.heap.size hi1).trans hit2
              have hi3 : w0.heap.size < w1.heap.size := Nat.lt_of_lt_of_le hi1 hb1.size
              go_wp2_with fail
              refine (cI 0 r _ hW3).mono ?_
              rintro e v1 ⟨rfl, hv1⟩
              have hB4 := hB3.trans (hv1.mono (Nat.le_of_lt hi3))
              have hit4 := (hv1.block w0.heap.size hi3).trans hit3
              go_wp2_with fail
              go_roundw
              case rel => exact ⟨pos + d, q, _, _, rfl, rfl, hit4, by rw [hq, ← HN.out]; simp, by rw [← HA.out]; simp, HV.out, by omega, hB4⟩
              case measure => simp only [World.iterPos, hit4, hit]; omega
    · have hnx : ∀ ty, (Instr.next (.pointer (some ⟨w0.heap.size, 0, none⟩)) true ty).run Tryd.prog wr = _ := fun ty => Lib.run_next_end_at wr w0.heap.size (Rn.arr f n) pos ty hit (by rw [hsz]; exact hlt)
      rw [Ch.allFrom_end _ _ _ _ _ _ hlt, Bool.and_true] at hN hA
      rw [Ch.V_end _ _ _ hlt] at hV
      rw [← hV] at cM cX
      have hW := hb0.trans (hB.mono hs0)
      have hx1 : (Ch.allFrom f n 3 n 0 2 && (decide (0 < n) && true)) = nm := by
        rw [hN, show decide (0 < n) = !decide (n = 0) from by
          by_cases h : n = 0
          · simp [h]
          · simp [h]; omega, Bool.and_true, Bool.and_comm]
      rw [hx1] at cM
      rw [← hA, Bool.and_true] at cX
      have t1 : (nm == nm) = true := by simp
      have t2 : (al == al) = true := by simp
      clear hN hA hV hx1 cI
      go_wp2_with fail
      refine (cM _ hW).mono ?_
      rintro e w1 ⟨rfl, hb1⟩
      have hW3 := hW.trans (hb1.mono hW.size)
      go_wp2_with fail
      refine (cX w1 hW3).mono ?_
      rintro e w2 ⟨rfl, hb2⟩
      go_wp2_with fail
      go_ret
      exact ⟨ret_bool (by simp), hW3.trans (hb2.mono hW3.size)⟩
end Go.Proofs.YtinehnbjdlmopabDoor
