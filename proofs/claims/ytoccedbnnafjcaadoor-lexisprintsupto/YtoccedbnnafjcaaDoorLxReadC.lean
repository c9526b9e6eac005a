/-
  WALKS over lexis.readSign and readWord.
-/
import Derived.Test.YtoccedbnnafjcaaDoorLxReadB
namespace Go.Proofs.YtoccedbnnafjcaaDoor
open Go.RowKit Go.Lib

/-- the program's signs lie in memory -/
def Signs (w : World) : Prop := ∀ i s, Lx.sgs[i]? = some s → w.cell? ⟨4, i, none⟩ = some (.string (Lx.bt s))
theorem Signs.below {w w' : World} {B : Nat} (h : Signs w) (hb : Below B w w') (hB : w.heap.size ≤ B) : Signs w' := fun i s hs =>
  (hb.cell (p := ⟨4, i, none⟩) (Nat.lt_of_lt_of_le (block_lt_of_cell (h i s hs)) hB)).trans (h i s hs)
namespace Lx
def sgV : List Value := sgs.map fun s => .string (bt s)
theorem sgV_range {w : World} (h : Signs w) : w.rangeAt 4 0 sgV := by
  intro j v hv
  unfold sgV at hv
  rw [List.getElem?_map] at hv
  obtain ⟨s, hs, rfl⟩ := Option.map_eq_some_iff.1 hv
  rw [Nat.zero_add]
  exact h j s hs
theorem sgInfo : (Tryd.prog.info? 138).map (·.size) = some 15 := by kernel_rfl
theorem pre_eq (f : Nat → Nat) (hf : ∀ j, f j < 256) : ∀ (l : List Nat), (∀ c ∈ l, c < 256) → ∀ n (g : Nat → Nat), (∀ j, g j < 256) → Lib.hasPrefix (Rn.arr g n).data.toList (bt l).data.toList = pre g n l
  | [], _, n, g, hg => by simp [bt, pre, Lib.hasPrefix]
  | c :: l, hc, n, g, hg => by
    have hl := pre_eq f hf l (fun c h => hc c (by simp [h])) (n - 1) (Rn.off g 1) (fun _ => hg _)
    have hc0 := hc c (by simp)
    have hg0 := hg 0
    unfold pre
    cases n with
    | zero => simp [bt, Lib.hasPrefix, Rn.arr]
    | succ m =>
      have e : (Rn.arr g (m + 1)).data.toList = (g 0).toUInt8 :: (Rn.arr (Rn.off g 1) m).data.toList := by
        simp only [Rn.arr, Array.toList_ofFn, List.ofFn_succ, Rn.off]
        simp [Nat.add_comm]
      have e2 : (bt (c :: l)).data.toList = c.toUInt8 :: (bt l).data.toList := by simp [bt]
      rw [Nat.add_sub_cancel] at hl
      rw [e, e2, Nat.add_sub_cancel, ← hl]
      unfold Lib.hasPrefix
      have : (c.toUInt8 == (g 0).toUInt8) = decide (0 < m + 1 ∧ g 0 = c) := by
        rw [Bool.eq_iff_iff]
        simp only [beq_iff_eq, decide_eq_true_eq]
        constructor
        · intro h
          have := congrArg UInt8.toNat h
          simp at this
          omega
        · rintro ⟨_, rfl⟩; rfl
      simp [List.isPrefixOf, this]
theorem sg_index (W : World) : ∀ (k : Nat) (s : List Nat), sgs[k]? = some s → (Instr.index 138 (.agg sgV.toArray) (.int .i64 (k : Nat))).run Tryd.prog W = .ok (.string (bt s)) W
  | 0, _, h => by cases h; kernel_rfl
  | 1, _, h => by cases h; kernel_rfl
  | 2, _, h => by cases h; kernel_rfl
  | 3, _, h => by cases h; kernel_rfl
  | 4, _, h => by cases h; kernel_rfl
  | 5, _, h => by cases h; kernel_rfl
  | 6, _, h => by cases h; kernel_rfl
  | 7, _, h => by cases h; kernel_rfl
  | 8, _, h => by cases h; kernel_rfl
  | 9, _, h => by cases h; kernel_rfl
  | 10, _, h => by cases h; kernel_rfl
  | 11, _, h => by cases h; kernel_rfl
  | 12, _, h => by cases h; kernel_rfl
  | 13, _, h => by cases h; kernel_rfl
  | 14, _, h => by cases h; kernel_rfl
  | k + 15, _, h => by simp [sgs] at h
theorem sgs_low : ∀ s ∈ sgs, ∀ c ∈ s, c < 256 := by decide
theorem sgs_size : ∀ s ∈ sgs, (bt s).size = s.length ∧ 0 < s.length ∧ s.length ≤ 2 := by decide
end Lx

set_option maxRecDepth 100000 in
set_option maxHeartbeats 2000000 in
theorem readSign_any (f : Nat → Nat) (n : Nat) (w : World) (hf : ∀ j, f j < 256) (hG : Signs w) :
    Calls Tryd.prog 47 #[.string (Rn.arr f n)] w fun e w' => e = .returned (Lx.rdSgn f n Lx.sgs).ans ∧ Below w.heap.size w w' := by
  obtain ⟨ANS, hANS⟩ : ∃ ANS, Lx.rdSgn f n Lx.sgs = ANS := ⟨_, rfl⟩
  rw [hANS]
  have HA := hide' hANS
  have HN := Lx.Emp.new w
  have HG := hide' (Lx.sgV_range (hG.below HN.2 (Nat.le_refl _)))
  have cP : ∀ s w1, _ := fun s w1 => Tryd.strings_HasPrefix (Rn.arr f n) (Lx.bt s) w1
  have hP : ∀ s ∈ Lx.sgs, Lib.hasPrefix (Rn.arr f n).data.toList (Lx.bt s).data.toList = Lx.pre f n s := fun s hs => Lx.pre_eq f hf s (Lx.sgs_low s hs) n f hf
  obtain ⟨SG, hSG⟩ : ∃ SG, Lx.sgV.toArray = SG := ⟨_, rfl⟩
  have hix : ∀ (k : Nat) (s : List Nat), Lx.sgs[k]? = some s → ∀ W, (Instr.index 138 (.agg SG) (.int .i64 (k : Nat))).run Tryd.prog W = .ok (.string (Lx.bt s)) W := fun k s h W => by rw [← hSG]; exact Lx.sg_index W k s h
  have HSG := hide' hSG
  have HNh := hide' HN
  clear hG hSG hANS HN
  go_enter Tryd.func47, Tryd.ntmps47
  go_wp2_with (refine wpList_load_mid rfl 138 (.global 4) rfl 4 0 rfl Lx.sgV _ HG.out Tryd.underlying138 rfl Lx.sgInfo ?_; rw [HSG.out])
  go_loopw [8] (fun v wr => ∃ k : Nat, v = .int .i64 k ∧ k ≤ 15 ∧ Lx.rdSgn f n (Lx.sgs.drop k) = ANS ∧ Lx.Emp w wr) (fun v _ => 15 - (RowKit.intOf v).toNat)
  case atStart => exact ⟨0, rfl, by omega, HA.out, HNh.out⟩
  case round =>
    obtain ⟨k, rfl, hk, hpre, HE⟩ := hrel
    have HEh := hide' HE
    clear HE HNh HG
    by_cases hlt : k < 15
    · have hkl : k < Lx.sgs.length := hlt
      have hm := List.getElem_mem hkl
      have hi := hix k _ (List.getElem?_eq_getElem hkl)
      have hp := hP _ hm
      have hz := Lx.sgs_size _ hm
      have c := cP Lx.sgs[k] wr
      rw [hp] at c
      rw [List.drop_eq_getElem_cons hkl] at hpre
      generalize Lx.sgs[k] = s at *
      have g1 : (k : Int) < 15 := by omega
      have hz1 := hz.1
      have HZ := hide' hz
      clear hix hP cP hkl hm hp hz
      cases hpr : Lx.pre f n s
      · rw [hpr] at c
        have hpre2 : Lx.rdSgn f n (Lx.sgs.drop (k + 1)) = ANS := by
          rw [← hpre]
          show _ = (if _ then _ else _)
          rw [if_neg (by rw [hpr]; simp)]
        have HP := hide' hpre2
        clear hpre hpre2 hpr
        go_wp2_with fail
        refine c.mono ?_
        rintro e w1 ⟨rfl, rfl⟩
        go_wp2_with fail
        go_roundw
        case rel => exact ⟨k + 1, by go_num, by omega, HP.out, HEh.out⟩
        case measure => simp [RowKit.intOf]; omega
      · rw [hpr] at c
        have hpre2 : Lx.Wd.mk 3 (Lx.bt s) 0 s.length true = ANS := by
          rw [← hpre]
          show _ = (if _ then _ else _)
          rw [if_pos hpr]
        have HP := hide' hpre2
        clear hpre hpre2 hpr
        go_wp2_with fail
        refine c.mono ?_
        rintro e w1 ⟨rfl, rfl⟩
        go_wp2_with (refine wpList_store_mid rfl 43 (.tmp 2) (.tmp 15) rfl w.heap.size 0 (Lx.wdC 3 (Lx.bt s) 0 (0, 0, 0, 0)) rfl rfl HEh.out.there Lx.wdInfo (Lx.wdOne _ _ _ _) ?_)
        exact bodyPost_ret (v := (Lx.Wd.mk 3 (Lx.bt s) 0 s.length true).ans) (Lx.results_word Tryd.results47 _ ⟨w.heap.size, 0, none⟩ rfl _ _ _ _ (HEh.out.load _ _ _ _) (by simp) rfl) rfl ⟨by rw [HP.out], HEh.out.fin _⟩
    · obtain rfl : k = 15 := by omega
      have HP : Hid (Lx.Wd.mk 0 ⟨#[]⟩ 0 0 false = ANS) := hide' (by rw [← hpre]; rfl)
      clear hpre hix hP cP
      go_wp2_with (refine wpList_store_mid rfl 43 (.tmp 2) (.tmp 19) rfl w.heap.size 0 (Lx.wdC 0 ⟨#[]⟩ 0 (0, 0, 0, 0)) rfl rfl HEh.out.there Lx.wdInfo (Lx.wdOne _ _ _ _) ?_)
      exact bodyPost_ret (v := (Lx.Wd.mk 0 ⟨#[]⟩ 0 0 false).ans) (Lx.results_word Tryd.results47 _ ⟨w.heap.size, 0, none⟩ rfl _ _ _ _ (HEh.out.load _ _ _ _) rfl rfl) rfl ⟨by rw [HP.out], HEh.out.fin _⟩
end Go.Proofs.YtoccedbnnafjcaaDoor
