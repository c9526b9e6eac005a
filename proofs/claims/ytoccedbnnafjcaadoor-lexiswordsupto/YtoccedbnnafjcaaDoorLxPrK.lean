import Derived.Test.YtoccedbnnafjcaaDoorLxPrB
import Derived.Test.YtoccedbnnafjcaaDoorChArg
import Derived.Deep.RegionHeld3
import Derived.Deep.QuietTactic
/-
  THE WALK over gimletref10.number.
-/
namespace Go.Proofs.YtoccedbnnafjcaaDoor
open Go.RowKit Go.Lib
namespace Lx
theorem conv_one {b v : Nat} {W : World} (hv : v < 256) (h : W.cell? ⟨b, 0, none⟩ = some (.int .u8 (v : Nat))) : (convert 22 9 (.slice (some ⟨b, 0, none⟩) 1 1)).run Tryd.prog W = .ok (.string ⟨#[UInt8.ofNat v]⟩) W := by
  have hA : ArgS W (fun _ => v) 1 (.slice (some ⟨b, 0, none⟩) 1 1) := .some _ _ (Nat.le_refl _) (by unfold maxLen; omega) (fun j hj => (by rw [show j = 0 by omega]; exact h)) (fun _ => ⟨_, _, rfl⟩)
  exact hA.text (fun _ => hv)
theorem conv_new (v : Nat) (W : World) (hv : v < 256) : (convert 22 9 (.slice (some ⟨W.heap.size, 0, none⟩) 1 1)).run Tryd.prog (W.alloc (.cells #[.int .u8 (v : Nat)] 5)) = .ok (.string ⟨#[UInt8.ofNat v]⟩) (W.alloc (.cells #[.int .u8 (v : Nat)] 5)) :=
  conv_one hv (by rw [Lib.cell_of_heap (heap_new W _)]; rfl)
theorem conv_old {v : Nat} {W W5 : World} (hv : v < 256) (hb : Below (W.alloc (.cells #[.int .u8 (v : Nat)] 5)).heap.size (W.alloc (.cells #[.int .u8 (v : Nat)] 5)) W5) : (convert 22 9 (.slice (some ⟨W.heap.size, 0, none⟩) 1 1)).run Tryd.prog W5 = .ok (.string ⟨#[UInt8.ofNat v]⟩) W5 :=
  conv_one hv ((hb.cell (p := ⟨W.heap.size, 0, none⟩) (by simp)).trans (by rw [Lib.cell_of_heap (heap_new W _)]; rfl))
end Lx
set_option maxRecDepth 100000 in
set_option maxHeartbeats 4000000 in
theorem refNumber_small (u : Nat) (w : World) (hu : u < 10) :
    Calls Tryd.prog 39 #[.int .i64 u] w fun e w' => e = .returned (.string ⟨(Lib.decDigits u).toArray⟩) ∧ Below w.heap.size w w' := by
  rw [Lib.decDigits_one hu]
  have g1 : ¬ (u : Int) < 0 := by omega
  have g2 : ¬ (9 : Int) < u := by omega
  have g3 : IntKind.i64.wrap (48 + (u : Int)) = 48 + u := by rw [IntKind.wrap_i64]; omega
  have g4 : IntKind.u8.wrap (48 + (u : Int)) = 48 + u := by rw [IntKind.wrap_u8]; omega
  have k := Lx.conv_new (48 + u) w (by omega)
  rw [show ((48 + u : Nat) : Int) = 48 + (u : Int) by omega] at k
  have hb := hide' ((Below.refl w.heap.size w).alloc (Nat.le_refl _) (.cells #[.int .u8 (48 + (u : Int))] 5))
  go_enter Tryd.func39, Tryd.ntmps39
  go_wp2
  go_ret
  exact ⟨rfl, hb.out⟩
set_option maxRecDepth 100000 in
set_option maxHeartbeats 4000000 in
theorem refNumber_big (u q r : Nat) (w : World) (hu : (u : Int) ≤ 9223372036854775807) (h9 : (9 : Int) < u) (hq : (u : Int).tdiv 10 = q) (hr : (u : Int).tmod 10 = r) (hr9 : r < 10) (hqu : q ≤ u) (ss : ByteArray) (hs : ss.size ≤ 100)
    (ih : ∀ W, Calls Tryd.prog 39 #[.int .i64 q] W fun e w' => e = .returned (.string ss) ∧ Below W.heap.size W w') :
    Calls Tryd.prog 39 #[.int .i64 u] w fun e w' => e = .returned (.string (ss ++ ⟨#[UInt8.ofNat (48 + r)]⟩)) ∧ Below w.heap.size w w' := by
  have g1 : ¬ (u : Int) < 0 := by omega
  have g3 : IntKind.i64.wrap (48 + (r : Int)) = 48 + r := by rw [IntKind.wrap_i64]; omega
  have g4 : IntKind.u8.wrap (48 + (r : Int)) = 48 + r := by rw [IntKind.wrap_u8]; omega
  have hv : 48 + r < 256 := by omega
  have er : ((48 + r : Nat) : Int) = 48 + (r : Int) := by omega
  have kN : ∀ W, _ := fun W => Lx.conv_new (48 + r) W hv
  have kO : ∀ W W5, _ := fun W W5 => Lx.conv_old (v := 48 + r) (W := W) (W5 := W5) hv
  rw [er] at kN kO
  clear er hv
  have z2 : ss.size + 1 ≤ 9223372036854775807 := by omega
  clear hs
  have k0 := kN w.drew
  have IH := hide' ih
  have KN := hide' kN
  have KO := hide' kO
  clear ih kN kO
  go_enter Tryd.func39, Tryd.ntmps39
  go_wp2_with fail
  obtain ⟨S', hSd⟩ : ∃ S' : World → Prop, S' = fun W' => Below w.heap.size w W' := ⟨_, rfl⟩
  have hSB : ∀ W' W8, S' W' → Below W'.heap.size W' W8 → S' W8 := fun W' W8 h hb => by rw [hSd] at h ⊢; exact h.trans (hb.mono h.size)
  have hSA : ∀ W', S' W' → ∀ o, S' (W'.alloc o) := fun W' h o => hSB _ _ h ((Below.refl _ _).alloc (Nat.le_refl _) o)
  have hS0 : S' w.drew := by rw [hSd]; exact (Below.refl _ _).drew
  have HSD := hide' hSd
  clear hSd k0
  refine wp_region_held_drew (S := S') (by kernel_rfl) hS0 (fun hHeld => ?_)
  simp only [List.size_toArray, List.length_cons, List.length_nil, Nat.reduceAdd]
  generalize w.drew = W0 at hHeld hS0 ⊢
  clear hS0
  refine wpAnyH_take (i := 0) (v := .int .i64 (u : Nat)) rfl (by kernel_rfl) (by kernel_rfl) (by kernel_rfl) (fun _ _ _ h => h) (Or.inl ⟨by rfl, ?y1⟩) (by assumption) ?_
  case y1 => (intro w' hSw; go_simp; (try rfl); all_goals first | omega | (rw [IntKind.wrap_i64]; omega))
  try simp only [List.getElem_toArray, List.getElem_cons_zero, Act.put, List.setIfInBounds_toArray, List.set_cons_zero, List.set_cons_succ]
  refine wpAnyH_take (i := 1) (v := .int .i64 (q : Nat)) rfl (by kernel_rfl) (by kernel_rfl) (by kernel_rfl) (fun _ _ _ h => h) (Or.inl ⟨by rfl, ?y2⟩) (by assumption) ?_
  case y2 => (intro w' hSw; go_simp; (try rfl); all_goals first | omega | (rw [IntKind.wrap_i64]; omega))
  try simp only [List.getElem_toArray, List.getElem_cons_zero, List.getElem_cons_succ, Act.put, List.setIfInBounds_toArray, List.set_cons_zero, List.set_cons_succ]
  refine wpAnyH_take (i := 3) (v := .int .i64 (u : Nat)) rfl (by kernel_rfl) (by kernel_rfl) (by kernel_rfl) (fun _ _ _ h => h) (Or.inl ⟨by rfl, ?y3⟩) (by assumption) ?_
  case y3 => (intro w' hSw; go_simp; (try rfl); all_goals first | omega | (rw [IntKind.wrap_i64]; omega))
  try simp only [List.getElem_toArray, List.getElem_cons_zero, List.getElem_cons_succ, Act.put, List.setIfInBounds_toArray, List.set_cons_zero, List.set_cons_succ]
  refine wpAnyH_take (i := 4) (v := .int .i64 (r : Nat)) rfl (by kernel_rfl) (by kernel_rfl) (by kernel_rfl) (fun _ _ _ h => h) (Or.inl ⟨by rfl, ?y4⟩) (by assumption) ?_
  case y4 => (intro w' hSw; go_simp; (try rfl); all_goals first | omega | (rw [IntKind.wrap_i64]; omega))
  try simp only [List.getElem_toArray, List.getElem_cons_zero, List.getElem_cons_succ, Act.put, List.setIfInBounds_toArray, List.set_cons_zero, List.set_cons_succ]
  refine wpAnyH_take (i := 5) (v := .int .i64 (48 + (r : Int))) rfl (by kernel_rfl) (by kernel_rfl) (by kernel_rfl) (fun _ _ _ h => h) (Or.inl ⟨by rfl, ?y5⟩) (by assumption) ?_
  case y5 => (intro w' hSw; go_simp; (try rfl); all_goals first | omega | (rw [IntKind.wrap_i64]; omega))
  try simp only [List.getElem_toArray, List.getElem_cons_zero, List.getElem_cons_succ, Act.put, List.setIfInBounds_toArray, List.set_cons_zero, List.set_cons_succ]
  refine wpAnyH_take (i := 6) (v := .int .u8 (48 + (r : Int))) rfl (by kernel_rfl) (by kernel_rfl) (by kernel_rfl) (fun _ _ _ h => h) (Or.inl ⟨by rfl, ?y6⟩) (by assumption) ?_
  case y6 => (intro w' hSw; go_simp; (try rfl); all_goals first | omega | (rw [IntKind.wrap_i64]; omega))
  try simp only [List.getElem_toArray, List.getElem_cons_zero, List.getElem_cons_succ, Act.put, List.setIfInBounds_toArray, List.set_cons_zero, List.set_cons_succ]
  refine wpAnyH_ready (rs := [2, 7]) (by kernel_rfl) (by simp) ?_
  refine AllReadyH.cons rfl (fun K hK => ?_) ?_
  · skip
    try simp only [List.getElem_toArray, List.getElem_cons_zero, List.getElem_cons_succ]
    go_simp
    refine (IH.out _).mono ?_
    rintro e W1 ⟨rfl, hb1⟩
    go_wp2_with fail
    have hSW1 := hSB _ _ hHeld hb1
    refine hK.out _ _ hSW1 (fun hHeldZ => ?_)
    clear hK K
    try simp only [List.getElem_toArray, List.getElem_cons_zero, List.getElem_cons_succ, Act.put, List.setIfInBounds_toArray, List.set_cons_zero, List.set_cons_succ]
    refine wpAnyH_ready (rs := [7]) (by kernel_rfl) (by simp) ?_
    refine AllReadyH.cons rfl (fun K hK => ?_) AllReadyH.nil
    try simp only [List.getElem_toArray, List.getElem_cons_zero, List.getElem_cons_succ]
    go_simp
    have hSW2 := hSA _ hSW1 (.cells #[.int .u8 (48 + (r : Int))] 5)
    refine hK.out _ _ hSW2 (fun hHeldZ => ?_)
    clear hK K
    try simp only [List.getElem_toArray, List.getElem_cons_zero, List.getElem_cons_succ, Act.put, List.setIfInBounds_toArray, List.set_cons_zero, List.set_cons_succ]
    refine wpAnyH_ready (rs := [8]) (by kernel_rfl) (by simp) ?_
    refine AllReadyH.cons rfl (fun K hK => ?_) AllReadyH.nil
    try simp only [List.getElem_toArray, List.getElem_cons_zero, List.getElem_cons_succ]
    have kc := KN.out W1
    go_simp
    refine hK.out _ _ hSW2 (fun hHeldZ => ?_)
    clear hK K kc
    try simp only [List.getElem_toArray, List.getElem_cons_zero, List.getElem_cons_succ, Act.put, List.setIfInBounds_toArray, List.set_cons_zero, List.set_cons_succ]
    refine wpAnyH_take (i := 9) (v := .string (ss ++ ⟨#[UInt8.ofNat (48 + r)]⟩)) rfl (by kernel_rfl) (by kernel_rfl) (by kernel_rfl) (fun _ _ _ h => h) (Or.inl ⟨by rfl, ?y7⟩) (by assumption) ?_
    case y7 => (intro w' hSw; go_simp; (try rfl); all_goals first | omega | (rw [IntKind.wrap_i64]; omega))
    try simp only [List.getElem_toArray, List.getElem_cons_zero, List.getElem_cons_succ, Act.put, List.setIfInBounds_toArray, List.set_cons_zero, List.set_cons_succ]
    refine wpAnyH_take (i := 10) (v := .string (ss ++ ⟨#[UInt8.ofNat (48 + r)]⟩)) rfl (by kernel_rfl) (by kernel_rfl) (by kernel_rfl) (fun _ _ _ h => h) (Or.inl ⟨by rfl, ?y8⟩) (by assumption) ?_
    case y8 => (intro w' hSw; go_simp; (try rfl); all_goals first | omega | (rw [IntKind.wrap_i64]; omega))
    try simp only [List.getElem_toArray, List.getElem_cons_zero, List.getElem_cons_succ, Act.put, List.setIfInBounds_toArray, List.set_cons_zero, List.set_cons_succ]
    refine wpAnyH_done (by kernel_rfl) ?_ _
    have hX := hHeldZ
    rw [HSD.out] at hX
    go_wp2
    go_ret
    exact ⟨rfl, hX⟩
  refine AllReadyH.cons rfl (fun K hK => ?_) AllReadyH.nil
  try simp only [List.getElem_toArray, List.getElem_cons_zero, List.getElem_cons_succ]
  go_simp
  have hSW2 := hSA _ hHeld (.cells #[.int .u8 (48 + (r : Int))] 5)
  refine hK.out _ _ hSW2 (fun hHeldZ => ?_)
  clear hK K
  try simp only [List.getElem_toArray, List.getElem_cons_zero, List.getElem_cons_succ, Act.put, List.setIfInBounds_toArray, List.set_cons_zero, List.set_cons_succ]
  refine wpAnyH_ready (rs := [2, 8]) (by kernel_rfl) (by simp) ?_
  refine AllReadyH.cons rfl (fun K hK => ?_) ?_
  · skip
    try simp only [List.getElem_toArray, List.getElem_cons_zero, List.getElem_cons_succ]
    go_simp
    refine (IH.out _).mono ?_
    rintro e W3 ⟨rfl, hb3⟩
    go_wp2_with fail
    have hSW3 := hSB _ _ hSW2 hb3
    refine hK.out _ _ hSW3 (fun hHeldZ => ?_)
    clear hK K
    try simp only [List.getElem_toArray, List.getElem_cons_zero, List.getElem_cons_succ, Act.put, List.setIfInBounds_toArray, List.set_cons_zero, List.set_cons_succ]
    refine wpAnyH_ready (rs := [8]) (by kernel_rfl) (by simp) ?_
    refine AllReadyH.cons rfl (fun K hK => ?_) AllReadyH.nil
    try simp only [List.getElem_toArray, List.getElem_cons_zero, List.getElem_cons_succ]
    have kc := KO.out W0 W3 hb3
    go_simp
    refine hK.out _ _ hSW3 (fun hHeldZ => ?_)
    clear hK K kc
    try simp only [List.getElem_toArray, List.getElem_cons_zero, List.getElem_cons_succ, Act.put, List.setIfInBounds_toArray, List.set_cons_zero, List.set_cons_succ]
    refine wpAnyH_take (i := 9) (v := .string (ss ++ ⟨#[UInt8.ofNat (48 + r)]⟩)) rfl (by kernel_rfl) (by kernel_rfl) (by kernel_rfl) (fun _ _ _ h => h) (Or.inl ⟨by rfl, ?y9⟩) (by assumption) ?_
    case y9 => (intro w' hSw; go_simp; (try rfl); all_goals first | omega | (rw [IntKind.wrap_i64]; omega))
    try simp only [List.getElem_toArray, List.getElem_cons_zero, List.getElem_cons_succ, Act.put, List.setIfInBounds_toArray, List.set_cons_zero, List.set_cons_succ]
    refine wpAnyH_take (i := 10) (v := .string (ss ++ ⟨#[UInt8.ofNat (48 + r)]⟩)) rfl (by kernel_rfl) (by kernel_rfl) (by kernel_rfl) (fun _ _ _ h => h) (Or.inl ⟨by rfl, ?y10⟩) (by assumption) ?_
    case y10 => (intro w' hSw; go_simp; (try rfl); all_goals first | omega | (rw [IntKind.wrap_i64]; omega))
    try simp only [List.getElem_toArray, List.getElem_cons_zero, List.getElem_cons_succ, Act.put, List.setIfInBounds_toArray, List.set_cons_zero, List.set_cons_succ]
    refine wpAnyH_done (by kernel_rfl) ?_ _
    have hX := hHeldZ
    rw [HSD.out] at hX
    go_wp2
    go_ret
    exact ⟨rfl, hX⟩
  refine AllReadyH.cons rfl (fun K hK => ?_) AllReadyH.nil
  try simp only [List.getElem_toArray, List.getElem_cons_zero, List.getElem_cons_succ]
  have kc := KN.out W0
  go_simp
  refine hK.out _ _ hSW2 (fun hHeldZ => ?_)
  clear hK K kc
  try simp only [List.getElem_toArray, List.getElem_cons_zero, List.getElem_cons_succ, Act.put, List.setIfInBounds_toArray, List.set_cons_zero, List.set_cons_succ]
  refine wpAnyH_ready (rs := [2]) (by kernel_rfl) (by simp) ?_
  refine AllReadyH.cons rfl (fun K hK => ?_) AllReadyH.nil
  try simp only [List.getElem_toArray, List.getElem_cons_zero, List.getElem_cons_succ]
  go_simp
  refine (IH.out _).mono ?_
  rintro e W3 ⟨rfl, hb3⟩
  go_wp2_with fail
  have hSW3 := hSB _ _ hSW2 hb3
  refine hK.out _ _ hSW3 (fun hHeldZ => ?_)
  clear hK K
  try simp only [List.getElem_toArray, List.getElem_cons_zero, List.getElem_cons_succ, Act.put, List.setIfInBounds_toArray, List.set_cons_zero, List.set_cons_succ]
  refine wpAnyH_take (i := 9) (v := .string (ss ++ ⟨#[UInt8.ofNat (48 + r)]⟩)) rfl (by kernel_rfl) (by kernel_rfl) (by kernel_rfl) (fun _ _ _ h => h) (Or.inl ⟨by rfl, ?y11⟩) (by assumption) ?_
  case y11 => (intro w' hSw; go_simp; (try rfl); all_goals first | omega | (rw [IntKind.wrap_i64]; omega))
  try simp only [List.getElem_toArray, List.getElem_cons_zero, List.getElem_cons_succ, Act.put, List.setIfInBounds_toArray, List.set_cons_zero, List.set_cons_succ]
  refine wpAnyH_take (i := 10) (v := .string (ss ++ ⟨#[UInt8.ofNat (48 + r)]⟩)) rfl (by kernel_rfl) (by kernel_rfl) (by kernel_rfl) (fun _ _ _ h => h) (Or.inl ⟨by rfl, ?y12⟩) (by assumption) ?_
  case y12 => (intro w' hSw; go_simp; (try rfl); all_goals first | omega | (rw [IntKind.wrap_i64]; omega))
  try simp only [List.getElem_toArray, List.getElem_cons_zero, List.getElem_cons_succ, Act.put, List.setIfInBounds_toArray, List.set_cons_zero, List.set_cons_succ]
  refine wpAnyH_done (by kernel_rfl) ?_ _
  have hX := hHeldZ
  rw [HSD.out] at hX
  go_wp2
  go_ret
  exact ⟨rfl, hX⟩
theorem refNumber_nat (u : Nat) : ∀ (w : World), (u : Int) ≤ 9223372036854775807 →
    Calls Tryd.prog 39 #[.int .i64 u] w fun e w' => e = .returned (.string ⟨(Lib.decDigits u).toArray⟩) ∧ Below w.heap.size w w' := by
  induction u using Nat.strongRecOn with
  | _ u ih =>
    intro w hu
    by_cases h : u < 10
    · exact refNumber_small u w h
    · have e : Lib.decDigits u = Lib.decDigits (u / 10) ++ [UInt8.ofNat (48 + u % 10)] := by rw [Lib.decDigits, dif_neg h]
      have hsz : (⟨(Lib.decDigits (u / 10)).toArray⟩ : ByteArray).size ≤ 100 := by
        have := Lx.nDigits_le 18 (u / 10) (by show u / 10 < 10 ^ 19; have : (10 : Nat) ^ 19 = 10000000000000000000 := by decide
                                              omega)
        show (Lib.decDigits (u / 10)).toArray.size ≤ 100
        simp [Lib.decDigits_length]
        omega
      have := refNumber_big u (u / 10) (u % 10) w hu (by omega) (by rw [Int.tdiv_eq_ediv_of_nonneg (by omega)]; omega) (by rw [Int.tmod_eq_emod_of_nonneg (by omega)]; omega) (by omega) (by omega) _ hsz (fun W => ih (u / 10) (by omega) W (by omega))
      rw [e]
      refine this.mono ?_
      rintro e' w' ⟨rfl, hb⟩
      refine ⟨?_, hb⟩
      congr 2
namespace Lx
theorem dg_min : ((List.range 19).map fun t => Lib.dg 9223372036854775808 (19 - 1 - t)) = [57, 50, 50, 51, 51, 55, 50, 48, 51, 54, 56, 53, 52, 55, 55, 53, 56, 48, 56] := by decide +kernel
theorem itoa_min (n : Int) (hn : n = -((9223372036854775808 : Nat) : Int)) : (⟨(Lib.itoa n).toArray⟩ : ByteArray) = ⟨#[45, 57, 50, 50, 51, 51, 55, 50, 48, 51, 54, 56, 53, 52, 55, 55, 53, 56, 48, 56]⟩ := by
  have e2 : Lib.decDigits 9223372036854775808 = (List.range 19).map fun t => Lib.dg 9223372036854775808 (19 - 1 - t) := by
    rw [Lib.decDigits_eq, Lib.nDigits_unique 18 9223372036854775808 (of_decide_eq_true rfl) (of_decide_eq_true rfl)]
  rw [hn, Lib.itoa_neg 9223372036854775808 (by omega), e2, dg_min]
end Lx
set_option maxRecDepth 100000 in
set_option maxHeartbeats 400000 in
theorem refNumber_min (T : ByteArray) (n : Int) (w : World) (hT : T = ⟨#[45, 57, 50, 50, 51, 51, 55, 50, 48, 51, 54, 56, 53, 52, 55, 55, 53, 56, 48, 56]⟩) (g1 : n < 0) (g2 : IntKind.i64.wrap (-n) = n) :
    Calls Tryd.prog 39 #[.int .i64 n] w fun e w' => e = .returned (.string T) ∧ Below w.heap.size w w' := by
  have HT := hide' hT
  have g3 : (n == n) = true := by simp
  clear hT
  go_enter Tryd.func39, Tryd.ntmps39
  go_wp2
  go_ret
  exact ⟨by rw [HT.out]; kernel_rfl, Below.refl _ _⟩
set_option maxRecDepth 100000 in
set_option maxHeartbeats 400000 in
theorem refNumber_neg (u : Nat) (D : ByteArray) (w : World) (hu1 : 1 ≤ u) (hu2 : (u : Int) ≤ 9223372036854775807) (hz : D.size ≤ 100)
    (c : Calls Tryd.prog 39 #[.int .i64 u] w fun e w' => e = .returned (.string D) ∧ Below w.heap.size w w') :
    Calls Tryd.prog 39 #[.int .i64 (-(u : Int))] w fun e w' => e = .returned (.string ((⟨#[45]⟩ : ByteArray) ++ D)) ∧ Below w.heap.size w w' := by
  have g1 : (-(u : Int)) < 0 := by omega
  have g2 : IntKind.i64.wrap (-(-(u : Int))) = u := by rw [IntKind.wrap_i64]; omega
  have g4 : IntKind.i64.wrap (u : Int) = u := by rw [IntKind.wrap_i64]; omega
  have g3 : ((-(u : Int)) == (u : Int)) = false := by simp; omega
  have h1 : (⟨#[45]⟩ : ByteArray).size + D.size ≤ 9223372036854775807 := by show 1 + D.size ≤ _; omega
  have C := hide' c
  clear c hz hu1
  go_enter Tryd.func39, Tryd.ntmps39
  go_wp2_with fail
  refine C.out.mono ?_
  rintro e w' ⟨rfl, hb⟩
  have HB := hide' hb
  clear C hb
  go_wp2
  go_ret
  exact ⟨rfl, HB.out⟩
theorem refNumber_any (n : Int) (w : World) (h0 : -9223372036854775808 ≤ n) (h1 : n ≤ 9223372036854775807) :
    Calls Tryd.prog 39 #[.int .i64 n] w fun e w' => e = .returned (.string ⟨(Lib.itoa n).toArray⟩) ∧ Below w.heap.size w w' := by
  by_cases hn : n < 0
  · by_cases hm : n = -9223372036854775808
    · exact refNumber_min _ n w (Lx.itoa_min n hm) hn (by rw [IntKind.wrap_i64]; omega)
    · obtain ⟨u, rfl⟩ : ∃ u : Nat, n = -(u : Int) := ⟨n.natAbs, by omega⟩
      have hu1 : 1 ≤ u := by omega
      have hu2 : (u : Int) ≤ 9223372036854775807 := by omega
      have hz : (⟨(Lib.decDigits u).toArray⟩ : ByteArray).size ≤ 100 := by
        have := Lx.nDigits_le 18 u (by show u < 10 ^ 19; have : (10 : Nat) ^ 19 = 10000000000000000000 := by decide
                                       omega)
        show (Lib.decDigits u).toArray.size ≤ _
        simp [Lib.decDigits_length]
        omega
      have hcat : (⟨#[45]⟩ : ByteArray) ++ ⟨(Lib.decDigits u).toArray⟩ = ⟨(45 :: Lib.decDigits u).toArray⟩ := by
        apply ByteArray.ext
        simp [ByteArray.data_append]
      rw [Lib.itoa_neg u hu1, ← hcat]
      exact refNumber_neg u _ w hu1 hu2 hz (refNumber_nat u w hu2)
  · obtain ⟨u, rfl⟩ : ∃ u : Nat, n = (u : Int) := ⟨n.toNat, by omega⟩
    rw [Lib.itoa_nonneg]
    exact refNumber_nat u w h1
end Go.Proofs.YtoccedbnnafjcaaDoor
/-
  THE WALK over gimletref10.Print.
-/
namespace Go.Proofs.YtoccedbnnafjcaaDoor
open Go.RowKit Go.Lib
namespace Lx
/-- the quote behind so many bytes -/
def quoK (tx : ByteArray) (k : Nat) : ByteArray := ⟨#[if (34 : UInt8) ∈ tx.data.toList.take k then 39 else 34]⟩
theorem quoK_zero (tx : ByteArray) : quoK tx 0 = ⟨#[34]⟩ := by unfold quoK; simp
theorem quoK_all (tx : ByteArray) : quoK tx tx.size = ⟨#[quo tx]⟩ := by
  unfold quoK quo
  rw [List.take_of_length_le (by show tx.data.toList.length ≤ tx.data.size; simp)]
theorem quoK_next (tx : ByteArray) (k : Nat) (h : k < tx.size) : quoK tx (k + 1) = if (tx[k] : UInt8) = 34 then ⟨#[39]⟩ else quoK tx k := by
  have hl : k < tx.data.toList.length := by simpa using h
  unfold quoK
  rw [List.take_succ_eq_append_getElem hl]
  have e : tx.data.toList[k] = tx[k] := by simp; rfl
  rw [e]
  by_cases c : tx[k] = 34
  · rw [if_pos c, if_pos (by rw [c]; simp)]
  · rw [if_neg c]
    have hm : (34 : UInt8) ∈ tx.data.toList.take k ++ [tx[k]] ↔ (34 : UInt8) ∈ tx.data.toList.take k := by
      rw [List.mem_append, List.mem_singleton]
      exact ⟨fun h => h.resolve_right (fun e => c e.symm), .inl⟩
    simp only [hm]
theorem pr_first (L : Nat → Int × ByteArray × Int) (i : Nat) (h : i = 0) : pr L (i + 1) = pr L i ++ pt (L i) := by
  subst h
  show pt (L 0) = (⟨#[]⟩ : ByteArray) ++ pt (L 0)
  apply ByteArray.ext
  simp [ByteArray.data_append]
theorem pr_next (L : Nat → Int × ByteArray × Int) (i : Nat) (h : i ≠ 0) : pr L (i + 1) = pr L i ++ ⟨#[32]⟩ ++ pt (L i) := if_neg h
end Lx
set_option maxRecDepth 100000 in
set_option maxHeartbeats 8000000 in
theorem lxRefPrint (v : Value) (n : Nat) (X : Nat → Lx.Wx) (w : World) (hR : Lx.WRow w v n X) (hs : ∀ i, i < n → (X i).tx.size ≤ 1099511627776 ∧ -9223372036854775808 ≤ (X i).nm ∧ (X i).nm ≤ 9223372036854775807) (ht : Lx.tsz (fun i => (X i).key) n ≤ 70368744177664) :
    Calls Tryd.prog 14 #[v] w fun e w' => e = .returned (.string (Lx.pr (fun i => (X i).key) n)) ∧ Below w.heap.size w w' := by
  obtain ⟨p, cap, rfl, c1, c2, c3⟩ := hR
  obtain ⟨L, hL⟩ : ∃ L, L = fun i => (X i).key := ⟨_, rfl⟩
  have hLi : ∀ i, L i = (X i).key := fun i => by rw [hL]
  rw [← hL] at ht ⊢
  clear hL
  have H3 := hide' c3
  have HS := hide' hs
  have HL := hide' hLi
  have HT := hide' ht
  clear c3 hs hLi ht
  go_enter Tryd.func14, Tryd.ntmps14
  go_wp2_with fail
  go_loopw [3, 4] (fun v3 v4 wr => ∃ i : Nat, v3 = .string (Lx.pr L i) ∧ v4 = .int .i64 i ∧ i ≤ n ∧ Below w.heap.size w wr) (fun _ v _ => n - (RowKit.intOf v).toNat)
  case atStart => exact ⟨0, rfl, rfl, Nat.zero_le _, Below.refl _ _⟩
  case round =>
    obtain ⟨i, rfl, rfl, hi, hbr⟩ := hrel
    have HB := hide' hbr
    clear hbr
    obtain ⟨w4, rfl⟩ : ∃ w4, w4 = wr := ⟨_, rfl⟩
    by_cases hlt : i < n
    · have t1 : (i : Int) < (n : Int) := by omega
      obtain ⟨b, o, rfl, kc⟩ := H3.out (by omega)
      have jc : ∀ j u, (X i).cs[j]? = some u → w4.cell? ⟨b, o + i * 7 + j, none⟩ = some u := fun j u h2 => (HB.out.cell (p := ⟨b, o + i * 7 + j, none⟩) (block_lt_of_cell (kc i j u hlt h2))).trans (kc i j u hlt h2)
      obtain ⟨s1, s2, s3⟩ := HS.out i hlt
      have eL := HL.out i
      have hle0 := Lx.pr_le (L := L) (i := i) (n := n) (by omega)
      have hT := HT.out
      have hz : (Lx.pr L i).size ≤ 70368744177664 := by omega
      obtain ⟨x, hx⟩ : ∃ x, X i = x := ⟨_, rfl⟩
      rw [hx] at jc s1 s2 s3 eL
      clear hx kc H3 HS HL HT hle0 hT
      obtain ⟨k, tx, nm, q0, q1, q2, q3⟩ := x
      have p0 : w4.cell? ⟨b, o + i * 7, none⟩ = some (.int .i64 k) := jc 0 _ rfl
      have p1 : w4.cell? ⟨b, o + i * 7 + 1, none⟩ = some (.string tx) := jc 1 _ rfl
      have p2 : w4.cell? ⟨b, o + i * 7 + 2, none⟩ = some (.int .i64 nm) := jc 2 _ rfl
      have p3 : w4.cell? ⟨b, o + i * 7 + 3, none⟩ = some (.int .i64 q0) := jc 3 _ rfl
      have p4 : w4.cell? ⟨b, o + i * 7 + 4, none⟩ = some (.int .i64 q1) := jc 4 _ rfl
      have p5 : w4.cell? ⟨b, o + i * 7 + 5, none⟩ = some (.int .i64 q2) := jc 5 _ rfl
      have p6 : w4.cell? ⟨b, o + i * 7 + 6, none⟩ = some (.int .i64 q3) := jc 6 _ rfl
      have cN := fun W => refNumber_any nm W s2 s3
      have hzN : (⟨(Lib.itoa nm).toArray⟩ : ByteArray).size ≤ 20 := by
        have := Lx.itoa_size nm s2 s3
        show (Lib.itoa nm).toArray.size ≤ 20
        simpa using this
      have eL2 : L i = (k, tx, nm) := eL
      dsimp only at s1
      obtain ⟨D, hD⟩ : ∃ D : ByteArray, D = ⟨(Lib.itoa nm).toArray⟩ := ⟨_, rfl⟩
      rw [← hD] at hzN cN
      have ePt2 : k = 2 → Lx.pt (L i) = D := fun h => by rw [eL2, h, hD]; exact Lx.pt_num tx nm
      have ePt1 : k = 1 → Lx.pt (L i) = (⟨#[Lx.quo tx]⟩ : ByteArray) ++ tx ++ ⟨#[Lx.quo tx]⟩ := fun h => by rw [eL2, h]; rfl
      have ePt0 : k ≠ 2 → k ≠ 1 → Lx.pt (L i) = tx := fun h h1 => by rw [eL2]; exact Lx.pt_else k tx nm h h1
      have HE := hide' (And.intro ePt2 (And.intro ePt1 ePt0))
      have CN := hide' cN
      have HBW := hide' (HB.out.alloc HB.out.size (.cells #[.int .i64 k, .string tx, .int .i64 nm, .int .i64 q0, .int .i64 q1, .int .i64 q2, .int .i64 q3] 43))
      clear jc eL eL2 ePt2 ePt1 ePt0 cN hD s2 s3
      by_cases h0 : i = 0
      · have g0 : ¬ (0 : Int) < (i : Int) := by omega
        have H0 := hide' h0
        clear h0
        by_cases h2 : k = 2
        · have g2 : (k == 2) = true := by simpa using h2
          have E := hide' (HE.out.1 h2)
          clear h2 HE
          go_wp2_with fail
          refine (CN.out _).mono ?_
          rintro e w5 ⟨rfl, hb5⟩
          have HB5 := hide' (HBW.out.trans (hb5.mono HBW.out.size))
          clear hb5
          go_wp2
          exact ⟨⟨i + 1, by rw [Lx.pr_first L i H0.out, E.out], rfl, hlt, HB5.out⟩, by simp [RowKit.intOf]; omega⟩
        · have g2 : (k == 2) = false := by simpa using h2
          by_cases h1 : k = 1
          · have g3 : (k == 1) = true := by simpa using h1
            have E := hide' (HE.out.2.1 h1)
            clear h1 h2 HE CN
            go_wp2_with fail
            have x1 : (w4.alloc (.cells #[.int .i64 k, .string tx, .int .i64 nm, .int .i64 q0, .int .i64 q1, .int .i64 q2, .int .i64 q3] 43)).cell? ⟨w4.heap.size, 1, none⟩ = some (.string tx) := by rw [Lib.cell_of_heap (Lx.heap_new w4 _)]; rfl
            generalize w4.alloc (.cells #[.int .i64 k, .string tx, .int .i64 nm, .int .i64 q0, .int .i64 q1, .int .i64 q2, .int .i64 q3] 43) = W1 at x1 HBW ⊢
            clear p0 p1 p2 p3 p4 p5 p6
            go_loopw [6, 7] (fun v6 v7 wx => ∃ y : Nat, v6 = .string (Lx.quoK tx y) ∧ v7 = .int .i64 y ∧ y ≤ tx.size ∧ wx = W1) (fun _ v _ => tx.size - (RowKit.intOf v).toNat)
            case atStart => exact ⟨0, by rw [Lx.quoK_zero], rfl, Nat.zero_le _, rfl⟩
            case round =>
              obtain ⟨y, rfl, rfl, hy, rfl⟩ := hrel
              by_cases hyl : y < tx.size
              · have t2 : (y : Int) < (tx.size : Int) := by omega
                have eN := Lx.quoK_next tx y hyl
                by_cases c : (tx[y] : UInt8) = 34
                · have g : (((tx[y] : UInt8).toNat : Int) == 34) = true := by rw [c]; rfl
                  rw [if_pos c] at eN
                  have HN := hide' eN
                  clear c eN
                  go_wp2
                  exact ⟨⟨y + 1, by rw [HN.out], rfl, hyl, trivial⟩, by simp [RowKit.intOf]; omega⟩
                · have g : (((tx[y] : UInt8).toNat : Int) == 34) = false := by
                    rw [beq_eq_false_iff_ne]
                    intro e
                    exact c (UInt8.toNat_inj.1 (by show _ = 34; omega))
                  rw [if_neg c] at eN
                  have HN := hide' eN
                  clear c eN
                  go_wp2
                  exact ⟨⟨y + 1, by rw [HN.out], rfl, hyl, trivial⟩, by simp [RowKit.intOf]; omega⟩
              · obtain rfl : y = tx.size := by omega
                rw [Lx.quoK_all]
                have t2 : ¬ (tx.size : Int) < (tx.size : Int) := by omega
                have zq : (⟨#[Lx.quo tx]⟩ : ByteArray).size = 1 := rfl
                go_wp2
                exact ⟨⟨i + 1, by rw [Lx.pr_first L i H0.out, E.out], rfl, hlt, HBW.out⟩, by simp [RowKit.intOf]; omega⟩
          · have g3 : (k == 1) = false := by simpa using h1
            have E := hide' (HE.out.2.2 h2 h1)
            clear h1 h2 HE CN
            go_wp2
            exact ⟨⟨i + 1, by rw [Lx.pr_first L i H0.out, E.out], rfl, hlt, HBW.out⟩, by simp [RowKit.intOf]; omega⟩
      · have g0 : (0 : Int) < (i : Int) := by omega
        have H0 := hide' h0
        clear h0
        by_cases h2 : k = 2
        · have g2 : (k == 2) = true := by simpa using h2
          have E := hide' (HE.out.1 h2)
          clear h2 HE
          go_wp2_with fail
          refine (CN.out _).mono ?_
          rintro e w5 ⟨rfl, hb5⟩
          have HB5 := hide' (HBW.out.trans (hb5.mono HBW.out.size))
          clear hb5
          go_wp2
          exact ⟨⟨i + 1, by rw [Lx.pr_next L i H0.out, E.out], rfl, hlt, HB5.out⟩, by simp [RowKit.intOf]; omega⟩
        · have g2 : (k == 2) = false := by simpa using h2
          by_cases h1 : k = 1
          · have g3 : (k == 1) = true := by simpa using h1
            have E := hide' (HE.out.2.1 h1)
            clear h1 h2 HE CN
            go_wp2_with fail
            have x1 : (w4.alloc (.cells #[.int .i64 k, .string tx, .int .i64 nm, .int .i64 q0, .int .i64 q1, .int .i64 q2, .int .i64 q3] 43)).cell? ⟨w4.heap.size, 1, none⟩ = some (.string tx) := by rw [Lib.cell_of_heap (Lx.heap_new w4 _)]; rfl
            generalize w4.alloc (.cells #[.int .i64 k, .string tx, .int .i64 nm, .int .i64 q0, .int .i64 q1, .int .i64 q2, .int .i64 q3] 43) = W1 at x1 HBW ⊢
            clear p0 p1 p2 p3 p4 p5 p6
            go_loopw [6, 7] (fun v6 v7 wx => ∃ y : Nat, v6 = .string (Lx.quoK tx y) ∧ v7 = .int .i64 y ∧ y ≤ tx.size ∧ wx = W1) (fun _ v _ => tx.size - (RowKit.intOf v).toNat)
            case atStart => exact ⟨0, by rw [Lx.quoK_zero], rfl, Nat.zero_le _, rfl⟩
            case round =>
              obtain ⟨y, rfl, rfl, hy, rfl⟩ := hrel
              by_cases hyl : y < tx.size
              · have t2 : (y : Int) < (tx.size : Int) := by omega
                have eN := Lx.quoK_next tx y hyl
                by_cases c : (tx[y] : UInt8) = 34
                · have g : (((tx[y] : UInt8).toNat : Int) == 34) = true := by rw [c]; rfl
                  rw [if_pos c] at eN
                  have HN := hide' eN
                  clear c eN
                  go_wp2
                  exact ⟨⟨y + 1, by rw [HN.out], rfl, hyl, trivial⟩, by simp [RowKit.intOf]; omega⟩
                · have g : (((tx[y] : UInt8).toNat : Int) == 34) = false := by
                    rw [beq_eq_false_iff_ne]
                    intro e
                    exact c (UInt8.toNat_inj.1 (by show _ = 34; omega))
                  rw [if_neg c] at eN
                  have HN := hide' eN
                  clear c eN
                  go_wp2
                  exact ⟨⟨y + 1, by rw [HN.out], rfl, hyl, trivial⟩, by simp [RowKit.intOf]; omega⟩
              · obtain rfl : y = tx.size := by omega
                rw [Lx.quoK_all]
                have t2 : ¬ (tx.size : Int) < (tx.size : Int) := by omega
                have zq : (⟨#[Lx.quo tx]⟩ : ByteArray).size = 1 := rfl
                go_wp2
                exact ⟨⟨i + 1, by rw [Lx.pr_next L i H0.out, E.out], rfl, hlt, HBW.out⟩, by simp [RowKit.intOf]; omega⟩
          · have g3 : (k == 1) = false := by simpa using h1
            have E := hide' (HE.out.2.2 h2 h1)
            clear h1 h2 HE CN
            go_wp2
            exact ⟨⟨i + 1, by rw [Lx.pr_next L i H0.out, E.out], rfl, hlt, HBW.out⟩, by simp [RowKit.intOf]; omega⟩
    · have t1 : ¬ (i : Int) < (n : Int) := by omega
      obtain rfl : i = n := by omega
      clear hi hlt H3 HS HL HT
      go_wp2
      go_ret
      exact ⟨rfl, HB.out⟩
end Go.Proofs.YtoccedbnnafjcaaDoor
/-
  THE WALK over gimletlaw10.alike, where the words are alike.
-/
namespace Go.Proofs.YtoccedbnnafjcaaDoor
open Go.RowKit Go.Lib
set_option maxRecDepth 100000 in
set_option maxHeartbeats 4000000 in
theorem lxAlike (va vb : Value) (n : Nat) (X Y : Nat → Lx.Wx) (pl : Bool) (w : World) (hA : Lx.WRow w va n X) (hB : Lx.WRow w vb n Y) (hk : ∀ i, i < n → (X i).key = (Y i).key) (hp : pl = true → ∀ i, i < n → X i = Y i) :
    Calls Tryd.prog 10 #[va, vb, .bool pl] w fun e w' => e = .returned (.bool true) ∧ Below w.heap.size w w' := by
  obtain ⟨pa, ca, rfl, a1, a2, a3⟩ := hA
  obtain ⟨pb, cb, rfl, b1, b2, b3⟩ := hB
  have HA := hide' a3
  have HB := hide' b3
  have HK := hide' hk
  have HP := hide' hp
  clear a3 b3 hk hp
  go_enter Tryd.func10, Tryd.ntmps10
  go_wp2_with fail
  go_loopw [7] (fun v wr => ∃ i : Nat, v = .int .i64 i ∧ i ≤ n ∧ Below w.heap.size w wr) (fun v _ => n - (RowKit.intOf v).toNat)
  case atStart => exact ⟨0, rfl, Nat.zero_le _, Below.refl _ _⟩
  case round =>
    obtain ⟨i, rfl, hi, hbr⟩ := hrel
    have HR := hide' hbr
    clear hbr
    by_cases hlt : i < n
    · have t1 : (i : Int) < (n : Int) := by omega
      obtain ⟨g, o, rfl, ka⟩ := HA.out (by omega)
      obtain ⟨h, q, rfl, kb⟩ := HB.out (by omega)
      have ja : ∀ j u, (X i).cs[j]? = some u → wr.cell? ⟨g, o + i * 7 + j, none⟩ = some u := fun j u h2 => (HR.out.cell (p := ⟨g, o + i * 7 + j, none⟩) (block_lt_of_cell (ka i j u hlt h2))).trans (ka i j u hlt h2)
      have jb : ∀ j u, (Y i).cs[j]? = some u → wr.cell? ⟨h, q + i * 7 + j, none⟩ = some u := fun j u h2 => (HR.out.cell (p := ⟨h, q + i * 7 + j, none⟩) (block_lt_of_cell (kb i j u hlt h2))).trans (kb i j u hlt h2)
      have ek := HK.out i hlt
      have ep := fun e => HP.out e i hlt
      obtain ⟨x, hx⟩ : ∃ x, X i = x := ⟨_, rfl⟩
      obtain ⟨y, hy⟩ : ∃ y, Y i = y := ⟨_, rfl⟩
      rw [hx] at ja ek ep
      rw [hy] at jb ek ep
      clear hx hy ka kb HA HB HK HP
      cases pl with
      | true =>
        obtain rfl := ep rfl
        obtain ⟨k, tx, nm, q0, q1, q2, q3⟩ := x
        have p0 : wr.cell? ⟨g, o + i * 7, none⟩ = some (.int .i64 k) := ja 0 _ rfl
        have p1 : wr.cell? ⟨g, o + i * 7 + 1, none⟩ = some (.string tx) := ja 1 _ rfl
        have p2 : wr.cell? ⟨g, o + i * 7 + 2, none⟩ = some (.int .i64 nm) := ja 2 _ rfl
        have p3 : wr.cell? ⟨g, o + i * 7 + 3, none⟩ = some (.int .i64 q0) := ja 3 _ rfl
        have p4 : wr.cell? ⟨g, o + i * 7 + 4, none⟩ = some (.int .i64 q1) := ja 4 _ rfl
        have p5 : wr.cell? ⟨g, o + i * 7 + 5, none⟩ = some (.int .i64 q2) := ja 5 _ rfl
        have p6 : wr.cell? ⟨g, o + i * 7 + 6, none⟩ = some (.int .i64 q3) := ja 6 _ rfl
        have r0 : wr.cell? ⟨h, q + i * 7, none⟩ = some (.int .i64 k) := jb 0 _ rfl
        have r1 : wr.cell? ⟨h, q + i * 7 + 1, none⟩ = some (.string tx) := jb 1 _ rfl
        have r2 : wr.cell? ⟨h, q + i * 7 + 2, none⟩ = some (.int .i64 nm) := jb 2 _ rfl
        have r3 : wr.cell? ⟨h, q + i * 7 + 3, none⟩ = some (.int .i64 q0) := jb 3 _ rfl
        have r4 : wr.cell? ⟨h, q + i * 7 + 4, none⟩ = some (.int .i64 q1) := jb 4 _ rfl
        have r5 : wr.cell? ⟨h, q + i * 7 + 5, none⟩ = some (.int .i64 q2) := jb 5 _ rfl
        have r6 : wr.cell? ⟨h, q + i * 7 + 6, none⟩ = some (.int .i64 q3) := jb 6 _ rfl
        clear ja jb ek ep
        go_wp2_with fail
        go_quiet (fail)
        go_wp2_with fail
        exact ⟨⟨i + 1, rfl, hlt, below_drewN HR.out nq⟩, by simp [RowKit.intOf]; omega⟩
      | false =>
        obtain ⟨k, tx, nm, q0, q1, q2, q3⟩ := x
        obtain ⟨k', tx', nm', z0, z1, z2, z3⟩ := y
        simp only [Lx.Wx.key, Prod.mk.injEq] at ek
        obtain ⟨rfl, rfl, rfl⟩ := ek
        have p0 : wr.cell? ⟨g, o + i * 7, none⟩ = some (.int .i64 k) := ja 0 _ rfl
        have p1 : wr.cell? ⟨g, o + i * 7 + 1, none⟩ = some (.string tx) := ja 1 _ rfl
        have p2 : wr.cell? ⟨g, o + i * 7 + 2, none⟩ = some (.int .i64 nm) := ja 2 _ rfl
        have r0 : wr.cell? ⟨h, q + i * 7, none⟩ = some (.int .i64 k) := jb 0 _ rfl
        have r1 : wr.cell? ⟨h, q + i * 7 + 1, none⟩ = some (.string tx) := jb 1 _ rfl
        have r2 : wr.cell? ⟨h, q + i * 7 + 2, none⟩ = some (.int .i64 nm) := jb 2 _ rfl
        clear ja jb ep
        go_wp2_with fail
        go_quiet (fail)
        go_wp2_with fail
        exact ⟨⟨i + 1, rfl, hlt, below_drewN HR.out nq⟩, by simp [RowKit.intOf]; omega⟩
    · have t1 : ¬ (i : Int) < (n : Int) := by omega
      clear hlt hi HA HB HK HP
      go_wp2
      go_ret
      exact ⟨rfl, HR.out⟩
end Go.Proofs.YtoccedbnnafjcaaDoor
