/-
  WALKS over kleene.loose and kleene.Simplify.
-/
import Derived.Test.YtmpmlccomgepjaaKlOf
namespace Go.Proofs.Ytmpmlccomgepjaa
open Go.RowKit Go.Lib Go.Sort
namespace Kl
def LooOf (a : Fv) : Prop := ∀ w vv vs r, Ok w a → Ts w vv vs → isF (ct a) r = true → sz (ct a) ≤ 1048576 → Calls Try.prog 18 #[.agg a.enc.toArray, vv] w fun r' w' => LseE w (lse vs (ct a)) r' w'
theorem areF_mem {r : Nat} : ∀ {l : List Fm}, areF l r = true → ∀ x ∈ l, isF x r = true
  | [], _, x, hx => by cases hx
  | a :: l, h, x, hx => by
    rw [areF, Bool.and_eq_true] at h
    rcases List.mem_cons.1 hx with e | e
    · rw [e]; exact h.1
    · exact areF_mem h.2 x e
theorem isF_cases {o v n : Int} {l : List Fm} {r : Nat} (h : isF (.mk o v n l) r = true) : o = 0 ∨ (o = 1 ∧ 0 ≤ n) ∨ ((o = 2 ∨ o = 3) ∧ ∀ x ∈ l, isF x (r - 1) = true) ∨ (o = 4 ∧ l.length = 1 ∧ ∀ x ∈ l, isF x (r - 1) = true) := by
  rw [isF] at h
  split at h
  · cases h
  · split at h
    · rename_i e; exact .inl e
    · split at h
      · rename_i e; simp only [Bool.and_eq_true, decide_eq_true_eq] at h; exact .inr (.inl ⟨e, h.1.1.2⟩)
      · split at h
        · rename_i e; simp only [Bool.and_eq_true] at h; exact .inr (.inr (.inl ⟨e, areF_mem h.2⟩))
        · split at h
          · rename_i e; simp only [Bool.and_eq_true] at h; exact .inr (.inr (.inr ⟨e, by simpa using h.1.2, areF_mem h.2⟩))
          · cases h
theorem varC_enc (n t : Int) : ∃ yo yv yn, varC n t = #[.int .i64 yo, .int .i64 yv, .int .i64 yn, .slice none 0 0] ∧ (yo = 0 ∨ yo = 1) ∧ Fm.mk yo yv yn [] = varF n t := by
  unfold varC varF
  by_cases h : t = 1
  · rw [if_pos h, if_pos h]
    exact ⟨1, 0, n, rfl, .inr rfl, rfl⟩
  · rw [if_neg h, if_neg h]
    exact ⟨0, t, 0, rfl, .inl rfl, rfl⟩
end Kl
set_option maxRecDepth 100000 in
set_option maxHeartbeats 2000000 in
theorem klLooVar (xv xn : Int) (xp : Option Addr) (kx xc : Nat) (w : World) (vv : Value) (vs : List Int) (hv : Kl.Ts w vv vs) (hn : 0 ≤ xn) :
    Calls Try.prog 18 #[.agg #[.int .i64 1, .int .i64 xv, .int .i64 xn, .slice xp kx xc], vv] w fun r' w' => Kl.LseE w (Kl.varF xn (Kl.valL vs xn)) r' w' := by
  obtain ⟨yo, yv, yn, y1, y2, y3⟩ := Kl.varC_enc xn (Kl.valL vs xn)
  have cV := fun W (hb : Below w.heap.size w W) => klValueOf xn vv vs W (hv.below hb) hn
  have cW := fun W => klVariable xn (Kl.valL vs xn) W
  simp only [y1] at cW
  obtain ⟨t, ht⟩ : ∃ t, Kl.valL vs xn = t := ⟨_, rfl⟩
  simp only [ht] at cV cW y3 ⊢
  obtain ⟨pv, cv, rfl, _⟩ := hv
  obtain ⟨nv, hnv⟩ : ∃ nv, vs.length = nv := ⟨_, rfl⟩
  simp only [hnv] at cV ⊢
  have CV := hide' cV
  have CW := hide' cW
  have Y2 := hide' y2
  have Y3 := hide' y3
  clear cV cW y1 y2 y3 ht hnv
  go_enter Try.func18, Try.ntmps18
  go_wp2_with fail
  generalize hW : (w.alloc (.cells #[.int .i64 1, .int .i64 xv, .int .i64 xn, .slice xp kx xc] 26)).alloc (.cells #[.int .i64 0, .int .i64 0, .int .i64 0, .slice none 0 0] 26) = W
  have HBW : Hid (Below w.heap.size w W) := by rw [← hW]; exact ((Below.refl _ _).alloc (Nat.le_refl _) _).alloc (by simp) _
  have SZW : Hid (W.heap.size = w.heap.size + 2) := by show W.heap.size = _; rw [← hW]; simp
  have b2 : W.cell? ⟨w.heap.size, 2, none⟩ = some (.int .i64 xn) := by rw [← hW]; simp
  have HD0 : Hid (W.cell? ⟨w.heap.size + 1, 0, none⟩ = some (.int .i64 0)) := by show W.cell? _ = _; rw [← hW]; simp
  have HD1 : Hid (W.cell? ⟨w.heap.size + 1, 1, none⟩ = some (.int .i64 0)) := by show W.cell? _ = _; rw [← hW]; simp
  have HD2 : Hid (W.cell? ⟨w.heap.size + 1, 2, none⟩ = some (.int .i64 0)) := by show W.cell? _ = _; rw [← hW]; simp
  have HD3 : Hid (W.cell? ⟨w.heap.size + 1, 3, none⟩ = some (.slice none 0 0)) := by show W.cell? _ = _; rw [← hW]; simp
  have HF : Hid (∀ o, W.frozen? ⟨w.heap.size + 1, o, none⟩ = false) := fun o => by rw [← hW]; simp
  obtain ⟨S, hSd⟩ : ∃ S : World → Prop, S = fun w' => w'.cell? ⟨w.heap.size, 2, none⟩ = some (.int .i64 xn) := ⟨_, rfl⟩
  have HSO : Hid (∀ W', S W' → W'.cell? ⟨w.heap.size, 2, none⟩ = some (.int .i64 xn)) := fun W' h => by rw [hSd] at h; exact h
  have HSI : Hid (∀ W', W'.cell? ⟨w.heap.size, 2, none⟩ = some (.int .i64 xn) → S W') := fun W' h => by rw [hSd]; exact h
  have hS0 : S W.drew := HSI.out _ b2
  have B2 := hide' b2
  clear hW hSd b2
  refine wp_region_held_drew (S := S) (by kernel_rfl) hS0 (fun hHeld => ?_)
  simp only [List.size_toArray, List.length_cons, List.length_nil, Nat.reduceAdd]
  refine wpAnyH_take (i := 0) (v := .pointer (some ⟨w.heap.size, 2, none⟩)) rfl (by kernel_rfl) (by kernel_rfl) (by kernel_rfl) (fun _ _ _ h => h) (Or.inl ⟨by rfl, ?y0⟩) (by assumption) ?_
  case y0 => (intro w' hSw; have hb3 := HSO.out w' hSw; go_simp)
  try simp only [List.getElem_toArray, List.getElem_cons_zero, Act.put, List.setIfInBounds_toArray, List.set_cons_zero, List.set_cons_succ]
  refine wpAnyH_take (i := 1) (v := .int .i64 xn) rfl (by kernel_rfl) (by kernel_rfl) (by kernel_rfl) (fun _ _ _ h => h) (Or.inl ⟨by rfl, ?y1⟩) (by assumption) ?_
  case y1 => (intro w' hSw; have hb3 := HSO.out w' hSw; go_simp)
  try simp only [List.getElem_toArray, List.getElem_cons_zero, List.getElem_cons_succ, Act.put, List.setIfInBounds_toArray, List.set_cons_zero, List.set_cons_succ]
  refine wpAnyH_take (i := 2) (v := .pointer (some ⟨w.heap.size, 2, none⟩)) rfl (by kernel_rfl) (by kernel_rfl) (by kernel_rfl) (fun _ _ _ h => h) (Or.inl ⟨by rfl, ?y2⟩) (by assumption) ?_
  case y2 => (intro w' hSw; have hb3 := HSO.out w' hSw; go_simp)
  try simp only [List.getElem_toArray, List.getElem_cons_zero, List.getElem_cons_succ, Act.put, List.setIfInBounds_toArray, List.set_cons_zero, List.set_cons_succ]
  refine wpAnyH_take (i := 3) (v := .int .i64 xn) rfl (by kernel_rfl) (by kernel_rfl) (by kernel_rfl) (fun _ _ _ h => h) (Or.inl ⟨by rfl, ?y3⟩) (by assumption) ?_
  case y3 => (intro w' hSw; have hb3 := HSO.out w' hSw; go_simp)
  try simp only [List.getElem_toArray, List.getElem_cons_zero, List.getElem_cons_succ, Act.put, List.setIfInBounds_toArray, List.set_cons_zero, List.set_cons_succ]
  refine wpAnyH_take (i := 4) (v := .slice pv nv cv) rfl (by kernel_rfl) (by kernel_rfl) (by kernel_rfl) (fun _ _ _ h => h) (Or.inl ⟨by rfl, ?y4⟩) (by assumption) ?_
  case y4 => (intro w' hSw; have hb3 := HSO.out w' hSw; go_simp)
  try simp only [List.getElem_toArray, List.getElem_cons_zero, List.getElem_cons_succ, Act.put, List.setIfInBounds_toArray, List.set_cons_zero, List.set_cons_succ]
  refine wpAnyH_ready (rs := [5]) (by kernel_rfl) (by simp) ?_
  refine AllReadyH.cons rfl (fun K hK => ?_) AllReadyH.nil
  try simp only [List.getElem_toArray, List.getElem_cons_zero, List.getElem_cons_succ, Act.put, List.setIfInBounds_toArray, List.set_cons_zero, List.set_cons_succ]
  go_simp
  refine (CV.out W.drew HBW.out.drew).mono ?_
  rintro r w1 ⟨rfl, rfl⟩
  refine hK.out _ _ hS0 (fun hHeld9 => ?_)
  clear hK K
  try simp only [List.getElem_toArray, List.getElem_cons_zero, List.getElem_cons_succ, Act.put, List.setIfInBounds_toArray, List.set_cons_zero, List.set_cons_succ]
  refine wpAnyH_ready (rs := [6]) (by kernel_rfl) (by simp) ?_
  refine AllReadyH.cons rfl (fun K hK => ?_) AllReadyH.nil
  try simp only [List.getElem_toArray, List.getElem_cons_zero, List.getElem_cons_succ, Act.put, List.setIfInBounds_toArray, List.set_cons_zero, List.set_cons_succ]
  go_simp
  refine (CW.out W.drew).mono ?_
  rintro r w1 ⟨rfl, hb1⟩
  obtain ⟨rc, rf⟩ := Kl.bc hb1
  have hsz : W.drew.heap.size = w.heap.size + 2 := SZW.out
  have hS1 : S w1 := HSI.out _ ((rc w.heap.size 2 (by rw [hsz]; omega)).trans B2.out)
  have k2 := (rc w.heap.size 2 (by rw [hsz]; omega)).trans B2.out
  have d0 := (rc (w.heap.size + 1) 0 (by rw [hsz]; omega)).trans HD0.out
  have d1 := (rc (w.heap.size + 1) 1 (by rw [hsz]; omega)).trans HD1.out
  have d2 := (rc (w.heap.size + 1) 2 (by rw [hsz]; omega)).trans HD2.out
  have d3 := (rc (w.heap.size + 1) 3 (by rw [hsz]; omega)).trans HD3.out
  have d4 : ∀ o, w1.frozen? ⟨w.heap.size + 1, o, none⟩ = false := fun o => (rf (w.heap.size + 1) o (by rw [hsz]; omega)).trans (HF.out o)
  have HB1 : Hid (Below W.heap.size W w1) := (Below.refl W.heap.size W).drew.trans hb1
  clear rc rf hsz hb1
  refine hK.out _ _ hS1 (fun hHeld8 => ?_)
  clear hK K
  try simp only [List.getElem_toArray, List.getElem_cons_zero, List.getElem_cons_succ, Act.put, List.setIfInBounds_toArray, List.set_cons_zero, List.set_cons_succ]
  refine wpAnyH_ready (rs := [7]) (by kernel_rfl) (by simp) ?_
  refine AllReadyH.cons rfl (fun K hK => ?_) AllReadyH.nil
  try simp only [List.getElem_toArray, List.getElem_cons_zero, List.getElem_cons_succ, Act.put]
  go_simp
  refine hK.out _ _ ?hS2 (fun hHeld7 => ?_)
  case hS2 =>
    refine HSI.out _ ?_
    refine (Kl.cell_setc ?_ _).trans ((Kl.cell_setc ?_ _).trans ((Kl.cell_setc ?_ _).trans ((Kl.cell_setc ?_ _).trans k2))) <;> (show ¬ w.heap.size = w.heap.size + 1; omega)
  clear hK K
  try simp only [List.getElem_toArray, List.getElem_cons_zero, List.getElem_cons_succ, Act.put, List.setIfInBounds_toArray, List.set_cons_zero, List.set_cons_succ]
  refine wpAnyH_done (by kernel_rfl) ?_ _
  go_wp2_with fail
  refine bodyPost_ret (v := .agg #[.int .i64 yo, .int .i64 yv, .int .i64 yn, .slice none 0 0]) (by simp [results, Try.results18, go_sem, d0, d1, d2, d3]) rfl ?_
  exact Kl.fin4 (y := .mk yo yv yn none 0 []) HBW.out SZW.out HB1.out (Kl.lo_leaf _ _ _ _ Y2.out) (by rw [Kl.ct_mk]; exact Y3.out) (by rw [Kl.fp_leaf]; simp) _ _ _ _
end Go.Proofs.Ytmpmlccomgepjaa
